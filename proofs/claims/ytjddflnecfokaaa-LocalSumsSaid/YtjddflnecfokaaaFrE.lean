/- Contracts of package frame: Back. -/
import Derived.Test.YtjddflnecfokaaaFrD
namespace Go.Proofs.Ytjddflnecfokaaa
open Go.ChangeShapes Go.WideShapes Go.ChangeAt Go.RowKit
open Gen

/-- a thread and an error -/
def ThPost (t : Thr) (x : Int) (w : World) (e : Ending) (w' : World) : Prop :=
  ∃ fa fc la lc, e = .returned (.tuple #[.agg #[.int .i64 t.pc, .int .i64 (t.r 0), .int .i64 (t.r 1), .int .i64 (t.r 2), .int .i64 (t.r 3), .int .i64 (t.r 4), .int .i64 (t.r 5), .int .i64 (t.r 6), .int .i64 (t.r 7), .slice fa t.fs.length fc, .int .i64 t.st, .int .i64 t.ft, .slice la t.lf.length lc], .int .i64 x]) ∧ ThF w' fa t.fs.length fc la t.lf.length lc t ∧ Below w.heap.size w w'
theorem thPost_eq {t t' : Thr} {x x' : Int} {w w' : World} {e : Ending} (ht : t = t') (hx : x = x') (h : ThPost t' x' w e w') : ThPost t x w e w' := by subst ht; subst hx; exact h
/-- a thread's lists lie in blocks of that word -/
structure ThQ (Q : Nat → Prop) (w : World) (fa : Option Addr) (fn fc : Nat) (la : Option Addr) (ln lc : Nat) (t : Thr) : Prop where
  fcap : Cap fa fn fc
  fs : Vs repFr Q w fa fn t.fs
  lcap : Cap la ln lc
  lf : Vs repInt Q w la ln t.lf
theorem ThQ.f {Q : Nat → Prop} {w : World} {fa la : Option Addr} {fn fc ln lc : Nat} {t : Thr} (h : ThQ Q w fa fn fc la ln lc t) : ThF w fa fn fc la ln lc t := ⟨h.fcap, vs_any h.fs, h.lcap, vs_any h.lf⟩
theorem thQ_keep {Q : Nat → Prop} {w w' : World} {fa la : Option Addr} {fn fc ln lc : Nat} {t : Thr} (hk : Kept Q w w') (h : ThQ Q w fa fn fc la ln lc t) : ThQ Q w' fa fn fc la ln lc t := ⟨h.fcap, vs_keep hk h.fs, h.lcap, vs_keep hk h.lf⟩
theorem thQ_mono {Q Q' : Nat → Prop} {w : World} {fa la : Option Addr} {fn fc ln lc : Nat} {t : Thr} (hQ : ∀ b, Q b → Q' b) (h : ThQ Q w fa fn fc la ln lc t) : ThQ Q' w fa fn fc la ln lc t := ⟨h.fcap, vs_mono hQ h.fs, h.lcap, vs_mono hQ h.lf⟩
theorem thQ_old {w : World} {fa la : Option Addr} {fn fc ln lc : Nat} {t : Thr} (h : ThF w fa fn fc la ln lc t) : ThQ (fun b => b < w.heap.size) w fa fn fc la ln lc t := ⟨h.fcap, vs_old h.fs, h.lcap, vs_old h.lf⟩
/-- a thread in new memory, and an error -/
def ThPostF (t : Thr) (x : Int) (w : World) (e : Ending) (w' : World) : Prop :=
  ∃ fa fc la lc, e = .returned (.tuple #[.agg #[.int .i64 t.pc, .int .i64 (t.r 0), .int .i64 (t.r 1), .int .i64 (t.r 2), .int .i64 (t.r 3), .int .i64 (t.r 4), .int .i64 (t.r 5), .int .i64 (t.r 6), .int .i64 (t.r 7), .slice fa t.fs.length fc, .int .i64 t.st, .int .i64 t.ft, .slice la t.lf.length lc], .int .i64 x]) ∧ ThQ (fun b => w.heap.size ≤ b) w' fa t.fs.length fc la t.lf.length lc t ∧ Below w.heap.size w w'
theorem ThPostF.post {t : Thr} {x : Int} {w w' : World} {e : Ending} (h : ThPostF t x w e w') : ThPost t x w e w' := by
  obtain ⟨fa, fc, la, lc, h1, h2, h3⟩ := h
  exact ⟨fa, fc, la, lc, h1, h2.f, h3⟩
theorem thPostF_eq {t t' : Thr} {x x' : Int} {w w' : World} {e : Ending} (ht : t = t') (hx : x = x') (h : ThPostF t' x' w e w') : ThPostF t x w e w' := by subst ht; subst hx; exact h
theorem zThr_postF {t : Thr} {x y : Int} {w w' : World} (ht : t = zThr) (hx : x = y) (hb : Below w.heap.size w w') : ThPostF t x w (.returned (.tuple #[.agg #[.int .i64 0, .int .i64 0, .int .i64 0, .int .i64 0, .int .i64 0, .int .i64 0, .int .i64 0, .int .i64 0, .int .i64 0, .slice none 0 0, .int .i64 0, .int .i64 0, .slice none 0 0], .int .i64 y])) w' := by
  subst ht; subst hx
  exact ⟨none, 0, none, 0, rfl, ⟨cap_nil, vs_nil, cap_nil, vs_nil⟩, hb⟩
def backE (t : Thr) : Int := if rightT t = true then (if t.fs.length = 0 then 8 else 0) else 1
def lastF (t : Thr) : Fr := t.fs.getD (t.fs.length - 1) (0, 0, 0, 0, 0)
def backT (t : Thr) : Thr := if backE t = 0 then ⟨(lastF t).1, resR t.r (lastF t).2.1 (lastF t).2.2.1 (lastF t).2.2.2.1 (lastF t).2.2.2.2, t.fs.take (t.fs.length - 1), t.st, t.ft, t.lf⟩ else zThr
theorem backT_no {t : Thr} (h : backE t ≠ 0) : backT t = zThr := by rw [backT, if_neg h]
theorem rightT_len {t : Thr} (h : rightT t = true) : t.fs.length ≤ 6 ∧ t.lf.length ≤ 8 := by
  simp only [rightT, Bool.and_eq_true] at h
  exact ⟨rightFs_len h.1.1.2, rightLf_len h.2⟩
theorem zThr_post {t : Thr} {x y : Int} {w w' : World} (ht : t = zThr) (hx : x = y) (hb : Below w.heap.size w w') : ThPost t x w (.returned (.tuple #[.agg #[.int .i64 0, .int .i64 0, .int .i64 0, .int .i64 0, .int .i64 0, .int .i64 0, .int .i64 0, .int .i64 0, .int .i64 0, .slice none 0 0, .int .i64 0, .int .i64 0, .slice none 0 0], .int .i64 y])) w' := by
  subst ht; subst hx
  exact ⟨none, 0, none, 0, rfl, thF_zero _, hb⟩

/-- .. whose frames are other ones -/
def CutT (t : Thr) (fs : List Fr) (w : World) (e : Ending) (w' : World) : Prop :=
  ∃ fa fc la lc, e = .returned (.agg #[.int .i64 t.pc, .int .i64 (t.r 0), .int .i64 (t.r 1), .int .i64 (t.r 2), .int .i64 (t.r 3), .int .i64 (t.r 4), .int .i64 (t.r 5), .int .i64 (t.r 6), .int .i64 (t.r 7), .slice fa fs.length fc, .int .i64 t.st, .int .i64 t.ft, .slice la t.lf.length lc]) ∧ Cap fa fs.length fc ∧ Vs repFr (fun b => w.heap.size ≤ b) w' fa fs.length fs ∧ Cap la t.lf.length lc ∧ Vs repInt (fun b => w.heap.size ≤ b) w' la t.lf.length t.lf ∧ Below w.heap.size w w'
theorem copied_cut (t : Thr) (fs : List Fr) (fa la : Option Addr) (fn fc ln lc : Nat) (w : World) (hf : Cap fa fn fc) (S : Vs repFr Any w fa fn fs) (hl : Cap la ln lc) (L : Vs repInt Any w la ln t.lf) (h1 : fn ≤ 1000) (h2 : ln ≤ 1000) :
    Calls Try.prog 62 #[.agg #[.int .i64 t.pc, .int .i64 (t.r 0), .int .i64 (t.r 1), .int .i64 (t.r 2), .int .i64 (t.r 3), .int .i64 (t.r 4), .int .i64 (t.r 5), .int .i64 (t.r 6), .int .i64 (t.r 7), .slice fa fn fc, .int .i64 t.st, .int .i64 t.ft, .slice la ln lc]] w (CutT t fs w) :=
  (copied_any ⟨t.pc, t.r, fs, t.st, t.ft, t.lf⟩ fa la fn fc ln lc w ⟨hf, S, hl, L⟩ h1 h2).mono (fun _ _ ⟨fa2, fc2, la2, lc2, h, a, _, c, d, e', f⟩ => ⟨fa2, fc2, la2, lc2, h, a, c, d, vs_mono (fun _ h => h.1) e', f⟩)

set_option maxRecDepth 100000 in
set_option maxHeartbeats 8000000 in
theorem frBackF_any (t : Thr) (fa la : Option Addr) (fn fc ln lc : Nat) (w : World) (F : ThF w fa fn fc la ln lc t) :
    Calls Try.prog 61 #[.agg #[.int .i64 t.pc, .int .i64 (t.r 0), .int .i64 (t.r 1), .int .i64 (t.r 2), .int .i64 (t.r 3), .int .i64 (t.r 4), .int .i64 (t.r 5), .int .i64 (t.r 6), .int .i64 (t.r 7), .slice fa fn fc, .int .i64 t.st, .int .i64 t.ft, .slice la ln lc]] w (ThPostF (backT t) (backE t) w) := by
  obtain ⟨W, hW⟩ : ∃ W, W = (w.alloc (Obj.cells #[.int .i64 t.pc, .int .i64 (t.r 0), .int .i64 (t.r 1), .int .i64 (t.r 2), .int .i64 (t.r 3), .int .i64 (t.r 4), .int .i64 (t.r 5), .int .i64 (t.r 6), .int .i64 (t.r 7), .slice fa fn fc, .int .i64 t.st, .int .i64 t.ft, .slice la ln lc] 27)).alloc (Obj.cells #[.int .i64 0, .int .i64 0, .int .i64 0, .int .i64 0, .int .i64 0, .int .i64 0, .int .i64 0, .int .i64 0, .int .i64 0, .slice none 0 0, .int .i64 0, .int .i64 0, .slice none 0 0] 27) := ⟨_, rfl⟩
  have X : VarN W w.heap.size [.int .i64 t.pc, .int .i64 (t.r 0), .int .i64 (t.r 1), .int .i64 (t.r 2), .int .i64 (t.r 3), .int .i64 (t.r 4), .int .i64 (t.r 5), .int .i64 (t.r 6), .int .i64 (t.r 7), .slice fa fn fc, .int .i64 t.st, .int .i64 t.ft, .slice la ln lc] := by rw [hW]; exact varN_A _ (varN_new [.int .i64 t.pc, .int .i64 (t.r 0), .int .i64 (t.r 1), .int .i64 (t.r 2), .int .i64 (t.r 3), .int .i64 (t.r 4), .int .i64 (t.r 5), .int .i64 (t.r 6), .int .i64 (t.r 7), .slice fa fn fc, .int .i64 t.st, .int .i64 t.ft, .slice la ln lc] _ rfl)
  have R : VarN W (w.heap.size + 1) [.int .i64 0, .int .i64 0, .int .i64 0, .int .i64 0, .int .i64 0, .int .i64 0, .int .i64 0, .int .i64 0, .int .i64 0, .slice none 0 0, .int .i64 0, .int .i64 0, .slice none 0 0] := by rw [hW]; exact varN_new [.int .i64 0, .int .i64 0, .int .i64 0, .int .i64 0, .int .i64 0, .int .i64 0, .int .i64 0, .int .i64 0, .int .i64 0, .slice none 0 0, .int .i64 0, .int .i64 0, .slice none 0 0] _ (by simp)
  have hB : Below w.heap.size w W := by rw [hW]; go_grown
  have hz : W.heap.size = w.heap.size + 2 := by rw [hW]; simp
  have FW := thF_B hB F
  have HX := Lib.hid X
  have HR := Lib.hid R
  have HB := Lib.hid hB
  have HW := Lib.hid hW
  have HZ := Lib.hid hz
  have HF := Lib.hid F
  clear hW X R hB F hz
  go_enter Try.func61, Try.ntmps61
  go_upto_region 1 with fail
  rw [← HW.out]
  have k0 := (HX.out 0 _ rfl).1
  have k1 := (HX.out 1 _ rfl).1
  have k2 := (HX.out 2 _ rfl).1
  have k3 := (HX.out 3 _ rfl).1
  have k4 := (HX.out 4 _ rfl).1
  have k5 := (HX.out 5 _ rfl).1
  have k6 := (HX.out 6 _ rfl).1
  have k7 := (HX.out 7 _ rfl).1
  have k8 := (HX.out 8 _ rfl).1
  have k9 := (HX.out 9 _ rfl).1
  have k10 := (HX.out 10 _ rfl).1
  have k11 := (HX.out 11 _ rfl).1
  have k12 := (HX.out 12 _ rfl).1
  cases hr : rightT t with
  | false =>
    have HE := Lib.hid (show backE t = 1 by rw [backE, if_neg (by rw [hr]; decide)])
    have H1 := Lib.hid hr
    clear hr
    go_wp2_with fail
    refine (frRight_any t fa la fn fc ln lc _ FW).mono ?_
    rintro e w1 ⟨rfl, hb1⟩
    rw [H1.out]
    have HR1 := Lib.hid (varN_B hb1 HR.out)
    have HB1 := Lib.hid (below_from HB.out hb1)
    clear hb1 FW k0 k1 k2 k3 k4 k5 k6 k7 k8 k9 k10 k11 k12
    obtain ⟨y0, g0⟩ := HR1.out 0 _ rfl
    obtain ⟨y1, g1⟩ := HR1.out 1 _ rfl
    obtain ⟨y2, g2⟩ := HR1.out 2 _ rfl
    obtain ⟨y3, g3⟩ := HR1.out 3 _ rfl
    obtain ⟨y4, g4⟩ := HR1.out 4 _ rfl
    obtain ⟨y5, g5⟩ := HR1.out 5 _ rfl
    obtain ⟨y6, g6⟩ := HR1.out 6 _ rfl
    obtain ⟨y7, g7⟩ := HR1.out 7 _ rfl
    obtain ⟨y8, g8⟩ := HR1.out 8 _ rfl
    obtain ⟨y9, g9⟩ := HR1.out 9 _ rfl
    obtain ⟨y10, g10⟩ := HR1.out 10 _ rfl
    obtain ⟨y11, g11⟩ := HR1.out 11 _ rfl
    obtain ⟨y12, g12⟩ := HR1.out 12 _ rfl
    go_wp2
    refine bp_cell_tmp ⟨w.heap.size + 1, 0, none⟩ rfl rfl rfl (load_thr _ _ zThr none none 0 0 0 0 (varN_all (xs := [.int .i64 0, .int .i64 0, .int .i64 0, .int .i64 0, .int .i64 0, .int .i64 0, .int .i64 0, .int .i64 0, .int .i64 0, .slice none 0 0, .int .i64 0, .int .i64 0, .slice none 0 0]) HR1.out rfl)) ?_
    exact zThr_postF (backT_no (by rw [HE.out]; decide)) HE.out (below_setN (g := w.heap.size + 1) (xs := [.int .i64 0, .int .i64 0, .int .i64 0, .int .i64 0, .int .i64 0, .int .i64 0, .int .i64 0, .int .i64 0, .int .i64 0, .slice none 0 0, .int .i64 0, .int .i64 0, .slice none 0 0]) (k := 0) (by omega) HB1.out)
  | true =>
    have HL := Lib.hid (rightT_len hr)
    have H1 := Lib.hid hr
    clear hr
    go_wp2_with fail
    refine (frRight_any t fa la fn fc ln lc _ FW).mono ?_
    rintro e w1 ⟨rfl, hb1⟩
    rw [H1.out]
    have hz1 := hb1.size
    rw [HZ.out] at hz1
    have X1 := varN_B hb1 HX.out
    have HX1 := Lib.hid X1
    have HR1 := Lib.hid (varN_B hb1 HR.out)
    have HB1 := Lib.hid (below_from HB.out hb1)
    have F1 := thF_B hb1 FW
    have hfn : t.fs.length = fn := F1.fs.1
    have hln : t.lf.length = ln := F1.lf.1
    have hn6 : fn ≤ 6 := by have := HL.out.1; omega
    have hl8 : ln ≤ 8 := by have := HL.out.2; omega
    have HFN := Lib.hid hfn
    have HLN := Lib.hid hln
    clear hb1 FW k0 k1 k2 k3 k4 k5 k6 k7 k8 k9 k10 k11 k12 hfn hln
    have k9 := (X1 9 _ rfl).1
    clear X1
    by_cases h0 : fn = 0
    · have HE := Lib.hid (show backE t = 8 by rw [backE, if_pos H1.out, if_pos (by rw [HFN.out]; exact h0)])
      subst h0
      clear F1
      obtain ⟨y0, g0⟩ := HR1.out 0 _ rfl
      obtain ⟨y1, g1⟩ := HR1.out 1 _ rfl
      obtain ⟨y2, g2⟩ := HR1.out 2 _ rfl
      obtain ⟨y3, g3⟩ := HR1.out 3 _ rfl
      obtain ⟨y4, g4⟩ := HR1.out 4 _ rfl
      obtain ⟨y5, g5⟩ := HR1.out 5 _ rfl
      obtain ⟨y6, g6⟩ := HR1.out 6 _ rfl
      obtain ⟨y7, g7⟩ := HR1.out 7 _ rfl
      obtain ⟨y8, g8⟩ := HR1.out 8 _ rfl
      obtain ⟨y9, g9⟩ := HR1.out 9 _ rfl
      obtain ⟨y10, g10⟩ := HR1.out 10 _ rfl
      obtain ⟨y11, g11⟩ := HR1.out 11 _ rfl
      obtain ⟨y12, g12⟩ := HR1.out 12 _ rfl
      go_wp2
      refine bp_cell_tmp ⟨w.heap.size + 1, 0, none⟩ rfl rfl rfl (load_thr _ _ zThr none none 0 0 0 0 (varN_all (xs := [.int .i64 0, .int .i64 0, .int .i64 0, .int .i64 0, .int .i64 0, .int .i64 0, .int .i64 0, .int .i64 0, .int .i64 0, .slice none 0 0, .int .i64 0, .int .i64 0, .slice none 0 0]) HR1.out rfl)) ?_
      exact zThr_postF (backT_no (by rw [HE.out]; decide)) HE.out (below_setN (g := w.heap.size + 1) (xs := [.int .i64 0, .int .i64 0, .int .i64 0, .int .i64 0, .int .i64 0, .int .i64 0, .int .i64 0, .int .i64 0, .int .i64 0, .slice none 0 0, .int .i64 0, .int .i64 0, .slice none 0 0]) (k := 0) (by omega) HB1.out)
    · obtain ⟨b, o, x0, x1, x2, x3, x4, rfl, hx, c0, c1, c2, c3, c4⟩ := fr_at F1.fs (show fn - 1 < fn by omega)
      have HE := Lib.hid (show backE t = 0 by rw [backE, if_pos H1.out, if_neg (by rw [HFN.out]; exact h0)])
      have HT := Lib.hid (show backT t = ⟨x0, resR t.r x1 x2 x3 x4, t.fs.take (fn - 1), t.st, t.ft, t.lf⟩ by
        have hl : lastF t = (x0, x1, x2, x3, x4) := by rw [lastF, HFN.out, List.getD_eq_getElem?_getD, hx]; rfl
        rw [backT, if_pos HE.out, hl, HFN.out])
      have i1 : (1 : Int) ≤ fn := by omega
      have i2 : ¬ ((fn : Int) - 1 < 0) := by omega
      have i3 : fn ≤ fc := F1.fcap.1
      have i4 : fc ≤ 9223372036854775807 := F1.fcap.2.1
      have HF1 := Lib.hid F1
      clear F1 hx h0
      obtain ⟨Z0, hZ0⟩ : ∃ Z, Z = w1.alloc (Obj.cells #[.int .i64 x0, .int .i64 x1, .int .i64 x2, .int .i64 x3, .int .i64 x4] 58) := ⟨_, rfl⟩
      have b0 : Below w1.heap.size w1 Z0 := by rw [hZ0]; exact (Below.refl _ _).alloc (Nat.le_refl _) _
      have V0 : VarN Z0 w1.heap.size [.int .i64 x0, .int .i64 x1, .int .i64 x2, .int .i64 x3, .int .i64 x4] := by rw [hZ0]; exact varN_new [.int .i64 x0, .int .i64 x1, .int .i64 x2, .int .i64 x3, .int .i64 x4] _ rfl
      have hzz : Z0.heap.size = w1.heap.size + 1 := by rw [hZ0]; simp
      have X2 := varN_B b0 HX1.out
      have R2 := varN_B b0 HR1.out
      have B2 := below_from HB1.out b0
      have F2 := thF_B b0 HF1.out
      have HZ0 := Lib.hid hZ0
      have HX2 := Lib.hid X2
      clear hZ0
      go_upto_region 7 with fail
      rw [← HZ0.out]
      clear k9 c0 c1 c2 c3 c4
      obtain ⟨k9, g9⟩ := X2 9 _ rfl
      obtain ⟨Z1, hZ1⟩ : ∃ Z, Z = Z0.setCell ⟨w.heap.size, 9, none⟩ (.slice (some ⟨b, o, none⟩) (fn - 1) fc) := ⟨_, rfl⟩
      have Q1 : ∀ bb, bb < w.heap.size ∨ w.heap.size + 2 ≤ bb → bb ≠ w.heap.size := fun bb hb => by omega
      have X3 : VarN Z1 w.heap.size [.int .i64 t.pc, .int .i64 (t.r 0), .int .i64 (t.r 1), .int .i64 (t.r 2), .int .i64 (t.r 3), .int .i64 (t.r 4), .int .i64 (t.r 5), .int .i64 (t.r 6), .int .i64 (t.r 7), .slice (some ⟨b, o, none⟩) (fn - 1) fc, .int .i64 t.st, .int .i64 t.ft, .slice la ln lc] := by rw [hZ1]; exact varN_set X2 9 (by simp) _
      have R3 : VarN Z1 (w.heap.size + 1) [.int .i64 0, .int .i64 0, .int .i64 0, .int .i64 0, .int .i64 0, .int .i64 0, .int .i64 0, .int .i64 0, .int .i64 0, .slice none 0 0, .int .i64 0, .int .i64 0, .slice none 0 0] := by rw [hZ1]; exact varN_other R2 (by omega) _
      have V3 : VarN Z1 w1.heap.size [.int .i64 x0, .int .i64 x1, .int .i64 x2, .int .i64 x3, .int .i64 x4] := by rw [hZ1]; exact varN_other V0 (by omega) _
      have B3 : Below w.heap.size w Z1 := by rw [hZ1]; exact B2.setCell (p := ⟨w.heap.size, 9, none⟩) (Nat.le_refl _) _
      have S3 : Vs repFr Any Z1 (some ⟨b, o, none⟩) (fn - 1) (t.fs.take (fn - 1)) := vs_B B3 (vs_take HF.out.fs (fn - 1) (by omega))
      have L3 : Vs repInt Any Z1 la ln t.lf := vs_B B3 HF.out.lf
      have C3 : Cap (some ⟨b, o, none⟩) (fn - 1) fc := ⟨by omega, i4, fun e => by cases e⟩
      have C4 : Cap la ln lc := HF.out.lcap
      have hz3 : Z1.heap.size = w1.heap.size + 1 := by rw [hZ1, ← hzz]; simp [World.setCell]
      have HZ1 := Lib.hid hZ1
      have HX3 := Lib.hid X3
      have HR3 := Lib.hid R3
      have HV3 := Lib.hid V3
      have HB3 := Lib.hid B3
      have HZ3 := Lib.hid hz3
      clear hZ1 X2 R2 B2 F2 X3 R3 V3 B3 b0 V0 hzz Q1 hz3
      go_upto_region 8 with fail
      rw [← HZ1.out]
      clear k9 g9
      have k0 := (HX3.out 0 _ rfl).1
      have k1 := (HX3.out 1 _ rfl).1
      have k2 := (HX3.out 2 _ rfl).1
      have k3 := (HX3.out 3 _ rfl).1
      have k4 := (HX3.out 4 _ rfl).1
      have k5 := (HX3.out 5 _ rfl).1
      have k6 := (HX3.out 6 _ rfl).1
      have k7 := (HX3.out 7 _ rfl).1
      have k8 := (HX3.out 8 _ rfl).1
      have k9 := (HX3.out 9 _ rfl).1
      have k10 := (HX3.out 10 _ rfl).1
      have k11 := (HX3.out 11 _ rfl).1
      have k12 := (HX3.out 12 _ rfl).1
      go_wp2_with fail
      have h0 := copied_cut t (t.fs.take (fn - 1)) (some ⟨b, o, none⟩) la (fn - 1) fc ln lc Z1 C3 S3 C4 L3 (by omega) (by omega)
      with_reducible refine h0.mono ?_
      clear h0
      rintro e w2 ⟨fa2, fc2, la2, lc2, rfl, d1, d2, d3, d4, hb2⟩
      obtain ⟨fn2, hfn2⟩ : ∃ n, (t.fs.take (fn - 1)).length = n := ⟨_, rfl⟩
      obtain ⟨ln2, hln2⟩ : ∃ n, t.lf.length = n := ⟨_, rfl⟩
      rw [hfn2] at d1 d2 ⊢
      rw [hln2] at d3 d4 ⊢
      have hz2 := hb2.size
      rw [HZ3.out] at hz2
      obtain ⟨Y0, hY0⟩ : ∃ Z, Z = w2.alloc (Obj.cells #[.int .i64 t.pc, .int .i64 (t.r 0), .int .i64 (t.r 1), .int .i64 (t.r 2), .int .i64 (t.r 3), .int .i64 (t.r 4), .int .i64 (t.r 5), .int .i64 (t.r 6), .int .i64 (t.r 7), .slice fa2 fn2 fc2, .int .i64 t.st, .int .i64 t.ft, .slice la2 ln2 lc2] 27) := ⟨_, rfl⟩
      have bY0 : Below w2.heap.size w2 Y0 := by rw [hY0]; exact (Below.refl _ _).alloc (Nat.le_refl _) _
      have K0 : VarN Y0 w2.heap.size [.int .i64 t.pc, .int .i64 (t.r 0), .int .i64 (t.r 1), .int .i64 (t.r 2), .int .i64 (t.r 3), .int .i64 (t.r 4), .int .i64 (t.r 5), .int .i64 (t.r 6), .int .i64 (t.r 7), .slice fa2 fn2 fc2, .int .i64 t.st, .int .i64 t.ft, .slice la2 ln2 lc2] := by rw [hY0]; exact varN_new [.int .i64 t.pc, .int .i64 (t.r 0), .int .i64 (t.r 1), .int .i64 (t.r 2), .int .i64 (t.r 3), .int .i64 (t.r 4), .int .i64 (t.r 5), .int .i64 (t.r 6), .int .i64 (t.r 7), .slice fa2 fn2 fc2, .int .i64 t.st, .int .i64 t.ft, .slice la2 ln2 lc2] _ rfl
      have X4 := varN_B bY0 (varN_B hb2 HX3.out)
      have R4 := varN_B bY0 (varN_B hb2 HR3.out)
      have V4 := varN_B bY0 (varN_B hb2 HV3.out)
      have B4 := below_from (below_from HB3.out hb2) bY0
      have S4 := vs_keep (kept_B bY0) (vs_mono (Q' := fun b => w1.heap.size + 1 ≤ b ∧ b < w2.heap.size) (fun b hb => by have := HZ3.out; omega) (vs_und d2))
      have L4 := vs_keep (kept_B bY0) (vs_mono (Q' := fun b => w1.heap.size + 1 ≤ b ∧ b < w2.heap.size) (fun b hb => by have := HZ3.out; omega) (vs_und d4))
      obtain ⟨Y1, hY1⟩ : ∃ Z, Z = Y0.setCell ⟨w2.heap.size, 0, none⟩ (.int .i64 x0) := ⟨_, rfl⟩
      have K1 : VarN Y1 w2.heap.size (.int .i64 x0 :: ([.int .i64 t.pc, .int .i64 (t.r 0), .int .i64 (t.r 1), .int .i64 (t.r 2), .int .i64 (t.r 3), .int .i64 (t.r 4), .int .i64 (t.r 5), .int .i64 (t.r 6), .int .i64 (t.r 7), .slice fa2 fn2 fc2, .int .i64 t.st, .int .i64 t.ft, .slice la2 ln2 lc2] : List Value).tail) := by rw [hY1]; exact varN_set K0 0 (by simp) _
      have X5 : VarN Y1 w.heap.size [.int .i64 t.pc, .int .i64 (t.r 0), .int .i64 (t.r 1), .int .i64 (t.r 2), .int .i64 (t.r 3), .int .i64 (t.r 4), .int .i64 (t.r 5), .int .i64 (t.r 6), .int .i64 (t.r 7), .slice (some ⟨b, o, none⟩) (fn - 1) fc, .int .i64 t.st, .int .i64 t.ft, .slice la ln lc] := by rw [hY1]; exact varN_other X4 (by omega) _
      have R5 : VarN Y1 (w.heap.size + 1) [.int .i64 0, .int .i64 0, .int .i64 0, .int .i64 0, .int .i64 0, .int .i64 0, .int .i64 0, .int .i64 0, .int .i64 0, .slice none 0 0, .int .i64 0, .int .i64 0, .slice none 0 0] := by rw [hY1]; exact varN_other R4 (by omega) _
      have V5 : VarN Y1 w1.heap.size [.int .i64 x0, .int .i64 x1, .int .i64 x2, .int .i64 x3, .int .i64 x4] := by rw [hY1]; exact varN_other V4 (by omega) _
      have B5 : Below w.heap.size w Y1 := by rw [hY1]; exact B4.setCell (p := ⟨w2.heap.size, 0, none⟩) (by show _ ≤ w2.heap.size; omega) _
      have S5 : Vs repFr (fun b => w1.heap.size + 1 ≤ b ∧ b < w2.heap.size) Y1 fa2 fn2 (t.fs.take (fn - 1)) := by rw [hY1]; exact vs_keep (kept_set _ _ _ (fun b hb => by show b ≠ w2.heap.size; omega)) S4
      have L5 : Vs repInt (fun b => w1.heap.size + 1 ≤ b ∧ b < w2.heap.size) Y1 la2 ln2 t.lf := by rw [hY1]; exact vs_keep (kept_set _ _ _ (fun b hb => by show b ≠ w2.heap.size; omega)) L4
      have HFN2 := Lib.hid hfn2
      have HLN2 := Lib.hid hln2
      have HY0 := Lib.hid hY0
      have HY1 := Lib.hid hY1
      have HK1 := Lib.hid K1
      have HX5 := Lib.hid X5
      have HR5 := Lib.hid R5
      have HV5 := Lib.hid V5
      have HB5 := Lib.hid B5
      have HS5 := Lib.hid S5
      have HL5 := Lib.hid L5
      have HD := Lib.hid (And.intro d1 d3)
      have v0 := (V4 0 _ rfl).1
      obtain ⟨z0, f0⟩ := K0 0 _ rfl
      clear hY0 hY1 K1 X4 R4 V4 B4 S4 L4 K0 X5 R5 V5 B5 S5 L5 d1 d2 d3 d4 hb2 bY0 k0 k1 k2 k3 k4 k5 k6 k7 k8 k9 k10 k11 k12 hfn2 hln2 S3 L3 C3 C4
      go_upto_region 9 with fail
      rw [← HY0.out]
      go_upto_region 10 with fail
      rw [← HY1.out]
      clear v0 z0 f0
      have k0 := (HX5.out 0 _ rfl).1
      have k1 := (HX5.out 1 _ rfl).1
      have k2 := (HX5.out 2 _ rfl).1
      have k3 := (HX5.out 3 _ rfl).1
      have k4 := (HX5.out 4 _ rfl).1
      have k5 := (HX5.out 5 _ rfl).1
      have k6 := (HX5.out 6 _ rfl).1
      have k7 := (HX5.out 7 _ rfl).1
      have k8 := (HX5.out 8 _ rfl).1
      have v0 := (HV5.out 0 _ rfl).1
      have v1 := (HV5.out 1 _ rfl).1
      have v2 := (HV5.out 2 _ rfl).1
      have v3 := (HV5.out 3 _ rfl).1
      have v4 := (HV5.out 4 _ rfl).1
      go_wp2_with fail
      have h0 := restored_any t.r x1 x2 x3 x4 Y1
      with_reducible refine h0.mono ?_
      clear h0
      rintro e w3 ⟨rfl, hb3⟩
      obtain ⟨r2, hr2⟩ : ∃ r2, resR t.r x1 x2 x3 x4 = r2 := ⟨_, rfl⟩
      rw [hr2]
      have HR2 := Lib.hid hr2
      have hz5 : Y1.heap.size ≤ w3.heap.size := hb3.size
      have K2 := varN_B hb3 HK1.out
      have R6 := varN_B hb3 HR5.out
      have B6 := below_from HB5.out hb3
      have S6 := vs_B hb3 HS5.out
      have L6 := vs_B hb3 HL5.out
      obtain ⟨U, hU⟩ : ∃ Z, Z = setN w3 w2.heap.size 1 [.int .i64 (r2 0), .int .i64 (r2 1), .int .i64 (r2 2), .int .i64 (r2 3), .int .i64 (r2 4), .int .i64 (r2 5), .int .i64 (r2 6), .int .i64 (r2 7)] := ⟨_, rfl⟩
      have K3 : VarN U w2.heap.size [.int .i64 x0, .int .i64 (r2 0), .int .i64 (r2 1), .int .i64 (r2 2), .int .i64 (r2 3), .int .i64 (r2 4), .int .i64 (r2 5), .int .i64 (r2 6), .int .i64 (r2 7), .slice fa2 fn2 fc2, .int .i64 t.st, .int .i64 t.ft, .slice la2 ln2 lc2] := by rw [hU]; exact varN_setN (xs := [.int .i64 (r2 0), .int .i64 (r2 1), .int .i64 (r2 2), .int .i64 (r2 3), .int .i64 (r2 4), .int .i64 (r2 5), .int .i64 (r2 6), .int .i64 (r2 7)]) 1 K2 (by simp)
      have R7 : VarN U (w.heap.size + 1) [.int .i64 0, .int .i64 0, .int .i64 0, .int .i64 0, .int .i64 0, .int .i64 0, .int .i64 0, .int .i64 0, .int .i64 0, .slice none 0 0, .int .i64 0, .int .i64 0, .slice none 0 0] := by rw [hU]; exact varN_others (by omega) R6
      have B7 : Below w.heap.size w U := by rw [hU]; exact below_setN (by omega) B6
      have S7 : Vs repFr (fun b => w1.heap.size + 1 ≤ b ∧ b < w2.heap.size) U fa2 fn2 (t.fs.take (fn - 1)) := by rw [hU]; exact vs_keep (kept_setN (fun b hb => by omega)) S6
      have L7 : Vs repInt (fun b => w1.heap.size + 1 ≤ b ∧ b < w2.heap.size) U la2 ln2 t.lf := by rw [hU]; exact vs_keep (kept_setN (fun b hb => by omega)) L6
      have HK3 := Lib.hid K3
      have HR7 := Lib.hid R7
      obtain ⟨U2, hU2⟩ : ∃ Z, Z = setN U (w.heap.size + 1) 0 [.int .i64 x0, .int .i64 (r2 0), .int .i64 (r2 1), .int .i64 (r2 2), .int .i64 (r2 3), .int .i64 (r2 4), .int .i64 (r2 5), .int .i64 (r2 6), .int .i64 (r2 7), .slice fa2 fn2 fc2, .int .i64 t.st, .int .i64 t.ft, .slice la2 ln2 lc2] := ⟨_, rfl⟩
      have R8 : VarN U2 (w.heap.size + 1) [.int .i64 x0, .int .i64 (r2 0), .int .i64 (r2 1), .int .i64 (r2 2), .int .i64 (r2 3), .int .i64 (r2 4), .int .i64 (r2 5), .int .i64 (r2 6), .int .i64 (r2 7), .slice fa2 fn2 fc2, .int .i64 t.st, .int .i64 t.ft, .slice la2 ln2 lc2] := by rw [hU2]; exact varN_all R7 rfl
      have HFIN : Hid (VarN U2 (w.heap.size + 1) [.int .i64 x0, .int .i64 (r2 0), .int .i64 (r2 1), .int .i64 (r2 2), .int .i64 (r2 3), .int .i64 (r2 4), .int .i64 (r2 5), .int .i64 (r2 6), .int .i64 (r2 7), .slice fa2 fn2 fc2, .int .i64 t.st, .int .i64 t.ft, .slice la2 ln2 lc2] ∧ ThQ (fun b => w.heap.size ≤ b) U2 fa2 fn2 fc2 la2 ln2 lc2 ⟨x0, r2, t.fs.take (fn - 1), t.st, t.ft, t.lf⟩ ∧ Below w.heap.size w U2) :=
        ⟨R8, ⟨HD.out.1, vs_mono (Q := fun b => w1.heap.size + 1 ≤ b ∧ b < w2.heap.size) (fun b hb => by omega) (by rw [hU2]; exact vs_keep (kept_setN (fun b hb => by omega)) S7), HD.out.2, vs_mono (Q := fun b => w1.heap.size + 1 ≤ b ∧ b < w2.heap.size) (fun b hb => by omega) (by rw [hU2]; exact vs_keep (kept_setN (fun b hb => by omega)) L7)⟩, by rw [hU2]; exact below_setN (by omega) B7⟩
      have HU := Lib.hid hU
      have HU2 := Lib.hid hU2
      have HK2 := Lib.hid K2
      clear hU hU2 K2 R6 B6 S6 L6 K3 R7 B7 S7 L7 R8 hb3 k0 k1 k2 k3 k4 k5 k6 k7 k8 v0 v1 v2 v3 v4 hr2
      obtain ⟨y0, g0⟩ := HK2.out 0 _ rfl
      obtain ⟨y1, g1⟩ := HK2.out 1 _ rfl
      obtain ⟨y2, g2⟩ := HK2.out 2 _ rfl
      obtain ⟨y3, g3⟩ := HK2.out 3 _ rfl
      obtain ⟨y4, g4⟩ := HK2.out 4 _ rfl
      obtain ⟨y5, g5⟩ := HK2.out 5 _ rfl
      obtain ⟨y6, g6⟩ := HK2.out 6 _ rfl
      obtain ⟨y7, g7⟩ := HK2.out 7 _ rfl
      obtain ⟨y8, g8⟩ := HK2.out 8 _ rfl
      go_upto_region 11 with fail
      have HU' : Hid (U = (((((((w3.setCell ⟨w2.heap.size, 1, none⟩ (.int .i64 (r2 0))).setCell ⟨w2.heap.size, 2, none⟩ (.int .i64 (r2 1))).setCell ⟨w2.heap.size, 3, none⟩ (.int .i64 (r2 2))).setCell ⟨w2.heap.size, 4, none⟩ (.int .i64 (r2 3))).setCell ⟨w2.heap.size, 5, none⟩ (.int .i64 (r2 4))).setCell ⟨w2.heap.size, 6, none⟩ (.int .i64 (r2 5))).setCell ⟨w2.heap.size, 7, none⟩ (.int .i64 (r2 6))).setCell ⟨w2.heap.size, 8, none⟩ (.int .i64 (r2 7))) := HU.out
      rw [← HU'.out]
      clear y0 y1 y2 y3 y4 y5 y6 y7 y8 g0 g1 g2 g3 g4 g5 g6 g7 g8
      have k0 := (HK3.out 0 _ rfl).1
      have k1 := (HK3.out 1 _ rfl).1
      have k2 := (HK3.out 2 _ rfl).1
      have k3 := (HK3.out 3 _ rfl).1
      have k4 := (HK3.out 4 _ rfl).1
      have k5 := (HK3.out 5 _ rfl).1
      have k6 := (HK3.out 6 _ rfl).1
      have k7 := (HK3.out 7 _ rfl).1
      have k8 := (HK3.out 8 _ rfl).1
      have k9 := (HK3.out 9 _ rfl).1
      have k10 := (HK3.out 10 _ rfl).1
      have k11 := (HK3.out 11 _ rfl).1
      have k12 := (HK3.out 12 _ rfl).1
      obtain ⟨y0, g0⟩ := HR7.out 0 _ rfl
      obtain ⟨y1, g1⟩ := HR7.out 1 _ rfl
      obtain ⟨y2, g2⟩ := HR7.out 2 _ rfl
      obtain ⟨y3, g3⟩ := HR7.out 3 _ rfl
      obtain ⟨y4, g4⟩ := HR7.out 4 _ rfl
      obtain ⟨y5, g5⟩ := HR7.out 5 _ rfl
      obtain ⟨y6, g6⟩ := HR7.out 6 _ rfl
      obtain ⟨y7, g7⟩ := HR7.out 7 _ rfl
      obtain ⟨y8, g8⟩ := HR7.out 8 _ rfl
      obtain ⟨y9, g9⟩ := HR7.out 9 _ rfl
      obtain ⟨y10, g10⟩ := HR7.out 10 _ rfl
      obtain ⟨y11, g11⟩ := HR7.out 11 _ rfl
      obtain ⟨y12, g12⟩ := HR7.out 12 _ rfl
      go_wp2
      have hf := HFIN.out
      rw [HU2.out] at hf
      have hL := load_thr _ _ ⟨x0, r2, t.fs.take (fn - 1), t.st, t.ft, t.lf⟩ fa2 la2 fn2 fc2 ln2 lc2 hf.1
      refine bp_cell_tmp ⟨w.heap.size + 1, 0, none⟩ rfl rfl rfl hL ?_
      refine thPostF_eq HT.out HE.out ?_
      rw [HR2.out]
      have hf2 := hf.2.1
      have hf3 := hf.2.2
      have e1 := HFN2.out
      have e2 := HLN2.out
      subst e1 e2
      exact ⟨fa2, fc2, la2, lc2, rfl, hf2, hf3⟩
theorem frBack_any (t : Thr) (fa la : Option Addr) (fn fc ln lc : Nat) (w : World) (F : ThF w fa fn fc la ln lc t) :
    Calls Try.prog 61 #[.agg #[.int .i64 t.pc, .int .i64 (t.r 0), .int .i64 (t.r 1), .int .i64 (t.r 2), .int .i64 (t.r 3), .int .i64 (t.r 4), .int .i64 (t.r 5), .int .i64 (t.r 6), .int .i64 (t.r 7), .slice fa fn fc, .int .i64 t.st, .int .i64 t.ft, .slice la ln lc]] w (ThPost (backT t) (backE t) w) := (frBackF_any t fa la fn fc ln lc w F).mono (fun _ _ h => h.post)
end Go.Proofs.Ytjddflnecfokaaa
