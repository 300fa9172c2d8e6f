/- Contracts of the document's own answers of layer 10 (package respiteref10): Picks. -/
import Derived.Test.YtmdkokhlfflokaaWgC
import Derived.Deep.QuietTactic
import Derived.Deep.DeepCutAuto
namespace Go.Proofs.Ytmdkokhlfflokaa
open Go.ChangeShapes Go.WideShapes Go.ChangeAt Go.RowKit
open Gen
theorem infoF10 : (Try.prog.info? 23).map (fun i => (i.zero, i.size, i.bytes)) = some (some (.float .f64 0), 1, 8) := by kernel_rfl
theorem kept_dr {Q : Nat → Prop} {w : World} (d : Nat) : Kept Q w (w.drewN d) := fun _ _ _ _ h => h
def encK : Option Nat → Int
  | none => -1
  | some k => k
theorem picks_len {ws : List Nat} (hs : Fl.someB ws = true) (n : Nat) : (Fl.picksF ws n).1.length = n := (Fl.picks_pass hs n).2
def natsI (l : List Nat) : List Int := l.map fun k : Nat => (k : Int)
theorem natsI_snoc (l : List Nat) (k : Nat) : natsI (l ++ [k]) = natsI l ++ (k : Int) :: [] := by simp [natsI]
theorem take_snocN {l : List Nat} {k x : Nat} (h : l[k]? = some x) : l.take (k + 1) = l.take k ++ x :: [] := by
  obtain ⟨hk, rfl⟩ := List.getElem?_eq_some_iff.1 h
  rw [List.take_succ_eq_append_getElem hk]
theorem pass_at {ws ps : List Nat} {q j p : Nat} (hj : ps[j]? = some p) : (Fl.passF ws ps q)[j]? = some (if j = q then Fl.addF p (Fl.invF (ws.getD j 0)) else p) := by
  obtain ⟨hjl, rfl⟩ := List.getElem?_eq_some_iff.1 hj
  rw [Fl.passF, List.getElem?_set]
  by_cases e : q = j
  · subst e; rw [if_pos rfl, if_pos hjl, if_pos rfl]; simp [hjl]
  · rw [if_neg e, if_neg (fun h => e h.symm)]; simp [hjl]

theorem ge_wf {x y : Nat} (h : Fl.ge0 x) (e : x = y) : FlWf y := by
  subst e; unfold FlWf; unfold Fl.ge0 at h; omega
theorem pick_no {ws ps : List Nat} {j : Nat} (h : Fl.cnt (ws.getD j 0) = false) (r : Option Nat) : Fl.pickF ws ps r j = r := by
  cases r with
  | none => exact if_neg (by rw [h]; decide)
  | some q => exact if_neg (fun e => by rw [h] at e; exact absurd e.1 (by decide))
theorem pick_first {ws ps : List Nat} {j : Nat} (h : Fl.cnt (ws.getD j 0) = true) : Fl.pickF ws ps none j = some j := if_pos h
theorem pick_two {ws ps : List Nat} {j q : Nat} (h : Fl.cnt (ws.getD j 0) = true) : Fl.pickF ws ps (some q) j = if Fl.lessF (ps.getD j 0) (ps.getD q 0) = true then some j else some q := by
  by_cases e : Fl.lessF (ps.getD j 0) (ps.getD q 0) = true
  · rw [if_pos e]; exact if_pos ⟨h, e⟩
  · rw [if_neg e]; exact if_neg (fun x => e x.2)

set_option maxRecDepth 100000 in
set_option maxHeartbeats 8000000 in
theorem ref10Picks_any (a : Option Addr) (L c : Nat) (ws : List Nat) (m : Nat) (w : World) (S : Vs repFl Any w a L ws) (hz : ∀ z ∈ ws, FlWf z) (hL : L ≤ 1000) (hm : m ≤ 1000) (hs : m = 0 ∨ Fl.someB ws = true) :
    Calls Try.prog 19 #[.slice a L c, .int .i64 m] w (IntsPost m (natsI (Fl.picksF ws m).1) w) := by
  have HS := Lib.hid (vs_und S)
  have HZ := Lib.hid hz
  have HWL := Lib.hid S.1
  have HSO := Lib.hid hs
  obtain ⟨j0, ki, kz0, kz1, kz2⟩ := info_parts infoI10
  have HJ := Lib.hid (And.intro ki (And.intro kz0 (And.intro kz1 kz2)))
  obtain ⟨f0, li, lz0, lz1, lz2⟩ := info_parts infoF10
  have HF := Lib.hid (And.intro li (And.intro lz0 (And.intro lz1 lz2)))
  obtain ⟨W1, hW1⟩ : ∃ X, X = w.alloc (Obj.cells #[] 3) := ⟨_, rfl⟩
  have hb1 : Below w.heap.size w W1 := by rw [hW1]; go_grown
  have HO1 := Lib.hid (show W1.ownsRow w.heap.size 3 1 (.slice (some ⟨w.heap.size, 0, none⟩) 0 0) 0 [] by rw [hW1]; exact World.ownsRow_lit w #[] 0 (Nat.le_refl _) (by decide) rfl)
  have HS1 := Lib.hid (show W1.heap.size = w.heap.size + 1 by rw [hW1]; simp)
  have HB1 := Lib.hid hb1
  have HW1 := Lib.hid hW1
  clear S hz hs ki kz0 kz1 kz2 li lz0 lz1 lz2 hW1 hb1
  go_enter Try.func19, Try.ntmps19
  go_upto_region 2 with fail
  rw [← HW1.out]
  go_wp2_with fail
  go_loopw [6, 18] (fun pv i wr => ∃ (k : Nat) (va : Option Addr) (vc : Nat), k ≤ L ∧ i = .int .i64 k ∧ pv = .slice va k vc ∧ Hid (wr.ownsRow W1.heap.size 23 1 (.slice va k vc) k ((List.replicate k 0).map (.float .f64))) ∧ Below W1.heap.size W1 wr) (fun _ i _ => L - (intOf i).toNat)
  case atStart => exact ⟨0, _, _, Nat.zero_le _, rfl, rfl, (show W1.alloc (Obj.cells #[] 23) |>.ownsRow W1.heap.size 23 1 (.slice (some ⟨W1.heap.size, 0, none⟩) 0 0) 0 [] from World.ownsRow_lit W1 #[] 0 (Nat.le_refl _) (by decide) rfl), (Below.refl _ _).alloc (Nat.le_refl _) _⟩
  case round =>
    obtain ⟨k, va, vc, hk, rfl, rfl, ho, hb⟩ := hrel
    by_cases hlt : k < L
    · have i1 : (k : Int) < L := by omega
      have hsz := hb.size
      obtain ⟨rw0, hrw0⟩ : ∃ R, R = (List.replicate k 0).map (Value.float .f64) := ⟨_, rfl⟩
      have HOR := Lib.hid (show wr.ownsRow W1.heap.size 23 1 (.slice va k vc) k rw0 by rw [hrw0]; exact ho.out)
      have HRW := Lib.hid hrw0
      have HB := Lib.hid hb
      clear hrw0 hb
      go_wp2_with (at_builtin; refine wpList_append_own _ rfl (.tmp 20) (.tmp 21) 22 rfl W1.heap.size 23 f0 (.float .f64 0) 1 8 Try.underlying22 HF.out.1 HF.out.2.1 HF.out.2.2.1 HF.out.2.2.2 rfl (by decide) (.slice va k vc) k rw0 rfl (HOR.out.alloc _) ⟨wr.heap.size, 0, none⟩ 1 1 [.float .f64 0] rfl rfl (cell10 _ _ rfl _ _) (by simp [Value.oneCell']) (by unfold maxLen; omega) (by omega) (by simp; omega) ?_)
      intro v4 w4 hown hgrow _
      obtain ⟨va4, vc4, rfl⟩ := shape10 hown
      have HB4 := Lib.hid (show Below W1.heap.size W1 w4 from (HB.out.alloc hsz _).grown hgrow (by simp; omega) (fun g hr => (HOR.out.lt g hr).1))
      have HO4 := Lib.hid (show w4.ownsRow W1.heap.size 23 1 (.slice va4 (k + 1) vc4) (k + 1) ((List.replicate (k + 1) 0).map (.float .f64)) by rw [List.replicate_succ', List.map_append, ← HRW.out]; exact hown)
      clear hown hgrow
      go_wp2_with fail
      go_roundw
      case rel => exact ⟨k + 1, va4, vc4, by omega, by go_num, rfl, HO4.out, HB4.out⟩
      case measure => simp [intOf]; omega
    · obtain rfl : k = L := by omega
      obtain ⟨w2, hw2⟩ : ∃ x, x = wr := ⟨_, rfl⟩
      subst hw2
      have HOO := Lib.hid (own_below HO1.out hb)
      have HPV := Lib.hid (show Vs repFl (fun b => (Value.slice (some ⟨w.heap.size, 0, none⟩) 0 0).ownBlock ≠ some b) w2 va k (List.replicate k 0) by
        obtain ⟨z1, z2, e, -, -, -, V⟩ := vs_own (r := repFl) (Q := fun b => (Value.slice (some ⟨w.heap.size, 0, none⟩) 0 0).ownBlock ≠ some b) ho.out (flat_map1 (.float .f64) (List.replicate k 0)) (fun b hb2 _ e => by have e : some w.heap.size = some b := e; injection e with e; have := HS1.out; omega)
        cases e; exact V)
      have HBB := Lib.hid (HB1.out.trans (hb.mono HB1.out.size))
      clear hb ho
      go_wp2_with fail
      go_loopw [5, 6, 7] (fun v pv i wr => ∃ (k2 : Nat) (va2 : Option Addr) (vc2 : Nat) (pa : Option Addr) (pc : Nat), k2 ≤ m ∧ i = .int .i64 k2 ∧ v = .slice va2 k2 vc2 ∧ pv = .slice pa k pc ∧ Hid (wr.ownsRow w.heap.size 3 1 (.slice va2 k2 vc2) k2 ((natsI (Fl.picksF ws k2).1).map (.int .i64))) ∧ Hid (Vs repFl (fun b => (Value.slice va2 k2 vc2).ownBlock ≠ some b) wr pa k (Fl.picksF ws k2).2) ∧ Below w.heap.size w wr) (fun _ _ i _ => m - (intOf i).toNat)
      case atStart => exact ⟨0, _, _, _, _, Nat.zero_le _, rfl, rfl, rfl, HOO.out, (by show Vs _ _ _ _ _ (List.replicate ws.length 0); rw [HWL.out]; exact HPV.out), HBB.out⟩
      case round =>
        obtain ⟨k2, va2, vc2, pa, pc, hk2, rfl, rfl, rfl, ho, hp, hb⟩ := hrel
        by_cases hlt2 : k2 < m
        · have hso : Fl.someB ws = true := HSO.out.resolve_left (by omega)
          have HPO := Lib.hid (Fl.picks_pass hso k2)
          obtain ⟨q0, hq0, hq1⟩ := Fl.leastTo_some (ps := (Fl.picksF ws k2).2) hso
          obtain ⟨ps, hps⟩ : ∃ ps, (Fl.picksF ws k2).2 = ps := ⟨_, rfl⟩
          have HPN := Lib.hid (show Fl.picksF ws (k2 + 1) = ((Fl.picksF ws k2).1 ++ [q0], Fl.passF ws ps q0) by rw [Fl.picksF, hq0, hps])
          rw [hps] at hp hq0 hq1 HPO
          have HQ0 := Lib.hid hq0
          have HQ1 := Lib.hid hq1
          obtain ⟨wo, hwo⟩ : ∃ x, x = wr := ⟨_, rfl⟩
          subst hwo
          have HB := Lib.hid hb
          have HP := Lib.hid hp.out
          have HSW := Lib.hid (vs_any (vs_keep (kept_low hb (fun _ h => h.2)) HS.out))
          have i1 : (k2 : Int) < m := by omega
          clear hb hp hq0 hq1 hps hso
          go_wp2_with fail
          go_loopw [8, 31] (fun kv i wr => ∃ (j : Nat) (r : Option Nat) (d : Nat), j ≤ k ∧ i = .int .i64 j ∧ kv = .int .i64 (encK r) ∧ Hid (Fl.leastTo ws ps j = r) ∧ wr = wo.drewN d) (fun _ i _ => k - (intOf i).toNat)
          case atStart => exact ⟨0, none, 0, Nat.zero_le _, rfl, rfl, (by show Fl.leastTo ws ps 0 = none; rfl), rfl⟩
          case round =>
            obtain ⟨j, r, d, hj, rfl, rfl, hr, hwd⟩ := hrel
            have HWD := Lib.hid hwd
            have hB0 : Below wo.heap.size wo wr := by rw [hwd]; exact below_drewN (Below.refl _ _) d
            have HBD := Lib.hid hB0
            clear hwd
            by_cases hlt3 : j < k
            · obtain ⟨b, o, x, rfl, hx, -, g0⟩ := fl_at (vs_keep (kept_B hB0) HSW.out) hlt3
              have i2 : (0 : Int) ≤ j := by omega
              have i3 : (j : Int) < k := by omega
              have hcn : ∀ e, Calls Try.prog 27 #[.float .f64 x] (wr.drewN e) (fun z w' => z = .returned (.bool (Fl.cnt x)) ∧ w' = wr.drewN e) := fun e => counts_any x _ (HZ.out x (List.mem_of_getElem? hx))
              have hst := Fl.leastTo_succ ws ps j
              rw [hr.out] at hst
              have hgx := getD_of hx
              clear hB0
              cases hcx : Fl.cnt x with
              | false =>
                rw [hcx] at hcn
                have HST := Lib.hid (show Fl.leastTo ws ps (j + 1) = r by rw [hst]; exact pick_no (by rw [hgx]; exact hcx) r)
                clear hst hgx hx hcx
                go_upto_region 14 with fail
                go_quiet ((go_at_call 27; exact Calls.quiet_of_same (hcn _)))
                clear hcn
                go_wp2_with fail
                go_roundw
                case rel => exact ⟨j + 1, r, d + nq, by omega, by go_num, rfl, HST.out, by rw [HWD.out, World.drewN_drewN]⟩
                case measure => simp [intOf]; omega
              | true =>
                rw [hcx] at hcn
                cases r with
                | none =>
                  have HST := Lib.hid (show Fl.leastTo ws ps (j + 1) = some j by rw [hst]; exact pick_first (by rw [hgx]; exact hcx))
                  have i4 : encK none < 0 := by decide
                  clear hst hgx hx hcx
                  go_upto_region 14 with fail
                  go_quiet ((go_at_call 27; exact Calls.quiet_of_same (hcn _)))
                  clear hcn
                  go_wp2_with fail
                  go_roundw
                  case rel => exact ⟨j + 1, some j, d + nq, by omega, by go_num, rfl, HST.out, by rw [HWD.out, World.drewN_drewN]⟩
                  case measure => simp [intOf]; omega
                | some q =>
                  have hqk : q < k := by
                    rcases Fl.leastTo_ok ws ps j with ⟨e, -⟩ | ⟨q', e, L'⟩
                    · rw [hr.out] at e; cases e
                    · rw [hr.out] at e; cases e; have := L'.lt; omega
                  obtain ⟨b2, o2, y, rfl, hy, -, g1⟩ := fl_at (vs_keep (kept_B HBD.out) HP.out) hlt3
                  obtain ⟨_, _, z, e3, hz3, -, g2⟩ := fl_at (vs_keep (kept_B HBD.out) HP.out) hqk
                  cases e3
                  have i4 : ¬ (encK (some q) < 0) := by show ¬ ((q : Int) < 0); omega
                  have i5 : (0 : Int) ≤ encK (some q) := by show (0 : Int) ≤ (q : Int); omega
                  have i6 : encK (some q) < k := by show (q : Int) < k; omega
                  have i7 : (encK (some q)).toNat = q := rfl
                  have hls : ∀ e, Calls Try.prog 11 #[.float .f64 y, .float .f64 z] (wr.drewN e) (fun v w' => v = .returned (.bool (Fl.lessF y z)) ∧ w' = wr.drewN e) := fun e => ref10Less_any y z _ (ge_wf (HPO.out.1.ge j (by rw [HPO.out.1.len, HWL.out]; exact hlt3)) (getD_of hy)) (ge_wf (HPO.out.1.ge q (by rw [HPO.out.1.len, HWL.out]; exact hqk)) (getD_of hz3))
                  rw [pick_two (by rw [hgx]; exact hcx), getD_of hy, getD_of hz3] at hst
                  have HST := Lib.hid hst
                  obtain ⟨lb, hlb⟩ : ∃ b, Fl.lessF y z = b := ⟨_, rfl⟩
                  rw [hlb] at hls HST
                  clear hst hgx hx hcx hy hz3 hlb
                  cases lb with
                  | true =>
                    go_upto_region 14 with fail
                    go_quiet ((first | (go_at_call 27; exact Calls.quiet_of_same (hcn _)) | (go_at_call 11; exact Calls.quiet_of_same (hls _))))
                    clear hcn hls
                    go_wp2_with fail
                    go_roundw
                    case rel => exact ⟨j + 1, some j, d + nq, by omega, by go_num, rfl, (by show Fl.leastTo ws ps (j + 1) = some j; rw [HST.out, if_pos rfl]), by rw [HWD.out, World.drewN_drewN]⟩
                    case measure => simp [intOf]; omega
                  | false =>
                    go_upto_region 14 with fail
                    go_quiet ((first | (go_at_call 27; exact Calls.quiet_of_same (hcn _)) | (go_at_call 11; exact Calls.quiet_of_same (hls _))))
                    clear hcn hls
                    go_wp2_with fail
                    go_roundw
                    case rel => exact ⟨j + 1, some q, d + nq, by omega, by go_num, rfl, (by show Fl.leastTo ws ps (j + 1) = some q; rw [HST.out, if_neg (by decide)]), by rw [HWD.out, World.drewN_drewN]⟩
                    case measure => simp [intOf]; omega
            · obtain rfl : j = k := by omega
              obtain rfl : r = some q0 := by
                have h := HQ0.out
                rw [HWL.out, hr.out] at h; exact h
              have hqk : q0 < j := by have h := HQ1.out.lt; rw [HWL.out] at h; exact h
              have hcnt := HQ1.out.cn
              have HOW := Lib.hid (own_below ho.out HBD.out)
              have HB5 := Lib.hid (below_from HB.out HBD.out)
              have HP5 := Lib.hid (vs_und (vs_keep (kept_B HBD.out) HP.out))
              have hsz := HB5.out.size
              obtain ⟨rw1, hrw1⟩ : ∃ R, R = (natsI (Fl.picksF ws k2).1).map (Value.int .i64) := ⟨_, rfl⟩
              have HOR := Lib.hid (show wr.ownsRow w.heap.size 3 1 (.slice va2 k2 vc2) k2 rw1 by rw [hrw1]; exact HOW.out)
              have HRW := Lib.hid hrw1
              clear hrw1 hB0
              go_wp2_with (at_builtin; refine wpList_append_own_at _ rfl (.tmp 55) (.tmp 57) 33 rfl w.heap.size 3 j0 (.int .i64 0) 1 8 Try.underlying33 HJ.out.1 HJ.out.2.1 HJ.out.2.2.1 HJ.out.2.2.2 rfl (by decide) (.slice va2 k2 vc2) k2 rw1 rfl (HOR.out.alloc _) ⟨wr.heap.size, 0, none⟩ 1 1 [.int .i64 (encK (some q0))] rfl rfl (cell10 _ _ rfl _ _) (by simp [Value.oneCell']) (by unfold maxLen; omega) (by omega) (by simp; omega) ?_)
              intro v4 w4 hown hgrow _ hplace
              obtain ⟨va4, vc4, rfl⟩ := shape10 hown
              have HB6 := Lib.hid (show Below w.heap.size w w4 from (HB5.out.alloc hsz _).grown hgrow (by simp; omega) (fun g hr => (HOR.out.lt g hr).1))
              have HO6 := Lib.hid (show w4.ownsRow w.heap.size 3 1 (.slice va4 (k2 + 1) vc4) (k2 + 1) ((natsI (Fl.picksF ws (k2 + 1)).1).map (.int .i64)) by rw [HPN.out, natsI_snoc, List.map_append, ← HRW.out]; exact hown)
              have HP6 := Lib.hid (show Vs repFl Any w4 pa j ps from vs_any (vs_keep (kept_grown hgrow (fun b hb e => hb.1 (by rw [← e]))) (vs_A _ HP5.out)))
              have HS6 := Lib.hid (show Vs repFl Any w4 a j ws from vs_any (vs_keep (kept_low HB6.out (fun _ h => h.2)) HS.out))
              clear hown hgrow hplace
              obtain ⟨W7, hW7⟩ : ∃ X, X = w4.alloc (Obj.cells #[] 23) := ⟨_, rfl⟩
              have hb7 : Below w4.heap.size w4 W7 := by rw [hW7]; go_grown
              have HO7 := Lib.hid (show W7.ownsRow w4.heap.size 23 1 (.slice (some ⟨w4.heap.size, 0, none⟩) 0 0) 0 [] by rw [hW7]; exact World.ownsRow_lit w4 #[] 0 (Nat.le_refl _) (by decide) rfl)
              have HB7 := Lib.hid hb7
              have HW7 := Lib.hid hW7
              clear hW7 hb7
              go_upto_region 19 with fail
              rw [← HW7.out]
              go_wp2_with fail
              go_loopw [11, 62] (fun nv i wx => ∃ (i2 : Nat) (va8 : Option Addr) (vc8 : Nat), i2 ≤ j ∧ i = .int .i64 i2 ∧ nv = .slice va8 i2 vc8 ∧ Hid (wx.ownsRow w4.heap.size 23 1 (.slice va8 i2 vc8) i2 (((Fl.passF ws ps q0).take i2).map (.float .f64))) ∧ Below w4.heap.size w4 wx) (fun _ i _ => j - (intOf i).toNat)
              case atStart => exact ⟨0, _, _, Nat.zero_le _, rfl, rfl, HO7.out, HB7.out⟩
              case round =>
                obtain ⟨i2, va8, vc8, hi2, rfl, rfl, ho8, hb8⟩ := hrel
                by_cases hlt4 : i2 < j
                · obtain ⟨b3, o3, y, rfl, hy, -, g1⟩ := fl_at (vs_keep (kept_B hb8) HP6.out) hlt4
                  obtain ⟨b4, o4, x, rfl, hx, -, g2⟩ := fl_at (vs_keep (kept_B hb8) HS6.out) hlt4
                  have i3 : (0 : Int) ≤ i2 := by omega
                  have i4 : (i2 : Int) < j := by omega
                  have hpa := pass_at (ws := ws) (q := q0) hy
                  have hsz8 := hb8.size
                  obtain ⟨rw2, hrw2⟩ : ∃ R, R = ((Fl.passF ws ps q0).take i2).map (Value.float .f64) := ⟨_, rfl⟩
                  have HOR8 := Lib.hid (show wr.ownsRow w4.heap.size 23 1 (.slice va8 i2 vc8) i2 rw2 by rw [hrw2]; exact ho8.out)
                  have HRW8 := Lib.hid hrw2
                  have HB8 := Lib.hid hb8
                  by_cases hq : i2 = q0
                  · have q1 : ((i2 : Int) == encK (some q0)) = true := by rw [hq]; simp [encK]
                    rw [if_pos hq, getD_of hx] at hpa
                    have hcx : Fl.cnt x = true := by rw [← getD_of hx, hq]; exact hcnt
                    obtain ⟨d1, d2⟩ := Fl.inv_ok hcx
                    have hgy : Fl.ge0 y := by have h := HPO.out.1.ge i2 (by rw [HPO.out.1.len, HWL.out]; exact hlt4); rwa [getD_of hy] at h
                    obtain ⟨d3, -, -⟩ := Fl.add_ok hgy d2
                    obtain ⟨iv, hiv⟩ : ∃ z, Fl.invF x = z := ⟨_, rfl⟩
                    rw [hiv] at d1 d3 hpa
                    obtain ⟨ad, had⟩ : ∃ z, Fl.addF y iv = z := ⟨_, rfl⟩
                    rw [had] at d3 hpa
                    have hd := fun u => run_float_arith (P := Try.prog) u .quo 23 .f64 4607182418800017408 x iv d1
                    have ha := fun u => run_float_arith (P := Try.prog) u .add 23 .f64 y iv ad d3
                    have HNX := Lib.hid (take_snocN hpa)
                    clear hpa hx hy hb8 hrw2 hq hcx d1 d2 d3 hgy hiv had
                    go_wp2_with (at_builtin; refine wpList_append_own _ rfl (.tmp 77) (.tmp 79) 22 rfl w4.heap.size 23 f0 (.float .f64 0) 1 8 Try.underlying22 HF.out.1 HF.out.2.1 HF.out.2.2.1 HF.out.2.2.2 rfl (by decide) (.slice va8 i2 vc8) i2 rw2 rfl (HOR8.out.alloc _) ⟨wr.heap.size, 0, none⟩ 1 1 [.float .f64 ad] rfl rfl (cell10 _ _ rfl _ _) (by simp [Value.oneCell']) (by unfold maxLen; omega) (by omega) (by simp; omega) ?_)
                    intro v9 w9 hown hgrow _
                    obtain ⟨va9, vc9, rfl⟩ := shape10 hown
                    have HB9 := Lib.hid (show Below w4.heap.size w4 w9 from (HB8.out.alloc hsz8 _).grown hgrow (by simp; omega) (fun g hr => (HOR8.out.lt g hr).1))
                    have HO9 := Lib.hid (show w9.ownsRow w4.heap.size 23 1 (.slice va9 (i2 + 1) vc9) (i2 + 1) (((Fl.passF ws ps q0).take (i2 + 1)).map (.float .f64)) by rw [HNX.out, List.map_append, ← HRW8.out]; exact hown)
                    clear hown hgrow
                    go_wp2_with fail
                    go_roundw
                    case rel => exact ⟨i2 + 1, va9, vc9, by omega, by go_num, rfl, HO9.out, HB9.out⟩
                    case measure => simp [intOf]; omega
                  · have q1 : ((i2 : Int) == encK (some q0)) = false := by simp [encK]; omega
                    rw [if_neg hq] at hpa
                    have HNX := Lib.hid (take_snocN hpa)
                    clear hpa hx hy hb8 hrw2 hq
                    go_wp2_with (at_builtin; refine wpList_append_own _ rfl (.tmp 77) (.tmp 79) 22 rfl w4.heap.size 23 f0 (.float .f64 0) 1 8 Try.underlying22 HF.out.1 HF.out.2.1 HF.out.2.2.1 HF.out.2.2.2 rfl (by decide) (.slice va8 i2 vc8) i2 rw2 rfl (HOR8.out.alloc _) ⟨wr.heap.size, 0, none⟩ 1 1 [.float .f64 y] rfl rfl (cell10 _ _ rfl _ _) (by simp [Value.oneCell']) (by unfold maxLen; omega) (by omega) (by simp; omega) ?_)
                    intro v9 w9 hown hgrow _
                    obtain ⟨va9, vc9, rfl⟩ := shape10 hown
                    have HB9 := Lib.hid (show Below w4.heap.size w4 w9 from (HB8.out.alloc hsz8 _).grown hgrow (by simp; omega) (fun g hr => (HOR8.out.lt g hr).1))
                    have HO9 := Lib.hid (show w9.ownsRow w4.heap.size 23 1 (.slice va9 (i2 + 1) vc9) (i2 + 1) (((Fl.passF ws ps q0).take (i2 + 1)).map (.float .f64)) by rw [HNX.out, List.map_append, ← HRW8.out]; exact hown)
                    clear hown hgrow
                    go_wp2_with fail
                    go_roundw
                    case rel => exact ⟨i2 + 1, va9, vc9, by omega, by go_num, rfl, HO9.out, HB9.out⟩
                    case measure => simp [intOf]; omega
                · obtain rfl : i2 = j := by omega
                  have hpl : (Fl.passF ws ps q0).length = i2 := by rw [Fl.passF, List.length_set, HPO.out.1.len, HWL.out]
                  have h9 := ho8.out
                  rw [List.take_of_length_le (by rw [hpl]; exact Nat.le_refl _)] at h9
                  obtain ⟨z1, z2, e, -, -, -, V9⟩ := vs_own (r := repFl) (Q := fun b => (Value.slice va4 (k2 + 1) vc4).ownBlock ≠ some b) h9 (flat_map1 (.float .f64) (Fl.passF ws ps q0)) (fun b hb2 _ e => by have := (HO6.out.lt b e).2; omega)
                  cases e
                  have HV9 := Lib.hid V9
                  have HO9 := Lib.hid (own_below HO6.out hb8)
                  have HB9 := Lib.hid (below_from HB6.out hb8)
                  clear h9 V9 hpl hb8
                  go_wp2_with fail
                  go_roundw
                  case rel => exact ⟨k2 + 1, va4, vc4, va8, vc8, by omega, by go_num, rfl, rfl, HO9.out, (by show Vs _ _ _ _ _ _; rw [HPN.out]; exact HV9.out), HB9.out⟩
                  case measure => simp [intOf]; omega
        · obtain rfl : k2 = m := by omega
          have HB := Lib.hid hb
          clear hb
          go_wp2
          go_ret
          exact intsPost_own ho.out HB.out
end Go.Proofs.Ytmdkokhlfflokaa
