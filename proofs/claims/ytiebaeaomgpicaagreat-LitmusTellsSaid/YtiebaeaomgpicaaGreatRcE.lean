/- Contracts of package respiteref04: its stages in memory; same. -/
import Derived.Test.YtiebaeaomgpicaaGreatRcC
import Derived.Test.YtiebaeaomgpicaaGreatRcD
import Derived.Test.YtiebaeaomgpicaaGreatRfW
import Derived.Test.YtiebaeaomgpicaaGreatMathTb
import Derived.Deep.RegionHeld3
namespace Go.Proofs.YtiebaeaomgpicaaGreat
open Go.ChangeShapes Go.WideShapes Go.ChangeAt Go.RowKit
open Gen
/-- a stage's lists in memory -/
structure RSt (ts : List (List Mv)) (Q : Nat → Prop) (w : World) (a a' q p r : Option Addr) (n n' l np nr : Nat) (s : St) : Prop where
  ws : SlP Q w a n s.ws
  tg : SlP Q w a' n' s.ts
  bs : BlP Q w q l s.bs
  at_ : Vs repInt Q w p np (atS ts s)
  nt : Vs (repSlice repInt) Q w r nr (ntS ts.length s)
theorem rst_keep {ts : List (List Mv)} {Q : Nat → Prop} {w w' : World} {a a' q p r : Option Addr} {n n' l np nr : Nat} {s : St} (hk : Kept Q w w') (h : RSt ts Q w a a' q p r n n' l np nr s) : RSt ts Q w' a a' q p r n n' l np nr s :=
  ⟨slP_keep hk h.ws, slP_keep hk h.tg, blP_keep hk h.bs, vs_keep hk h.at_, vs_keep hk h.nt⟩
theorem rst_mono {ts : List (List Mv)} {Q Q' : Nat → Prop} {w : World} {a a' q p r : Option Addr} {n n' l np nr : Nat} {s : St} (hQ : ∀ b, Q b → Q' b) (h : RSt ts Q w a a' q p r n n' l np nr s) : RSt ts Q' w a a' q p r n n' l np nr s :=
  ⟨slP_mono hQ h.ws, slP_mono hQ h.tg, blP_mono hQ h.bs, vs_mono hQ h.at_, vs_mono hQ h.nt⟩
theorem rst_und {ts : List (List Mv)} {Q : Nat → Prop} {w : World} {a a' q p r : Option Addr} {n n' l np nr : Nat} {s : St} (h : RSt ts Q w a a' q p r n n' l np nr s) : RSt ts (fun b => Q b ∧ b < w.heap.size) w a a' q p r n n' l np nr s :=
  ⟨slW_und (fun _ q h => ⟨q, h⟩) h.ws, slW_und (fun _ q h => ⟨q, h⟩) h.tg, blW_und (fun _ q h => ⟨q, h⟩) h.bs, vs_und h.at_, vs_und h.nt⟩
/-- a stage as an element of a list -/
def repRS (ts : List (List Mv)) : Rep St := {
  R := fun Q w cs s => ∃ a n c a' n' c' q l d p np pc r nr rc, cs = [.slice a n c, .slice a' n' c', .int .i64 s.D, .slice q l d, .slice p np pc, .slice r nr rc] ∧ RSt ts Q w a a' q p r n n' l np nr s
  k := 6
  pos := by decide
  len := fun h => by obtain ⟨_, _, _, _, _, _, _, _, _, _, _, _, _, _, _, h, _⟩ := h; rw [h]; rfl
  keep := fun hk h => by obtain ⟨a, n, c, a', n', c', q, l, d, p, np, pc, r, nr, rc, h, h2⟩ := h; exact ⟨a, n, c, a', n', c', q, l, d, p, np, pc, r, nr, rc, h, rst_keep hk h2⟩
  mono := fun hQ h => by obtain ⟨a, n, c, a', n', c', q, l, d, p, np, pc, r, nr, rc, h, h2⟩ := h; exact ⟨a, n, c, a', n', c', q, l, d, p, np, pc, r, nr, rc, h, rst_mono hQ h2⟩
  und := fun h => by obtain ⟨a, n, c, a', n', c', q, l, d, p, np, pc, r, nr, rc, h, h2⟩ := h; exact ⟨a, n, c, a', n', c', q, l, d, p, np, pc, r, nr, rc, h, rst_und h2⟩ }
def NtTo (xs ys : List (List Int)) (k : Nat) : Prop := ∀ i, i < k → xs[i]? = ys[i]?
theorem ntTo_all {xs ys : List (List Int)} {n : Nat} (hx : xs.length = n) (hy : ys.length = n) (h : NtTo xs ys n) : xs = ys := by
  apply List.ext_getElem?
  intro i
  by_cases hi : i < n
  · exact h i hi
  · rw [List.getElem?_eq_none (by omega), List.getElem?_eq_none (by omega)]
theorem ntTo_next {xs ys : List (List Int)} {k : Nat} (h : NtTo xs ys k) (e : xs[k]? = ys[k]?) : NtTo xs ys (k + 1) := by
  intro j hj
  by_cases c : j = k
  · subst c; exact e
  · exact h j (by omega)

set_option maxRecDepth 100000 in
set_option maxHeartbeats 8000000 in
theorem refSameS_any (ts : List (List Mv)) (Q Q' : Nat → Prop) (a a' q p r b b' q' p' r' : Option Addr) (n c n' c' l d np pc nr rc m e m' e' l' d' mp pe mr re : Nat) (s t : St) (w : World) (S : RSt ts Q w a a' q p r n n' l np nr s) (T : RSt ts Q' w b b' q' p' r' m m' l' mp mr t)
    (hts : s.ts = t.ts) (hD : s.D = t.D) (hb : s.bs.length = t.bs.length) (hl : ts.length ≤ 3) (hn : n ≤ 1000) (hn' : n' ≤ 1000) (hb8 : l ≤ 1000) :
    Calls Tryz.prog 48 #[.agg #[.slice a n c, .slice a' n' c', .int .i64 s.D, .slice q l d, .slice p np pc, .slice r nr rc], .agg #[.slice b m e, .slice b' m' e', .int .i64 t.D, .slice q' l' d', .slice p' mp pe, .slice r' mr re]] w (BoolPost (sameS ts s t) w) := by
  have hnp : (atS ts s).length = ts.length := by simp [atS]
  have hmp : (atS ts t).length = ts.length := by simp [atS]
  have hnr : (ntS ts.length s).length = ts.length := by simp [ntS]
  have hmr : (ntS ts.length t).length = ts.length := by simp [ntS]
  obtain rfl : np = ts.length := by rw [← S.at_.1, hnp]
  obtain rfl : mp = ts.length := by rw [← T.at_.1, hmp]
  obtain rfl : nr = ts.length := by rw [← S.nt.1, hnr]
  obtain rfl : mr = ts.length := by rw [← T.nt.1, hmr]
  obtain rfl : l' = l := by rw [← S.bs.1, ← T.bs.1, hb]
  obtain ⟨L, hL⟩ : ∃ L, ts.length = L := ⟨_, rfl⟩
  obtain ⟨D, hDD⟩ : ∃ D, s.D = D := ⟨_, rfl⟩
  rw [← hD, hDD]
  obtain ⟨W, hW⟩ : ∃ W, W = (w.alloc (Obj.cells #[.slice a n c, .slice a' n' c', .int .i64 D, .slice q l' d, .slice p ts.length pc, .slice r ts.length rc] 64)).alloc (Obj.cells #[.slice b m e, .slice b' m' e', .int .i64 D, .slice q' l' d', .slice p' ts.length pe, .slice r' ts.length re] 64) := ⟨_, rfl⟩
  have hbW : Below w.heap.size w W := by rw [hW]; go_grown
  have X : VarN W w.heap.size [.slice a n c, .slice a' n' c', .int .i64 D, .slice q l' d, .slice p ts.length pc, .slice r ts.length rc] := by rw [hW]; exact varN_A _ (varN_new [.slice a n c, .slice a' n' c', .int .i64 D, .slice q l' d, .slice p ts.length pc, .slice r ts.length rc] _ rfl)
  have Y : VarN W (w.heap.size + 1) [.slice b m e, .slice b' m' e', .int .i64 D, .slice q' l' d', .slice p' ts.length pe, .slice r' ts.length re] := by rw [hW]; exact varN_new [.slice b m e, .slice b' m' e', .int .i64 D, .slice q' l' d', .slice p' ts.length pe, .slice r' ts.length re] _ (by simp)
  rw [hL] at S T X Y hl hW hnr hmr ⊢
  have HS := Lib.hid (rst_keep (kept_B hbW) S)
  have HT := Lib.hid (rst_keep (kept_B hbW) T)
  have HX := Lib.hid X
  have HY := Lib.hid Y
  have HB := Lib.hid hbW
  have HW := Lib.hid hW
  have HTS := Lib.hid hts
  have HLL := Lib.hid hL
  have HNR := Lib.hid hnr
  have HMR := Lib.hid hmr
  have HSD := Lib.hid (show s.D = t.D from hD)
  have x0 := (X 0 _ rfl).1
  have x1 := (X 1 _ rfl).1
  have x2 := (X 2 _ rfl).1
  have x3 := (X 3 _ rfl).1
  have y0 := (Y 0 _ rfl).1
  have y1 := (Y 1 _ rfl).1
  have y2 := (Y 2 _ rfl).1
  have y3 := (Y 3 _ rfl).1
  clear hnp hmp hnr hmr hL hDD hD hb hts hbW X Y hW S T
  go_enter Tryz.func48, Tryz.ntmps48
  go_upto_region 1 with fail
  rw [← HW.out]
  go_wp2_with fail
  have h0 := refSameG_any a a' q b b' q' n c n' c' l' d m e m' e' l' d' s.ws t.ws s.ts D s.bs t.bs W HS.out.ws.sl HS.out.tg.sl HS.out.bs.bl HT.out.ws.sl (by rw [HTS.out]; exact HT.out.tg.sl) HT.out.bs.bl rfl hn hn' hb8
  with_reducible refine h0.mono ?_
  clear h0
  rintro ee w1 ⟨rfl, hb1⟩
  have HB1 := Lib.hid hb1
  clear hb1 x0 x1 x2 x3 y0 y1 y2 y3
  by_cases e1 : s.ws = t.ws ∧ s.bs = t.bs
  · rw [decide_eq_true e1]
    have HE1 := Lib.hid e1
    obtain ⟨x4, -⟩ := varN_B HB1.out HX.out 4 _ rfl
    obtain ⟨y4, -⟩ := varN_B HB1.out HY.out 4 _ rfl
    obtain ⟨sb, hsb⟩ : ∃ sb, sameB (atS ts s) (atS ts t) = sb := ⟨_, rfl⟩
    have h1 := Ints_any p p' L pc L pe (atS ts s) (atS ts t) w1 (vs_slR (vs_keep (kept_B HB1.out) HS.out.at_)) (vs_slR (vs_keep (kept_B HB1.out) HT.out.at_)) (by omega)
    rw [hsb] at h1
    have HSB := Lib.hid hsb
    have H1 := Lib.hid h1
    clear e1 hsb h1
    go_wp2_with fail
    refine H1.out.mono ?_
    rintro ee w2 ⟨rfl, hb2⟩
    have HB2 := Lib.hid (below_from HB1.out hb2)
    clear hb2 x4 y4
    cases sb with
    | false =>
      have HNO := Lib.hid (show sameS ts s t = false from decide_eq_false (fun h => of_decide_eq_false HSB.out h.2.2.2.2.1))
      go_wp2_with fail
      go_ret
      exact boolPost_mk HNO.out (HB.out.trans (HB2.out.mono HB.out.size))
    | true =>
      obtain ⟨x5, -⟩ := varN_B HB2.out HX.out 5 _ rfl
      obtain ⟨y5, -⟩ := varN_B HB2.out HY.out 5 _ rfl
      go_wp2_with fail
      go_loopw [5, 23] (fun _ i wr => ∃ k : Nat, k ≤ L ∧ i = .int .i64 k ∧ Hid (NtTo (ntS L s) (ntS L t) k) ∧ Below w2.heap.size w2 wr) (fun _ i _ => L - (intOf i).toNat)
      case atStart => exact ⟨0, by omega, rfl, (fun i hi => by omega), Below.refl _ _⟩
      case round =>
        obtain ⟨k, hk, rfl, hag, hb⟩ := hrel
        have hbb := HB2.out.trans (hb.mono HB2.out.size)
        by_cases hlt : k < L
        · have hS5 := vs_keep (kept_B hbb) HS.out.nt
          have hT5 := vs_keep (kept_B hbb) HT.out.nt
          rw [HLL.out] at hS5 hT5
          obtain ⟨b1, o1, z, pz, cz, rfl, hz, g0, hRz, Vz⟩ := rows_atR hS5 hlt
          obtain ⟨b2, o2, y, py, cy, rfl, hy, k0, -, Vy⟩ := rows_atR hT5 hlt
          obtain ⟨x5', -⟩ := varN_B hbb HX.out 5 _ rfl
          obtain ⟨y5', -⟩ := varN_B hbb HY.out 5 _ rfl
          have hzl : z.length ≤ 9223372036854775807 := by
            obtain ⟨_, _, _, h2, h3, _⟩ := hRz
            omega
          clear hRz
          have i1 : (0 : Int) ≤ k := by omega
          have i2 : (k : Int) < L := by omega
          have HZ := Lib.hid hz
          have HYY := Lib.hid hy
          have HBR := Lib.hid hb
          obtain ⟨sb, hsb⟩ : ∃ sb, sameB z y = sb := ⟨_, rfl⟩
          have HS2 := Lib.hid hsb
          have hB0 : Below wr.heap.size wr wr.drew := (Below.refl _ _).drew
          clear hz hy hb hbb hS5 hT5 hsb
          go_wp2_with fail
          go_region_held3 (fun w' => w'.cell? ⟨w.heap.size, 5, none⟩ = some (.slice (some ⟨b1, o1, none⟩) L rc) ∧ w'.cell? ⟨w.heap.size + 1, 5, none⟩ = some (.slice (some ⟨b2, o2, none⟩) L re) ∧ w'.cell? ⟨b1, o1 + k, none⟩ = some (.slice pz z.length cz) ∧ w'.cell? ⟨b2, o2 + k, none⟩ = some (.slice py y.length cy))
            (first | exact ⟨x5', y5', g0, k0⟩ | exact ⟨cellB (by assumption) x5', cellB (by assumption) y5', cellB (by assumption) g0, cellB (by assumption) k0⟩)
            ((go_at_call 29; refine (Ints_any pz py z.length cz y.length cy z y _ (vs_slR (vs_D Vz)) (vs_slR (vs_D Vy)) hzl).mono ?_; rw [HS2.out]; rintro ee w3 ⟨rfl, hb3⟩; have hb3' := below_from hB0 hb3))
          have HB3 := Lib.hid (below_from HBR.out hb3')
          clear hb3 hb3' hB0 x5' y5' g0 k0
          cases sb with
          | true =>
            have HAG := Lib.hid (ntTo_next hag.out (by rw [HZ.out, HYY.out, of_decide_eq_true HS2.out]))
            go_wp2_with fail
            go_roundw
            case rel => exact ⟨k + 1, by omega, by go_num, HAG.out, HB3.out⟩
            case measure => simp [intOf]; omega
          | false =>
            have HNO := Lib.hid (show sameS ts s t = false from decide_eq_false (fun h => by
              have h2 := h.2.2.2.2.2
              rw [HLL.out] at h2
              have h3 := HZ.out
              rw [h2, HYY.out] at h3
              injection h3 with h3
              exact of_decide_eq_false HS2.out h3.symm))
            go_wp2_with fail
            go_ret
            exact boolPost_mk HNO.out (HB.out.trans ((HB2.out.trans (HB3.out.mono HB2.out.size)).mono HB.out.size))
        · obtain rfl : k = L := by omega
          have HYES := Lib.hid (show sameS ts s t = true from decide_eq_true ⟨HE1.out.1, HTS.out, HSD.out, HE1.out.2, of_decide_eq_true HSB.out, by rw [HLL.out]; exact ntTo_all HNR.out HMR.out hag.out⟩)
          have HBR := Lib.hid hb
          clear hb hbb
          go_wp2_with fail
          go_ret
          exact boolPost_mk HYES.out (HB.out.trans ((HB2.out.trans (HBR.out.mono HB2.out.size)).mono HB.out.size))
  · rw [decide_eq_false e1]
    have HNO := Lib.hid (show sameS ts s t = false from decide_eq_false (fun h => e1 ⟨h.1, h.2.2.2.1⟩))
    clear e1
    go_wp2_with fail
    go_ret
    exact boolPost_mk HNO.out (HB.out.trans (HB1.out.mono HB.out.size))
end Go.Proofs.YtiebaeaomgpicaaGreat
