/- Contracts of package respiteref04: add. -/
import Derived.Test.YtiebaeaomgpicaaGreatRcE
namespace Go.Proofs.YtiebaeaomgpicaaGreat
open Go.ChangeShapes Go.WideShapes Go.ChangeAt Go.RowKit
open Gen
def addS (ts : List (List Mv)) (all : List St) (s : St) : List St := if all.any (fun x => sameS ts x s) = true then all else all ++ s :: []
theorem infoS : (Tryz.prog.info? 64).map (fun i => (i.zero, i.size, i.bytes)) = some (some (.agg #[.slice none 0 0, .slice none 0 0, .int .i64 0, .slice none 0 0, .slice none 0 0, .slice none 0 0]), 6, 128) := by kernel_rfl
theorem cells_newR (w : World) (g : Nat) (hg : g = w.heap.size) (cs : List Value) (t : TypeId) : ∀ j u, cs[j]? = some u → (w.alloc (.cells cs.toArray t)).cell? ((⟨g, 0, none⟩ : Addr).add j) = some u := by
  intro j u hu
  rw [Gen.add_plain, Nat.zero_add]
  exact (varN_new (w := w) cs (t := t) g hg j u hu).1
/-- may the two be held against each other? -/
def Alike (s t : St) : Prop := s.ts = t.ts ∧ s.D = t.D ∧ s.bs.length = t.bs.length ∧ s.ws.length ≤ 1000 ∧ s.ts.length ≤ 1000 ∧ s.bs.length ≤ 1000
def AddPost (ts : List (List Mv)) (B : Nat) (Q : Nat → Prop) (v : Value) (all : List St) (w : World) (e : Ending) (w' : World) : Prop :=
  ∃ v' cs', e = .returned v' ∧ w'.ownsRow B 64 6 v' all.length cs' ∧ Flat (repRS ts) (fun b => Q b ∧ v'.ownBlock ≠ some b) w' cs' all ∧ (v'.ownBlock = v.ownBlock ∨ ∀ b, v'.ownBlock = some b → w.heap.size ≤ b) ∧ Kept (fun b => b < w.heap.size ∧ v.ownBlock ≠ some b) w w' ∧ Below B w w'
def NoneTo (ts : List (List Mv)) (all : List St) (s : St) (k : Nat) : Prop := ∀ i x, i < k → all[i]? = some x → sameS ts x s = false
theorem noneTo_next {ts : List (List Mv)} {all : List St} {s : St} {k : Nat} {x : St} (h : NoneTo ts all s k) (hx : all[k]? = some x) (hs : sameS ts x s = false) : NoneTo ts all s (k + 1) := by
  intro i y hi hy
  by_cases e : i = k
  · subst e; rw [hx] at hy; cases hy; exact hs
  · exact h i y (by omega) hy
theorem noneTo_all {ts : List (List Mv)} {all : List St} {s : St} {n : Nat} (hn : all.length = n) (h : NoneTo ts all s n) : addS ts all s = all ++ s :: [] := by
  rw [addS, if_neg]
  rw [Bool.not_eq_true, List.any_eq_false]
  intro x hx
  obtain ⟨i, hi, rfl⟩ := List.mem_iff_getElem.1 hx
  rw [h i _ (by omega) (List.getElem?_eq_getElem hi)]; decide

set_option maxRecDepth 100000 in
set_option maxHeartbeats 8000000 in
theorem refAdd_any (ts : List (List Mv)) (B : Nat) (Q : Nat → Prop) (v : Value) (all : List St) (cs : List Value) (a a' q p r : Option Addr) (n c n' c' l d np pc nr rc : Nat) (s : St) (w : World) (own : w.ownsRow B 64 6 v all.length cs) (flat : Flat (repRS ts) (fun b => Q b ∧ v.ownBlock ≠ some b) w cs all)
    (S : RSt ts (fun b => Q b ∧ v.ownBlock ≠ some b) w a a' q p r n n' l np nr s) (hal : ∀ x ∈ all, Alike x s) (hfew : all.length ≤ 20000000000) (hl : ts.length ≤ 3) (hB : B ≤ w.heap.size) :
    Calls Tryz.prog 26 #[v, .agg #[.slice a n c, .slice a' n' c', .int .i64 s.D, .slice q l d, .slice p np pc, .slice r nr rc]] w (AddPost ts B Q v (addS ts all s) w) := by
  obtain ⟨va, vc, rfl⟩ := own_shapeR own
  obtain ⟨N, hN⟩ : ∃ N, all.length = N := ⟨_, rfl⟩
  rw [hN] at own flat S hfew ⊢
  obtain ⟨D, hD⟩ : ∃ D, s.D = D := ⟨_, rfl⟩
  rw [hD]
  obtain ⟨i0, hi, hz0, hz1, hz2⟩ := info_parts infoS
  have HI := Lib.hid (And.intro hi (And.intro hz0 (And.intro hz1 hz2)))
  obtain ⟨W, hW⟩ : ∃ W, W = w.alloc (Obj.cells #[.slice a n c, .slice a' n' c', .int .i64 D, .slice q l d, .slice p np pc, .slice r nr rc] 64) := ⟨_, rfl⟩
  have hbW : Below w.heap.size w W := by rw [hW]; go_grown
  have X : VarN W w.heap.size [.slice a n c, .slice a' n' c', .int .i64 D, .slice q l d, .slice p np pc, .slice r nr rc] := by rw [hW]; exact varN_new [.slice a n c, .slice a' n' c', .int .i64 D, .slice q l d, .slice p np pc, .slice r nr rc] _ rfl
  have HX := Lib.hid X
  have HB := Lib.hid hbW
  have HW := Lib.hid hW
  have HOW := Lib.hid (own_below own hbW)
  have HFL := Lib.hid (flat_keep (kept_B hbW) flat)
  have HS := Lib.hid (rst_keep (kept_B hbW) S)
  have HAL := Lib.hid hal
  have HN := Lib.hid hN
  have HD := Lib.hid hD
  have HBW := Lib.hid hB
  obtain ⟨va', vc', e', -, -, -, VA⟩ := vs_own (r := repRS ts) (Q := Any) HOW.out (flat_mono (fun _ _ => trivial) HFL.out) (fun _ _ _ => trivial)
  cases e'
  have HVA := Lib.hid VA
  have hWs : w.heap.size < W.heap.size := varN_lt X (by simp)
  clear hi hz0 hz1 hz2 hbW X hW own flat S hal hN hD VA
  go_enter Tryz.func26, Tryz.ntmps26
  go_upto_region 1 with fail
  rw [← HW.out]
  go_wp2_with fail
  go_loopw [9] (fun i wr => ∃ k : Nat, k ≤ N ∧ i = .int .i64 k ∧ Hid (NoneTo ts all s k) ∧ Below W.heap.size W wr) (fun i _ => N - (intOf i).toNat)
  case atStart => exact ⟨0, Nat.zero_le _, rfl, (fun i x hi => by omega), Below.refl _ _⟩
  case round =>
    obtain ⟨k, hk, rfl, hno, hb⟩ := hrel
    by_cases hlt : k < N
    · obtain ⟨b, o, x, rfl, hx, -, cs1, hr, hc⟩ := vs_at HVA.out hlt
      obtain ⟨b1, m1, e1, b2, m2, e2, q1, l1, d1, p1, mp, pe, r1, mr, re, rfl, RX⟩ := hr
      rw [show (repRS ts).k = 6 from rfl] at hc
      have g0 := cellB hb (hc 0 _ rfl)
      have g1 := cellB hb (hc 1 _ rfl)
      have g2 := cellB hb (hc 2 _ rfl)
      have g3 := cellB hb (hc 3 _ rfl)
      have g4 := cellB hb (hc 4 _ rfl)
      have g5 := cellB hb (hc 5 _ rfl)
      rw [Nat.add_zero] at g0
      have HX1 := Lib.hid hx
      have HAX := Lib.hid (HAL.out x (List.mem_of_getElem? hx))
      have i1 : (0 : Int) ≤ k := by omega
      have i2 : (k : Int) < N := by omega
      have HBR := Lib.hid hb
      obtain ⟨Dx, hDx⟩ : ∃ Dx, x.D = Dx := ⟨_, rfl⟩
      rw [hDx] at g2
      obtain ⟨U, hU⟩ : ∃ U, U = wr.alloc (Obj.cells #[.slice b1 m1 e1, .slice b2 m2 e2, .int .i64 Dx, .slice q1 l1 d1, .slice p1 mp pe, .slice r1 mr re] 64) := ⟨_, rfl⟩
      have hbU : Below W.heap.size W U := by rw [hU]; exact hb.alloc hb.size _
      have h0 := refSameS_any ts Any (fun b' => Q b' ∧ (Value.slice (some ⟨b, o, none⟩) N vc).ownBlock ≠ some b') b1 b2 q1 p1 r1 a a' q p r m1 e1 m2 e2 l1 d1 mp pe mr re n c n' c' l d np pc nr rc x s U (rst_keep (kept_B hbU) RX) (rst_keep (kept_B hbU) HS.out) HAX.out.1 HAX.out.2.1 HAX.out.2.2.1 hl (by rw [← RX.ws.1]; exact HAX.out.2.2.2.1) (by rw [← RX.tg.1]; exact HAX.out.2.2.2.2.1) (by rw [← RX.bs.1]; exact HAX.out.2.2.2.2.2)
      rw [hDx, HD.out] at h0
      obtain ⟨sb, hsb⟩ : ∃ sb, sameS ts x s = sb := ⟨_, rfl⟩
      rw [hsb] at h0
      have HSB := Lib.hid hsb
      have H0 := Lib.hid h0
      have V6 : VarN U wr.heap.size [.slice b1 m1 e1, .slice b2 m2 e2, .int .i64 Dx, .slice q1 l1 d1, .slice p1 mp pe, .slice r1 mr re] := by rw [hU]; exact varN_new [.slice b1 m1 e1, .slice b2 m2 e2, .int .i64 Dx, .slice q1 l1 d1, .slice p1 mp pe, .slice r1 mr re] _ rfl
      have V3 := varN_B hbU HX.out
      have HBU := Lib.hid hbU
      have HU := Lib.hid hU
      clear hx hc RX hb hDx hU hsb h0 hbU
      go_upto_region 4 with fail
      rw [← HU.out]
      clear g0 g1 g2 g3 g4 g5
      have z0 := (V6 0 _ rfl).1
      have z1 := (V6 1 _ rfl).1
      have z2 := (V6 2 _ rfl).1
      have z3 := (V6 3 _ rfl).1
      have z4 := (V6 4 _ rfl).1
      have z5 := (V6 5 _ rfl).1
      have x0 := (V3 0 _ rfl).1
      have x1 := (V3 1 _ rfl).1
      have x2 := (V3 2 _ rfl).1
      have x3 := (V3 3 _ rfl).1
      have x4 := (V3 4 _ rfl).1
      have x5 := (V3 5 _ rfl).1
      clear V6 V3
      go_wp2_with fail
      refine H0.out.mono ?_
      rintro ee w3 ⟨rfl, hb3⟩
      have HB3 := Lib.hid (below_from HBU.out hb3)
      clear hb3 z0 z1 z2 z3 z4 z5 x0 x1 x2 x3 x4 x5
      cases sb with
      | true =>
        have HAD := Lib.hid (show addS ts all s = all from if_pos (List.any_eq_true.2 ⟨x, List.mem_of_getElem? HX1.out, HSB.out⟩))
        go_wp2_with fail
        go_ret
        rw [HAD.out]
        have hb7 := HB.out.trans (HB3.out.mono HB.out.size)
        exact ⟨_, cs, rfl, by rw [HN.out]; exact own_below HOW.out HB3.out, flat_keep (kept_B HB3.out) HFL.out, .inl rfl, fun b' o' u hb' hu => (hb7.cell (p := ⟨b', o', none⟩) hb'.1).trans hu, hb7.mono HBW.out⟩
      | false =>
        have HNX := Lib.hid (noneTo_next hno.out HX1.out HSB.out)
        go_wp2_with fail
        go_roundw
        case rel => exact ⟨k + 1, by omega, by go_num, HNX.out, HB3.out⟩
        case measure => simp [intOf]; omega
    · obtain rfl : k = N := by omega
      have HAD := Lib.hid (noneTo_all HN.out hno.out)
      have HBR := Lib.hid hb
      have hsz := hb.size
      have HOR := Lib.hid (own_below HOW.out hb)
      have HFR := Lib.hid (flat_keep (kept_A _ (Obj.cells #[.slice a n c, .slice a' n' c', .int .i64 D, .slice q l d, .slice p np pc, .slice r nr rc] 64)) (flat_keep (kept_B hb) HFL.out))
      have HEL := Lib.hid (show (repRS ts).R (fun b => Q b ∧ (Value.slice va k vc).ownBlock ≠ some b) (wr.alloc (Obj.cells #[.slice a n c, .slice a' n' c', .int .i64 D, .slice q l d, .slice p np pc, .slice r nr rc] 64)) [.slice a n c, .slice a' n' c', .int .i64 D, .slice q l d, .slice p np pc, .slice r nr rc] s from
        (repRS ts).keep (kept_A _ _) ((repRS ts).keep (kept_B hb) ⟨a, n, c, a', n', c', q, l, d, p, np, pc, r, nr, rc, by rw [HD.out], HS.out⟩))
      have V3 := varN_B hb HX.out
      have x0 := (V3 0 _ rfl).1
      have x1 := (V3 1 _ rfl).1
      have x2 := (V3 2 _ rfl).1
      have x3 := (V3 3 _ rfl).1
      have x4 := (V3 4 _ rfl).1
      have x5 := (V3 5 _ rfl).1
      clear hb V3 hno
      go_wp2_with (at_builtin; refine wpList_append_own_at _ rfl (.tmp 18) (.tmp 20) 66 rfl B 64 i0 (.agg #[.slice none 0 0, .slice none 0 0, .int .i64 0, .slice none 0 0, .slice none 0 0, .slice none 0 0]) 6 128 Tryz.underlying66 HI.out.1 HI.out.2.1 HI.out.2.2.1 HI.out.2.2.2 rfl (by decide) (.slice va k vc) k cs rfl (HOR.out.alloc _) ⟨wr.heap.size, 0, none⟩ 1 1 [.slice a n c, .slice a' n' c', .int .i64 D, .slice q l d, .slice p np pc, .slice r nr rc] rfl rfl (cells_newR _ _ rfl _ _) (by intro u hu; simp at hu; rcases hu with rfl | rfl | rfl | rfl | rfl | rfl <;> rfl) (by unfold maxLen; omega) (by omega) (by simp; omega) ?_)
      intro v' w5 hown hgrow _ hplace
      have hB5 : Below B (wr.alloc (Obj.cells #[.slice a n c, .slice a' n' c', .int .i64 D, .slice q l d, .slice p np pc, .slice r nr rc] 64)) w5 := (Below.refl _ _).grown hgrow (by simp; omega) (fun g hr => (HOR.out.lt g hr).1)
      have HFF := Lib.hid (rows_more (v' := v') ⟨HFR.out, HEL.out⟩ hgrow (hplace.imp id (fun e => e.trans (by simp))))
      have hbw : Below w.heap.size w (wr.alloc (Obj.cells #[.slice a n c, .slice a' n' c', .int .i64 D, .slice q l d, .slice p np pc, .slice r nr rc] 64)) := (HB.out.trans (HBR.out.mono HB.out.size)).alloc (by omega) _
      have HKK := Lib.hid (show Kept (fun b => b < w.heap.size ∧ (Value.slice va k vc).ownBlock ≠ some b) w w5 from
        kept_trans (fun b' o' u hb' hu => (hbw.cell (p := ⟨b', o', none⟩) hb'.1).trans hu) (fun b' o' u hb' hu => (grown_cell hgrow (by simp; omega) hb'.2 o').1.trans hu))
      have HBB := Lib.hid ((hbw.mono HBW.out).trans hB5)
      have HPL := Lib.hid hplace
      have HO5 := Lib.hid hown
      clear hown hgrow hplace hB5 hbw x0 x1 x2 x3 x4 x5
      go_wp2_with fail
      go_ret
      rw [HAD.out]
      refine ⟨v', _, rfl, by rw [List.length_append, HN.out]; exact HO5.out, HFF.out, HPL.out.imp id (fun e b hb => ?_), HKK.out, HBB.out⟩
      rw [e] at hb
      injection hb with hb
      omega
end Go.Proofs.YtiebaeaomgpicaaGreat
