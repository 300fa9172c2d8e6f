/- Contracts of package respiteref04: first. -/
import Derived.Test.YtiebaeaomgpicaaGreatRcF
import Derived.Test.YtiebaeaomgpicaaGreatRfD
import Derived.Test.YtiebaeaomgpicaaGreatRefE
import Derived.Test.YtiebaeaomgpicaaGreatRfU
import Derived.Test.YtiebaeaomgpicaaGreatLitJ
namespace Go.Proofs.YtiebaeaomgpicaaGreat
open Go.ChangeShapes Go.WideShapes Go.ChangeAt Go.RowKit
open Gen
theorem load_memR (w : World) (g : Nat) (x y : Value) (h : VarN w g [x, y]) : (loadVar 43 ⟨g, 0, none⟩).run Tryz.prog w = .ok (.agg #[x, y]) w := by
  have k0 := (h 0 _ rfl).1
  have k1 := (h 1 _ rfl).1
  simp [go_sem, k0, k1]
theorem load_stateR (w : World) (g : Nat) (x0 x1 x2 x3 x4 x5 : Value) (h : VarN w g [x0, x1, x2, x3, x4, x5]) : (loadVar 64 ⟨g, 0, none⟩).run Tryz.prog w = .ok (.agg #[x0, x1, x2, x3, x4, x5]) w := by
  have k0 := (h 0 _ rfl).1
  have k1 := (h 1 _ rfl).1
  have k2 := (h 2 _ rfl).1
  have k3 := (h 3 _ rfl).1
  have k4 := (h 4 _ rfl).1
  have k5 := (h 5 _ rfl).1
  simp [go_sem, k0, k1, k2, k3, k4, k5]
/-- integers do not lie where none are -/
theorem slP_var {w : World} {a : Option Addr} {n : Nat} {zs : List Int} {g : Nat} (h : Sl w a n zs) (hc : ∀ o z, w.cell? ⟨g, o, none⟩ ≠ some (.int .i64 z)) : SlP (fun b => b ≠ g) w a n zs := by
  refine ⟨h.1, ?_⟩
  by_cases h0 : n = 0
  · exact .inl h0
  · obtain ⟨b, o, e, r⟩ := h.2.resolve_left h0
    refine .inr ⟨b, o, e, fun e1 => ?_, r⟩
    subst e1
    exact hc _ _ (r 0 (by have := h.1; omega))
theorem slP_varV {w : World} {a : Option Addr} {n : Nat} {zs : List Int} {g : Nat} (h : Sl w a n zs) (hz : ∀ z ∈ zs, z ≠ 0) (hc : ∀ o z, w.cell? ⟨g, o, none⟩ = some (.int .i64 z) → z = 0) : SlP (fun b => b ≠ g) w a n zs := by
  refine ⟨h.1, ?_⟩
  by_cases h0 : n = 0
  · exact .inl h0
  · obtain ⟨b, o, e, r⟩ := h.2.resolve_left h0
    refine .inr ⟨b, o, e, fun e1 => ?_, r⟩
    subst e1
    have hl : 0 < zs.length := by have := h.1; omega
    have h1 := hc _ _ (r 0 hl)
    refine hz _ ?_ h1
    rw [List.getD_eq_getElem?_getD, List.getElem?_eq_getElem hl]; exact List.getElem_mem hl
theorem slP_and {Q Q' : Nat → Prop} {w : World} {a : Option Addr} {n : Nat} {zs : List Int} (h : SlP Q w a n zs) (k : SlP Q' w a n zs) : SlP (fun b => Q b ∧ Q' b) w a n zs := by
  refine ⟨h.1, ?_⟩
  by_cases h0 : n = 0
  · exact .inl h0
  · obtain ⟨b, o, e, q, r⟩ := h.2.resolve_left h0
    obtain ⟨b', o', e', q', _⟩ := k.2.resolve_left h0
    rw [e] at e'
    injection e' with e'
    injection e' with e1 _ _
    subst e1
    exact .inr ⟨b, o, e, ⟨q, q'⟩, r⟩
theorem flat_nils {Q : Nat → Prop} {w : World} : ∀ n : Nat, Flat (repSlice repInt) Q w (List.replicate n (.slice none 0 0)) (List.replicate n [])
  | 0 => rfl
  | n + 1 => ⟨[.slice none 0 0], _, rfl, ⟨none, 0, rfl, Nat.le_refl _, by decide, fun _ => rfl, vs_nil⟩, flat_nils n⟩
/-- a stage, in lists somewhere -/
def FirstPost (ts : List (List Mv)) (s : St) (w : World) (e : Ending) (w' : World) : Prop :=
  ∃ a n c a' n' c' q l d p np pc r nr rc, e = .returned (.agg #[.slice a n c, .slice a' n' c', .int .i64 s.D, .slice q l d, .slice p np pc, .slice r nr rc]) ∧ RSt ts Any w' a a' q p r n n' l np nr s ∧ Below w.heap.size w w'
theorem at_begin (W D : Int) (ts : List (List Mv)) : atS ts (beginS W D ts) = List.replicate ts.length 0 := by
  apply List.ext_getElem (by simp [atS])
  intro i h1 h2
  simp [atS, beginS]
theorem nt_begin (W D : Int) (ts : List (List Mv)) : ntS ts.length (beginS W D ts) = List.replicate ts.length [] := by
  apply List.ext_getElem (by simp [ntS])
  intro i h1 h2
  simp [ntS, beginS]

set_option maxRecDepth 100000 in
set_option maxHeartbeats 8000000 in
theorem refFirst_any (W D : Int) (q : Option Addr) (d : Nat) (ts : List (List Mv)) (w : World) (hW : 1 ≤ W ∧ W ≤ 3) (hl : ts.length ≤ 3) :
    Calls Tryz.prog 24 #[.agg #[.int .i64 W, .int .i64 D, .slice q ts.length d]] w (FirstPost ts (beginS W D ts) w) := by
  obtain ⟨-, -, m3, m4, m5, -⟩ := mem_new hW
  have m6 : mayB (List.replicate W.toNat 0) (List.replicate W.toNat 0) = true := by
    rcases (show W = 1 ∨ W = 2 ∨ W = 3 by omega) with rfl | rfl | rfl <;> decide
  obtain ⟨k, rfl⟩ : ∃ k : Nat, W = k := ⟨W.toNat, by omega⟩
  rw [Int.toNat_natCast] at m3 m4 m5 m6
  have hk : 1 ≤ k ∧ k ≤ 3 := by omega
  obtain ⟨L, hL⟩ : ∃ L, ts.length = L := ⟨_, rfl⟩
  rw [hL] at hl ⊢
  have HL := Lib.hid hL
  have HM := Lib.hid (And.intro m3 (And.intro m4 (And.intro m5 m6)))
  obtain ⟨G, hG⟩ : ∃ G, G = (w.alloc (Obj.cells #[.int .i64 k, .int .i64 D, .slice q L d] 25)).alloc (Obj.cells #[.slice none 0 0, .slice none 0 0, .int .i64 0, .slice none 0 0, .slice none 0 0, .slice none 0 0] 64) := ⟨_, rfl⟩
  have hbG : Below w.heap.size w G := by rw [hG]; go_grown
  have X1 : VarN G w.heap.size [.int .i64 k, .int .i64 D, .slice q L d] := by rw [hG]; exact varN_A _ (varN_new [.int .i64 k, .int .i64 D, .slice q L d] _ rfl)
  have X2 : VarN G (w.heap.size + 1) [.slice none 0 0, .slice none 0 0, .int .i64 0, .slice none 0 0, .slice none 0 0, .slice none 0 0] := by rw [hG]; exact varN_new [.slice none 0 0, .slice none 0 0, .int .i64 0, .slice none 0 0, .slice none 0 0, .slice none 0 0] _ (by simp)
  have HX1 := Lib.hid X1
  have HX2 := Lib.hid X2
  have HB := Lib.hid hbG
  have HG := Lib.hid hG
  have x0 := (X1 0 _ rfl).1
  have hgs := varN_lt X2 (by simp)
  clear hG hbG X1 X2 m3 m4 m5 m6 hL
  go_enter Tryz.func24, Tryz.ntmps24
  go_upto_region 1 with fail
  rw [← HG.out]
  go_wp2_with fail
  refine (refNew_any k G (by omega)).mono ?_
  rintro e w1 ⟨a, c, a', c', rfl, u1, u2, hb1⟩
  obtain ⟨W1, hW1⟩ : ∃ X, X = w1.alloc (Obj.cells #[.slice a k c, .slice a' k c'] 43) := ⟨_, rfl⟩
  have hbW1 : Below w1.heap.size w1 W1 := by rw [hW1]; go_grown
  have X3 : VarN W1 w1.heap.size [.slice a k c, .slice a' k c'] := by rw [hW1]; exact varN_new [.slice a k c, .slice a' k c'] _ rfl
  have u1' := slB hbW1 u1.sl
  have u2' := slB hbW1 u2.sl
  have hB1 := below_from HB.out (below_from hb1 hbW1)
  have Y1 := varN_B (below_from hb1 hbW1) HX1.out
  have HY1 := Lib.hid Y1
  have HY2 := Lib.hid (varN_B (below_from hb1 hbW1) HX2.out)
  have HX3 := Lib.hid X3
  have hg3 := varN_lt X3 (by simp)
  have hgw : G.heap.size ≤ w1.heap.size := hb1.size
  have HBW1 := Lib.hid hB1
  have HGW := Lib.hid (below_from hb1 hbW1)
  have HW1 := Lib.hid hW1
  have hmk := refMarkA_any a a' k c k c' (List.replicate k 0) (List.replicate k 0) 0 k 1 W1 (.inl rfl) u1' u2' (by decide) HM.out.2.2.2
  rw [HM.out.1, HM.out.2.1, HM.out.2.2.1] at hmk
  have HMK := Lib.hid hmk
  have y0 := (Y1 0 _ rfl).1
  have z0 := (X3 0 _ rfl).1
  have z1 := (X3 1 _ rfl).1
  have HU1 := Lib.hid (slPB hbW1 (slW_und (Q' := fun b => G.heap.size ≤ b ∧ b < w1.heap.size) (fun b q h => ⟨q, h⟩) (slP_slF (Q := fun b => G.heap.size ≤ b) (fun b h => h) u1)))
  clear hb1 hbW1 u1 u2 u1' u2' hB1 Y1 X3 hW1 hmk x0
  go_upto_region 2 with fail
  rw [← HW1.out]
  go_wp2_with fail
  refine HMK.out.mono ?_
  rintro e w2 ⟨a2, n2, c2, a3, n3, c3, rfl, haa, v1, v2, hb2⟩
  have haa' := haa rfl
  subst haa'
  obtain rfl : k = n2 := by have := v1.1; simpa using this
  obtain rfl : k = n3 := by have := v2.1; simpa using this
  have hcell : ∀ o z, w2.cell? ⟨w1.heap.size, o, none⟩ ≠ some (.int .i64 z) := by
    intro o z h
    have e := hb2.cell (p := ⟨w1.heap.size, o, none⟩) hg3
    rw [e, HW1.out] at h
    have hh := heap_at_new w1 (.cells #[.slice a2 k c, .slice a' k c'] 43) _ rfl
    simp only [World.cell?, hh] at h
    rcases o with _ | _ | o <;> simp at h
  have hcell2 : ∀ o z, w2.cell? ⟨w.heap.size + 1, o, none⟩ = some (.int .i64 z) → z = 0 := by
    intro o z h
    have hbG2 : Below G.heap.size G w2 := below_from HGW.out hb2
    rw [hbG2.cell (p := ⟨w.heap.size + 1, o, none⟩) hgs, HG.out] at h
    have hh := heap_at_new (w.alloc (Obj.cells #[.int .i64 k, .int .i64 D, .slice q L d] 25)) (Obj.cells #[.slice none 0 0, .slice none 0 0, .int .i64 0, .slice none 0 0, .slice none 0 0, .slice none 0 0] 64) (w.heap.size + 1) (by simp)
    simp only [World.cell?, hh] at h
    rcases o with _ | _ | _ | _ | _ | _ | o <;> simp at h
    exact h.symm
  have q1 := slPB hb2 HU1.out
  have q2 := slP_and (slP_var v2 hcell) (slP_varV v2 (fun z hz => by rw [(List.mem_replicate.1 hz).2]; decide) hcell2)
  obtain ⟨U, hU⟩ : ∃ X, X = (w2.setCell ⟨w1.heap.size, 0, none⟩ (.slice a2 k c2)).setCell ⟨w1.heap.size, 1, none⟩ (.slice a3 k c3) := ⟨_, rfl⟩
  have XU : VarN U w1.heap.size [.slice a2 k c2, .slice a3 k c3] := by rw [hU]; exact varN_set (varN_set (varN_B hb2 HX3.out) 0 (by simp) _) 1 (by simp) _
  have kU : Gen.Kept (fun b => b ≠ w1.heap.size) w2 U := by rw [hU]; exact kept_trans (kept_set _ _ _ (fun b hb => hb)) (kept_set _ _ _ (fun b hb => hb))
  have HQ1 := Lib.hid (slP_keep (fun b o v hq hv => kU b o v (by omega) hv) q1)
  have HQ2 := Lib.hid (slP_keep (fun b o v hq hv => kU b o v hq.1 hv) q2)
  have HBU := Lib.hid (show Below w.heap.size w U by rw [hU]; exact ((below_from HBW1.out hb2).setCell (by simp; omega) _).setCell (by simp; omega) _)
  have YU1 : VarN U w.heap.size [.int .i64 k, .int .i64 D, .slice q L d] := by rw [hU]; exact varN_other (varN_other (varN_B hb2 HY1.out) (by omega) _) (by omega) _
  have YU2 : VarN U (w.heap.size + 1) [.slice none 0 0, .slice none 0 0, .int .i64 0, .slice none 0 0, .slice none 0 0, .slice none 0 0] := by rw [hU]; exact varN_other (varN_other (varN_B hb2 HY2.out) (by omega) _) (by omega) _
  obtain ⟨s0, t0⟩ := varN_B hb2 HX3.out 0 _ rfl
  obtain ⟨s1, t1⟩ := varN_B hb2 HX3.out 1 _ rfl
  have HYU1 := Lib.hid YU1
  have HYU2 := Lib.hid YU2
  have HXU := Lib.hid XU
  have HU := Lib.hid hU
  clear v1 v2 hcell hcell2 q1 q2 kU hU hb2 YU1 YU2 XU y0 z0 z1
  go_upto_region 3 with fail
  rw [← HU.out]
  clear s0 t0 s1 t1
  obtain ⟨z0, -⟩ := HXU.out 0 _ rfl
  obtain ⟨z1, -⟩ := HXU.out 1 _ rfl
  obtain ⟨y1, -⟩ := HYU1.out 1 _ rfl
  obtain ⟨y2, -⟩ := HYU1.out 2 _ rfl
  go_wp2_with fail
  refine (refNewTF_any a2 a3 k c2 k c3 L D U (by omega)).mono ?_
  rintro e w3 ⟨q5, d5, rfl, v3, hb3⟩
  obtain ⟨g, hg⟩ : ∃ g, g = w3.heap.size := ⟨_, rfl⟩
  have hU1 := varN_lt HYU2.out (by simp)
  have hgu : w.heap.size + 1 < g := by have h2 := hb3.size; omega
  obtain ⟨V, hV⟩ : ∃ X, X = w3.alloc (Obj.cells #[.slice a2 k c2, .slice a3 k c3, .int .i64 D, .slice q5 L d5, .slice none 0 0, .slice none 0 0] 64) := ⟨_, rfl⟩
  have hbV : Below w3.heap.size w3 V := by rw [hV]; go_grown
  have hVs : V.heap.size = g + 1 := by rw [hV, hg]; simp
  have HT1 := Lib.hid (show SlP (fun b => b < g ∧ b ≠ w.heap.size + 1) V a2 k (List.replicate k 0) from slPB hbV (slW_und (fun b q h => ⟨by omega, by omega⟩) (slPB hb3 HQ1.out)))
  have HT2 := Lib.hid (show SlP (fun b => b < g ∧ b ≠ w.heap.size + 1) V a3 k (List.replicate k 1) from slPB hbV (slW_und (fun b q h => ⟨by omega, q.2⟩) (slPB hb3 HQ2.out)))
  have HT3 := Lib.hid (show BlP (fun b => b < g ∧ b ≠ w.heap.size + 1) V q5 L (List.replicate L []) from blPB hbV (blW_und (fun b q h => ⟨by omega, by omega⟩) v3))
  have HX4 := Lib.hid (show VarN V g [.slice a2 k c2, .slice a3 k c3, .int .i64 D, .slice q5 L d5, .slice none 0 0, .slice none 0 0] by rw [hV]; exact varN_new [.slice a2 k c2, .slice a3 k c3, .int .i64 D, .slice q5 L d5, .slice none 0 0, .slice none 0 0] _ hg)
  have HZ2 := Lib.hid (varN_B (below_from hb3 hbV) HYU2.out)
  have HY4 := Lib.hid (varN_B (below_from hb3 hbV) HYU1.out)
  have HBV := Lib.hid (below_from HBU.out (below_from hb3 hbV))
  obtain ⟨i0, hi, hz0, hz1, hz2⟩ := info_parts infoR
  have HI := Lib.hid (And.intro hi (And.intro hz0 (And.intro hz1 hz2)))
  obtain ⟨j0, ki, kz0, kz1, kz2⟩ := info_parts infoI
  have HJ := Lib.hid (And.intro ki (And.intro kz0 (And.intro kz1 kz2)))
  have HV := Lib.hid hV
  have HVS := Lib.hid hVs
  have HGG := Lib.hid hg
  clear hi hz0 hz1 hz2 ki kz0 kz1 kz2 hbV hb3 v3 hV z0 z1 y1 y2 hVs
  go_upto_region 4 with fail
  rw [← HGG.out, ← HV.out]
  clear hg
  obtain ⟨y2, -⟩ := HY4.out 2 _ rfl
  go_wp2_with fail
  go_loopw [26] (fun i wr => ∃ (j : Nat) (p1 p2 : Option Addr) (e1 e2 : Nat), j ≤ L ∧ i = .int .i64 j ∧ Hid (wr.ownsRow (g + 1) 3 1 (.slice p1 j e1) j (List.replicate j (.int .i64 0))) ∧ Hid (wr.ownsRow (g + 1) 23 1 (.slice p2 j e2) j (List.replicate j (.slice none 0 0))) ∧ Hid (∀ b, (Value.slice p1 j e1).ownBlock = some b → (Value.slice p2 j e2).ownBlock ≠ some b) ∧ Hid (VarN wr g [.slice a2 k c2, .slice a3 k c3, .int .i64 D, .slice q5 L d5, .slice p1 j e1, .slice p2 j e2]) ∧ Hid (VarN wr (w.heap.size + 1) [.slice none 0 0, .slice none 0 0, .int .i64 0, .slice none 0 0, .slice none 0 0, .slice none 0 0]) ∧ Hid (Gen.Kept (fun b => b < g) V wr) ∧ Below w.heap.size w wr ∧ g + 1 ≤ wr.heap.size) (fun i _ => L - (intOf i).toNat)
  case atStart => exact ⟨0, none, none, 0, 0, Nat.zero_le _, rfl, World.ownsRow_nil _ _ _ _, World.ownsRow_nil _ _ _ _, (fun b h => by cases h), HX4.out, HZ2.out, Gen.kept_refl _ _, HBV.out, by rw [HVS.out]; exact Nat.le_refl _⟩
  case round =>
    obtain ⟨j, p1, p2, e1, e2, hj, rfl, ho1, ho2, hdj, hx4, hz2, hkp, hb, hsz⟩ := hrel
    by_cases hlt : j < L
    · have i1 : (0 : Int) ≤ j := by omega
      have i2 : (j : Int) < L := by omega
      obtain ⟨x4, f4⟩ := hx4.out 4 _ rfl
      have HB := Lib.hid hb
      clear hb y2
      go_wp2_with (at_builtin; refine wpList_append_own_at _ rfl (.tmp 29) (.tmp 30) 23 rfl (g + 1) 3 j0 (.int .i64 0) 1 8 Tryz.underlying23 HJ.out.1 HJ.out.2.1 HJ.out.2.2.1 HJ.out.2.2.2 rfl (by decide) (.slice p1 j e1) j _ rfl (ho1.out.alloc _) ⟨wr.heap.size, 0, none⟩ 1 1 [.int .i64 0] rfl rfl (cell_one_new _ _ _) (by simp [Value.oneCell']) (by unfold maxLen; omega) (by omega) (by simp; omega) ?_)
      intro v' w4 hown hgrow _ hplace
      obtain ⟨p3, e3, rfl⟩ := own_shapeR hown
      have hBG : Below (g + 1) (wr.alloc (Obj.cells #[.int .i64 0] 3)) w4 := (Below.refl _ _).grown hgrow (by simp; omega) (fun b hr => (ho1.out.lt b hr).1)
      have o2 : w4.ownsRow (g + 1) 23 1 (.slice p2 j e2) j (List.replicate j (.slice none 0 0)) := (ho2.out.alloc _).kept hgrow (by
        cases h : (Value.slice p2 j e2).ownBlock with
        | none => exact .inl rfl
        | some b => exact .inr (fun e => hdj.out b e.symm h))
      have d2 : ∀ b, (Value.slice p3 (j + 1) e3).ownBlock = some b → (Value.slice p2 j e2).ownBlock ≠ some b := by
        intro b h h2
        rcases hplace with e | e
        · exact hdj.out b (e.symm.trans h) h2
        · rw [e] at h
          injection h with h
          have := (ho2.out.lt b h2).2
          (try simp at h)
          omega
      have x5 : VarN w4 g [.slice a2 k c2, .slice a3 k c3, .int .i64 D, .slice q5 L d5, .slice p1 j e1, .slice p2 j e2] := varN_low hBG (Nat.lt_succ_self _) (varN_A _ hx4.out)
      have z5 : VarN w4 (w.heap.size + 1) [.slice none 0 0, .slice none 0 0, .int .i64 0, .slice none 0 0, .slice none 0 0, .slice none 0 0] := varN_low hBG (by omega) (varN_A _ hz2.out)
      have k5 : Gen.Kept (fun b => b < g) V w4 := kept_trans hkp.out (kept_trans (kept_A _ _) (kept_low hBG (fun b h => by omega)))
      have b5 : Below w.heap.size w w4 := (HB.out.alloc (by omega) _).trans (hBG.mono (by omega))
      have s5 : g + 1 ≤ w4.heap.size := by have := hBG.size; simp at this; omega
      obtain ⟨U5, hU5⟩ : ∃ X, X = w4.setCell ⟨g, 4, none⟩ (.slice p3 (j + 1) e3) := ⟨_, rfl⟩
      have HO1 := Lib.hid (show U5.ownsRow (g + 1) 3 1 (.slice p3 (j + 1) e3) (j + 1) (List.replicate (j + 1) (.int .i64 0)) by rw [hU5, List.replicate_succ']; exact own_set hown _ (fun e => by have h5 : g + 1 ≤ g := (hown.lt _ e).1; omega) _)
      have HO2 := Lib.hid (show U5.ownsRow (g + 1) 23 1 (.slice p2 j e2) j (List.replicate j (.slice none 0 0)) by rw [hU5]; exact own_set o2 _ (fun e => by have h5 : g + 1 ≤ g := (o2.lt _ e).1; omega) _)
      have HX5 := Lib.hid (show VarN U5 g [.slice a2 k c2, .slice a3 k c3, .int .i64 D, .slice q5 L d5, .slice p3 (j + 1) e3, .slice p2 j e2] by rw [hU5]; exact varN_set x5 4 (by simp) _)
      have HZ5 := Lib.hid (show VarN U5 (w.heap.size + 1) [.slice none 0 0, .slice none 0 0, .int .i64 0, .slice none 0 0, .slice none 0 0, .slice none 0 0] by rw [hU5]; exact varN_other z5 (by omega) _)
      have HK5 := Lib.hid (show Gen.Kept (fun b => b < g) V U5 by rw [hU5]; exact kept_trans k5 (kept_set _ _ _ (fun b hb => by show b ≠ g; omega)))
      have HB5 := Lib.hid (show Below w.heap.size w U5 by rw [hU5]; exact b5.setCell (by show w.heap.size ≤ g; omega) _)
      have hs5 : g + 1 ≤ U5.heap.size := by rw [hU5]; simpa using s5
      obtain ⟨y4, g4⟩ := x5 4 _ rfl
      have HD2 := Lib.hid d2
      have HU5 := Lib.hid hU5
      clear hown hgrow hplace hBG o2 d2 x5 z5 k5 b5 s5 hU5 x4 f4
      go_upto_region 7 with fail
      rw [← HU5.out]
      clear y4 g4
      obtain ⟨x5, f5⟩ := HX5.out 5 _ rfl
      go_wp2_with (at_builtin; refine wpList_append_own_at _ rfl (.tmp 34) (.tmp 35) 27 rfl (g + 1) 23 i0 (.slice none 0 0) 1 24 Tryz.underlying27 HI.out.1 HI.out.2.1 HI.out.2.2.1 HI.out.2.2.2 rfl (by decide) (.slice p2 j e2) j _ rfl (HO2.out.alloc _) ⟨U5.heap.size, 0, none⟩ 1 1 [.slice none 0 0] rfl rfl (cell_one_new _ _ _) (by simp [Value.oneCell']) (by unfold maxLen; omega) (by omega) (by simp; omega) ?_)
      intro v' w6 hown hgrow _ hplace
      obtain ⟨p4, e4, rfl⟩ := own_shapeR hown
      have hBG : Below (g + 1) (U5.alloc (Obj.cells #[.slice none 0 0] 23)) w6 := (Below.refl _ _).grown hgrow (by simp; omega) (fun b hr => (HO2.out.lt b hr).1)
      have o1 : w6.ownsRow (g + 1) 3 1 (.slice p3 (j + 1) e3) (j + 1) (List.replicate (j + 1) (.int .i64 0)) := (HO1.out.alloc _).kept hgrow (by
        cases h : (Value.slice p3 (j + 1) e3).ownBlock with
        | none => exact .inl rfl
        | some b => exact .inr (fun e => HD2.out b h e.symm))
      have d3 : ∀ b, (Value.slice p3 (j + 1) e3).ownBlock = some b → (Value.slice p4 (j + 1) e4).ownBlock ≠ some b := by
        intro b h h2
        rcases hplace with e | e
        · exact HD2.out b h (e.symm.trans h2)
        · rw [e] at h2
          injection h2 with h2
          have := (HO1.out.lt b h).2
          (try simp at h2)
          omega
      have x6 : VarN w6 g [.slice a2 k c2, .slice a3 k c3, .int .i64 D, .slice q5 L d5, .slice p3 (j + 1) e3, .slice p2 j e2] := varN_low hBG (Nat.lt_succ_self _) (varN_A _ HX5.out)
      have z6 : VarN w6 (w.heap.size + 1) [.slice none 0 0, .slice none 0 0, .int .i64 0, .slice none 0 0, .slice none 0 0, .slice none 0 0] := varN_low hBG (by omega) (varN_A _ HZ5.out)
      have k6 : Gen.Kept (fun b => b < g) V w6 := kept_trans HK5.out (kept_trans (kept_A _ _) (kept_low hBG (fun b h => by omega)))
      have b6 : Below w.heap.size w w6 := (HB5.out.alloc (by omega) _).trans (hBG.mono (by omega))
      have s6 : g + 1 ≤ w6.heap.size := by have := hBG.size; simp at this; omega
      have HO1 := Lib.hid (own_set o1 ⟨g, 5, none⟩ (fun e => by have h5 : g + 1 ≤ g := (o1.lt _ e).1; omega) (.slice p4 (j + 1) e4))
      have HO2 := Lib.hid (show (w6.setCell ⟨g, 5, none⟩ (.slice p4 (j + 1) e4)).ownsRow (g + 1) 23 1 (.slice p4 (j + 1) e4) (j + 1) (List.replicate (j + 1) (.slice none 0 0)) by rw [List.replicate_succ']; exact own_set hown _ (fun e => by have h5 : g + 1 ≤ g := (hown.lt _ e).1; omega) _)
      have HD3 := Lib.hid d3
      have HX6 := Lib.hid (varN_set x6 5 (by simp) (.slice p4 (j + 1) e4))
      have HZ6 := Lib.hid (varN_other z6 (show g ≠ w.heap.size + 1 by omega) (.slice p4 (j + 1) e4) (o := 5))
      have HK6 := Lib.hid (kept_trans k6 (kept_set w6 ⟨g, 5, none⟩ (.slice p4 (j + 1) e4) (fun b hb => by show b ≠ g; omega)))
      have HB6 := Lib.hid (b6.setCell (p := ⟨g, 5, none⟩) (by show w.heap.size ≤ g; omega) (.slice p4 (j + 1) e4))
      obtain ⟨y5, g5⟩ := x6 5 _ rfl
      have HSZ := Lib.hid (show g + 1 ≤ (w6.setCell ⟨g, 5, none⟩ (.slice p4 (j + 1) e4)).heap.size by simpa using s6)
      clear hown hgrow hplace hBG o1 d3 x6 z6 k6 b6 s6 x5 f5
      go_wp2_with fail
      go_roundw
      case rel => exact ⟨j + 1, p3, p4, e3, e4, by omega, by go_num, HO1.out, HO2.out, HD3.out, HX6.out, HZ6.out, HK6.out, HB6.out, HSZ.out⟩
      case measure => simp [intOf]; omega
    · obtain rfl : j = L := by omega
      have hF : VarN (setN wr (w.heap.size + 1) 0 [.slice a2 k c2, .slice a3 k c3, .int .i64 D, .slice q5 j d5, .slice p1 j e1, .slice p2 j e2]) (w.heap.size + 1) [.slice a2 k c2, .slice a3 k c3, .int .i64 D, .slice q5 j d5, .slice p1 j e1, .slice p2 j e2] := varN_all hz2.out rfl
      have kF : Gen.Kept (fun b => b < g ∧ b ≠ w.heap.size + 1) V (setN wr (w.heap.size + 1) 0 [.slice a2 k c2, .slice a3 k c3, .int .i64 D, .slice q5 j d5, .slice p1 j e1, .slice p2 j e2]) := fun b o v hq hv => kept_setN (Q := fun b => b ≠ w.heap.size + 1) (fun b h => h) b o v hq.2 (hkp.out b o v hq.1 hv)
      have kN : Gen.Kept (fun b => g + 1 ≤ b) wr (setN wr (w.heap.size + 1) 0 [.slice a2 k c2, .slice a3 k c3, .int .i64 D, .slice q5 j d5, .slice p1 j e1, .slice p2 j e2]) := fun b o v hq hv => kept_setN (Q := fun b => b ≠ w.heap.size + 1) (fun b h => h) b o v (by omega) hv
      obtain ⟨q7, d7, e7, -, -, -, V7⟩ := vs_own (r := repInt) (Q := fun b => g + 1 ≤ b) (ys := List.replicate j 0) ho1.out (by rw [← List.map_replicate]; exact flat_map1 _ _) (fun b h _ => h)
      cases e7
      obtain ⟨q8, d8, e8, -, -, -, V8⟩ := vs_own (r := repSlice repInt) (Q := fun b => g + 1 ≤ b) (ys := List.replicate j []) ho2.out (flat_nils j) (fun b h _ => h)
      cases e8
      have HRS := Lib.hid (show RSt ts Any (setN wr (w.heap.size + 1) 0 [.slice a2 k c2, .slice a3 k c3, .int .i64 D, .slice q5 j d5, .slice p1 j e1, .slice p2 j e2]) a2 a3 q5 p1 p2 k k j j j (beginS k D ts) from
        ⟨by show SlP Any _ _ _ (List.replicate (k : Int).toNat 0); rw [Int.toNat_natCast]; exact slP_mono (fun _ _ => trivial) (slP_keep kF HT1.out),
         by show SlP Any _ _ _ (List.replicate (k : Int).toNat 1); rw [Int.toNat_natCast]; exact slP_mono (fun _ _ => trivial) (slP_keep kF HT2.out),
         by show BlP Any _ _ _ (List.replicate ts.length []); rw [HL.out]; exact blP_mono (fun _ _ => trivial) (blP_keep kF HT3.out),
         by rw [at_begin, HL.out]; exact vs_any (vs_keep kN V7),
         by rw [nt_begin, HL.out]; exact vs_any (vs_keep kN V8)⟩)
      have HBF := Lib.hid (below_setN (g := w.heap.size + 1) (xs := [.slice a2 k c2, .slice a3 k c3, .int .i64 D, .slice q5 j d5, .slice p1 j e1, .slice p2 j e2]) (k := 0) (show w.heap.size ≤ w.heap.size + 1 by omega) hb)
      have HF := Lib.hid hF
      obtain ⟨x0, -⟩ := hx4.out 0 _ rfl
      obtain ⟨x1, -⟩ := hx4.out 1 _ rfl
      obtain ⟨x2, -⟩ := hx4.out 2 _ rfl
      obtain ⟨x3, -⟩ := hx4.out 3 _ rfl
      obtain ⟨x4, -⟩ := hx4.out 4 _ rfl
      obtain ⟨x5, -⟩ := hx4.out 5 _ rfl
      obtain ⟨r0, f0⟩ := hz2.out 0 _ rfl
      obtain ⟨r1, f1⟩ := hz2.out 1 _ rfl
      obtain ⟨r2, f2⟩ := hz2.out 2 _ rfl
      obtain ⟨r3, f3⟩ := hz2.out 3 _ rfl
      obtain ⟨r4, f4⟩ := hz2.out 4 _ rfl
      obtain ⟨r5, f5⟩ := hz2.out 5 _ rfl
      clear hb hF kF kN V7 V8
      go_wp2
      refine bp_cell ⟨w.heap.size + 1, 0, none⟩ rfl rfl rfl (load_stateR _ _ _ _ _ _ _ _ HF.out) ?_
      exact ⟨_, _, _, _, _, _, _, _, _, _, _, _, _, _, _, rfl, HRS.out, HBF.out⟩
end Go.Proofs.YtiebaeaomgpicaaGreat
