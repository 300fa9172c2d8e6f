/- Contracts of layer 3's own small functions: machine. -/
import Derived.Test.YteojpdhmhjoeiaaTsoG
import Derived.Deep.RegionLaw
import Derived.Deep.RegionLawGrows
import Derived.Maps.AppendAt
namespace Go.Proofs.Yteojpdhmhjoeiaa
open Go.ChangeShapes Go.WideShapes Go.ChangeAt Go.RowKit

/-- append to a row of one's own, as one step of a region that draws -/
theorem step_append_mine {P : Program} {ops : Array Oper} {o : Oper} {a : Act} {w : World} {K : Act → World → Prop} {Q : Exit → Act → World → Prop} {E : Prop}
    (hg : o.guard = none) (s x : Operand) (t : TypeId) (hop : o.op = Op.call { callee := Callee.builtin Builtin.append, args := #[s, x], argTypes := #[t, t] })
    (base : Nat) (e : TypeId) (i : TypeInfo) (z : Value) (size bytes : Nat) (h1 : P.underlying t = some (.slice e)) (h2 : P.info? e = some i) (h3 : i.zero = some z) (h4 : i.size = size) (h5 : i.bytes = bytes) (h6 : z.cells.size = size) (h7 : 0 < size)
    (v : Value) (n : Nat) (xs : List Value) (hs : a.eval s = v) (hown : w.ownsRow base e size v n xs)
    (ad : Addr) (m c : Nat) (news : List Value) (hx : a.eval x = .slice (some ad) m c) (hn : news.length = m * size) (hc : ∀ j u, news[j]? = some u → w.cell? (ad.add j) = some u) (h1c : ∀ u ∈ news, u.oneCell' = true)
    (b1 : n + m ≤ maxLen) (b2 : (n + m) * bytes ≤ 140737488355328) (hbase : base ≤ w.heap.size)
    (hK : ∀ v' w', w'.ownsRow base e size v' (n + m) (xs ++ news) → w.grownBy w' v.ownBlock → K (a.put o.dst v') w') :
    if Region.wanted o (yielded ops a.tmps) = true then Oper.wp P o a w K Q else E := by
  have hw : Region.wanted o (yielded ops a.tmps) = true := by simp [Region.wanted, hg]
  rw [if_pos hw]
  obtain ⟨v', w', hrun, r1, r2, _, _⟩ := run_append_own_at (P := P) w base t o.type e i z size bytes h1 h2 h3 h4 h5 h6 h7 v n xs hown ad m c news hn hc h1c b1 b2 hbase
  unfold Oper.wp
  simp [execOp, hop, resolve, invoke, builtin, hs, hx, hrun, Result.andThen]
  exact hK v' w' r1 r2

theorem own_shapeT {w : World} {B : Nat} {e : TypeId} {v : Value} {n : Nat} {xs : List Value} (h : w.ownsRow B e 1 v n xs) : ∃ a c, v = .slice a n c := by
  rcases h.2 with ⟨rfl, rfl⟩ | ⟨g, cap, cur, rfl, _⟩
  · exact ⟨_, _, rfl⟩
  · exact ⟨_, _, rfl⟩
theorem own_ge {w : World} {B : Nat} {e : TypeId} {v : Value} {n : Nat} {xs : List Value} (h : w.ownsRow B e 1 v n xs) {r : Nat} (hr : v.ownBlock = some r) : B ≤ r := by
  rcases h.2 with ⟨rfl, _⟩ | ⟨g, cap, cur, rfl, hb, _⟩
  · simp [Value.ownBlock] at hr
  · simp [Value.ownBlock] at hr; omega
theorem mine_below {F : Nat} {wr w0 w1 w2 : World} {e : TypeId} {v : Value} {n : Nat} {xs : List Value} (h0 : Below F wr w0) (hs : F ≤ w0.heap.size) (hg : w0.grownBy w1 v.ownBlock) (ho : w2.ownsRow F e 1 v n xs) : Below F wr w1 :=
  h0.grown hg hs (fun _ hr => own_ge ho hr)
theorem var4_set3 {w : World} {g : Nat} {x y z u : Value} (h : Var4 w g x y z u) (u' : Value) : Var4 (w.setCell ⟨g, 3, none⟩ u') g x y z u' := by
  obtain ⟨⟨a, b, c, d⟩, e, f, i, j⟩ := h
  have ne : ∀ k, k ≠ 3 → (⟨g, 3, none⟩ : Addr) ≠ ⟨g, k, none⟩ := fun k hk e => hk (congrArg Addr.off e).symm
  refine ⟨⟨?_, ?_, ?_, World.cell?_setCell_same' _ _ _ (by rw [d]; rfl)⟩, ?_, ?_, ?_, ?_⟩
  · rw [World.cell?_setCell_other _ _ _ _ (ne _ (by decide))]; exact a
  · rw [World.cell?_setCell_other _ _ _ _ (ne _ (by decide))]; exact b
  · rw [World.cell?_setCell_other _ _ _ _ (ne _ (by decide))]; exact c
  all_goals (rw [World.frozen?_setCell]; assumption)
theorem var4_other {w : World} {g g' o : Nat} {x y z u : Value} (h : Var4 w g x y z u) (hne : g' ≠ g) (v : Value) : Var4 (w.setCell ⟨g', o, none⟩ v) g x y z u := by
  obtain ⟨⟨a, b, c, d⟩, e, f, i, j⟩ := h
  have ne : ∀ k, (⟨g', o, none⟩ : Addr) ≠ ⟨g, k, none⟩ := fun k e => hne (congrArg Addr.block e)
  refine ⟨⟨?_, ?_, ?_, ?_⟩, ?_, ?_, ?_, ?_⟩
  · rw [World.cell?_setCell_other _ _ _ _ (ne _)]; exact a
  · rw [World.cell?_setCell_other _ _ _ _ (ne _)]; exact b
  · rw [World.cell?_setCell_other _ _ _ _ (ne _)]; exact c
  · rw [World.cell?_setCell_other _ _ _ _ (ne _)]; exact d
  all_goals (rw [World.frozen?_setCell]; assumption)
def cutB (bs : List (List (Int × Int))) : List (List (Int × Int)) := (bs.take 10).map (fun b => b.take 10)
def MachineP (a a' : Option Addr) (n c n' c' : Nat) (D : Int) (l : Nat) (bs : List (List (Int × Int))) (w : World) (e : Ending) (w' : World) : Prop :=
  ∃ q d, e = .returned (.agg #[.slice a n c, .slice a' n' c', .int .i64 D, .slice q l d]) ∧ Bl w' q l bs ∧ Below w.heap.size w w'
theorem pl_take {w : World} {a : Option Addr} {n : Nat} {ps : List (Int × Int)} (h : Pl w a n ps) (k : Nat) : Pl w a (min n k) (ps.take k) := by
  refine ⟨by rw [List.length_take, h.1]; omega, ?_⟩
  by_cases h0 : min n k = 0
  · exact .inl h0
  · obtain ⟨b, o, e, r⟩ := h.2.resolve_left (by omega)
    refine .inr ⟨b, o, e, fun i hi => ?_⟩
    rw [List.length_take] at hi
    have e2 : (ps.take k).getD i (0, 0) = ps.getD i (0, 0) := by
      simp only [List.getD_eq_getElem?_getD, List.getElem?_take]
      rw [if_pos (by omega)]
    rw [e2]
    exact r i (by omega)
theorem cutB_succ {bs : List (List (Int × Int))} {k : Nat} (hk : k < 10) (hl : k < bs.length) : (cutB bs).take (k + 1) = (cutB bs).take k ++ [(bs.getD k []).take 10] := by
  have h : k < (cutB bs).length := by simp [cutB]; omega
  rw [List.take_succ_eq_append_getElem h]
  congr 1
  simp [cutB, hl]
theorem cutB_length (bs : List (List (Int × Int))) : (cutB bs).length = min bs.length 10 := by simp [cutB]; omega
theorem bvals_kept {w w' : World} {vs : List Value} {bs : List (List (Int × Int))} (hk : ∀ q n b, Pl w q n b → Pl w' q n b) (h : BVals w vs bs) : BVals w' vs bs :=
  ⟨h.1, fun i hi => by obtain ⟨q, c, h1, h2, h3⟩ := h.2 i hi; exact ⟨q, c, h1, h2, hk _ _ _ h3⟩⟩

set_option maxRecDepth 100000 in
set_option maxHeartbeats 8000000 in
theorem machine_any (a a' q : Option Addr) (n c n' c' l d : Nat) (D : Int) (bs : List (List (Int × Int))) (w : World) (h1 : n ≤ c) (h2 : n' ≤ c') (_h3 : c ≤ 9223372036854775807) (_h4 : c' ≤ 9223372036854775807) (hld : l ≤ d) (_hd : d ≤ 9223372036854775807) (S : Bl w q l bs) :
    Calls Try.prog 9 #[.slice a n c, .slice a' n' c', .int .i64 D, .slice q l d] w (MachineP a a' (min n 170) c (min n' 170) c' D (min l 10) (cutB bs) w) := by
  have Hl := Lib.hid S.1
  obtain ⟨i0, hi, hz0, hz1, hz2⟩ := info_parts Try.info54
  have HI := Lib.hid (And.intro hi (And.intro hz0 (And.intro hz1 hz2)))
  clear hi hz0 hz1 hz2
  go_enter Try.func9, Try.ntmps9
  go_wp2
  go_region
  have e1 : (if 170 < (n : Int) then 170 else (n : Int)).toNat = min n 170 := by split <;> omega
  have e2 : (if 170 < (n' : Int) then 170 else (n' : Int)).toNat = min n' 170 := by split <;> omega
  generalize (if 170 < (n : Int) then 170 else (n : Int)) = x at e1 ⊢
  generalize (if 170 < (n' : Int) then 170 else (n' : Int)) = y at e2 ⊢
  rw [e1, e2]
  clear e1 e2
  go_upto_region 2 with fail
  obtain ⟨N, hN⟩ : ∃ N, min n 170 = N := ⟨_, rfl⟩
  obtain ⟨N', hN'⟩ : ∃ N, min n' 170 = N := ⟨_, rfl⟩
  rw [hN, hN']
  have HN := Lib.hid hN
  have HN' := Lib.hid hN'
  clear hN hN'
  obtain ⟨W, hW⟩ : ∃ W, W = ((w.alloc (Obj.cells #[.slice none 0 0, .slice none 0 0, .int .i64 0, .slice none 0 0] 27)).alloc (Obj.cells #[.slice a N c, .slice a' N' c', .int .i64 D, .slice none 0 0] 27)).drew := ⟨_, rfl⟩
  have b0 : Below w.heap.size w W := by rw [hW]; go_grown
  have R0 : Var4 W w.heap.size (.slice none 0 0) (.slice none 0 0) (.int .i64 0) (.slice none 0 0) := by rw [hW]; exact var4_A _ (var4_new _ rfl)
  have X0 : Var4 W (w.heap.size + 1) (.slice a N c) (.slice a' N' c') (.int .i64 D) (.slice none 0 0) := by rw [hW]; exact var4_new (w := w.alloc _) _ (by simp)
  rw [← hW]
  have hWs : w.heap.size + 2 ≤ W.heap.size := by have := var4_lt X0; omega
  have HB0 := Lib.hid b0
  have HR0 := Lib.hid R0
  have HX0 := Lib.hid X0
  clear hW b0 R0 X0
  go_cut [29, 30, 31] (fun s29 s30 s31 wx => s29 = .slice q (min l 10) d ∧ s30 = .int .i64 ((min l 10 : Nat) : Int) ∧ s31 = .int .i64 ((0 : Nat) : Int) ∧ wx = W)
  case first =>
    by_cases h10 : l ≤ 10
    · have h10' : ¬ ((10 : Int) < (l : Int)) := by omega
      have hl1 : (l : Int) ≤ d := by omega
      have em : Hid (min l 10 = l) := by show min l 10 = l; omega
      go_wp2_with fail
      go_meet
      exact ⟨by rw [em.out], (by rw [em.out]; try rfl), rfl, rfl⟩
    · have h10' : (10 : Int) < (l : Int) := by omega
      have hl1 : (10 : Int) ≤ d := by omega
      have hl2 : 10 ≤ d := by omega
      have em : Hid (min l 10 = 10) := by show min l 10 = 10; omega
      go_wp2_with fail
      go_meet
      exact ⟨by rw [em.out], (by rw [em.out]; try rfl), rfl, rfl⟩
  case rest =>
    obtain ⟨rfl, rfl, rfl, rfl⟩ := hcut
    obtain ⟨m, hm⟩ : ∃ m, min l 10 = m := ⟨_, rfl⟩
    have hml : m ≤ l := by omega
    have hm10 : m ≤ 10 := by omega
    rw [hm]
    have HM := Lib.hid hm
    clear hm hld
    go_wp2_with fail
    go_loopw [31] (fun i wr => ∃ (k : Nat) (v : Value) (vs : List Value), k ≤ m ∧ i = .int .i64 k ∧ Hid (wr.ownsRow (w.heap.size + 2) 54 1 v k vs) ∧ Hid (BVals w vs ((cutB bs).take k)) ∧ Hid (Var4 wr (w.heap.size + 1) (.slice a N c) (.slice a' N' c') (.int .i64 D) v) ∧ Hid (Var4 wr w.heap.size (.slice none 0 0) (.slice none 0 0) (.int .i64 0) (.slice none 0 0)) ∧ Below w.heap.size w wr) (fun i _ => m - (intOf i).toNat)
    case atStart => exact ⟨0, _, [], by omega, rfl, World.ownsRow_nil _ _ _ _, by show BVals _ _ _; simpa using bvals_nil w, HX0.out, HR0.out, HB0.out⟩
    case round =>
      obtain ⟨k, v, vs, hk, rfl, ho, hv, hx, hr, hb⟩ := hrel
      by_cases hlt : k < m
      · obtain ⟨b, o, p, pc, rfl, g0, hcap, hp⟩ := bl_at S (show k < l by omega)
        replace g0 := cellB hb g0
        have HPT := Lib.hid (pl_take hp 10)
        obtain ⟨x, hxx⟩ : ∃ x, bs.getD k [] = x := ⟨_, rfl⟩
        have HCS := Lib.hid (cutB_succ (bs := bs) (k := k) (by omega) (by rw [Hl.out]; omega))
        rw [hxx] at g0 hcap HPT HCS
        obtain ⟨mm, hmm⟩ : ∃ mm, x.length = mm := ⟨_, rfl⟩
        rw [hmm] at g0 hcap HPT
        have hc1 := hcap.1
        have hc2 := hcap.2.1
        have HC3 := Lib.hid hcap.2.2
        have i1 : (0 : Int) ≤ k := by omega
        have i2 : (k : Int) < m := by omega
        obtain ⟨va, vc, rfl⟩ := own_shapeT ho.out
        have g1 := cellA (Obj.cells #[.slice p (min mm 10) pc] 54) g0
        have HB := Lib.hid hb
        have hsz := hb.size
        have hsx := var4_lt hx.out
        obtain ⟨⟨x0, x1, x2, x3⟩, y0, y1, y2, y3⟩ := id hx.out
        have x3' := cellA (Obj.cells #[.slice p (min mm 10) pc] 54) x3
        clear hxx hmm hcap hp hb
        by_cases h10 : mm ≤ 10
        · have h10' : ¬ ((10 : Int) < (mm : Int)) := by omega
          have hl1 : (mm : Int) ≤ pc := by omega
          have em : Hid (min mm 10 = mm) := by show min mm 10 = mm; omega
          rw [em.out] at HPT x3' g1
          have hif : (if (10 : Int) < (mm : Int) then (10 : Int) else (mm : Int)) = mm := if_neg h10'
          have i3 : (0 : Int) ≤ mm := by omega
          go_wp2_with fail
          go_region_law (refine step_append_mine rfl (.tmp 36) (.tmp 42) 23 rfl (w.heap.size + 2) 54 i0 (.slice none 0 0) 1 24 Try.underlying23 HI.out.1 HI.out.2.1 HI.out.2.2.1 HI.out.2.2.2 rfl (by decide) (.slice va k vc) k vs (by simp [Act.eval]) (ho.out.alloc _) ⟨wr.heap.size, 0, none⟩ 1 1 [.slice p mm pc] (by simp [Act.eval]) rfl (cell_one_new _ _ _) (by simp [Value.oneCell']) (by unfold maxLen; omega) (by omega) (by simp; omega) ?_; intro v' w1 hown hgrow; obtain ⟨v2, c2, rfl⟩ := own_shapeT hown; have hB : Below (w.heap.size + 2) wr w1 := mine_below (by go_grown) (by simp; omega) hgrow ho.out; have X1 := var4_low hB (Nat.lt_succ_self _) hx.out; obtain ⟨⟨z0, z1, z2, z3⟩, f0, f1, f2, f3⟩ := id X1; have HX1 := Lib.hid X1; have HOW := Lib.hid hown; have HBB := Lib.hid hB; clear X1 hown hgrow hB)
          all_goals
            go_wp2_with fail
            go_roundw
            case rel =>
              refine ⟨k + 1, _, _, by omega, by go_num, ownsRow_setCell_below HOW.out (by simp) _, ?_, var4_set3 HX1.out _, var4_other (var4_low HBB.out (by omega) hr.out) (by omega) _, ((HB.out.trans (HBB.out.mono (by omega))).setCell (by simp) _)⟩
              rw [HCS.out]
              exact bvals_snoc hv.out ⟨by omega, hc2, HC3.out⟩ HPT.out
            case measure => simp [intOf]; omega
        · have h10' : (10 : Int) < (mm : Int) := by omega
          have hl1 : (10 : Int) ≤ pc := by omega
          have hl2 : 10 ≤ pc := by omega
          have em : Hid (min mm 10 = 10) := by show min mm 10 = 10; omega
          rw [em.out] at HPT x3' g1
          have hif : (if (10 : Int) < (mm : Int) then (10 : Int) else (mm : Int)) = 10 := if_pos h10'
          go_wp2_with fail
          go_region_law (refine step_append_mine rfl (.tmp 36) (.tmp 42) 23 rfl (w.heap.size + 2) 54 i0 (.slice none 0 0) 1 24 Try.underlying23 HI.out.1 HI.out.2.1 HI.out.2.2.1 HI.out.2.2.2 rfl (by decide) (.slice va k vc) k vs (by simp [Act.eval]) (ho.out.alloc _) ⟨wr.heap.size, 0, none⟩ 1 1 [.slice p 10 pc] (by simp [Act.eval]) rfl (cell_one_new _ _ _) (by simp [Value.oneCell']) (by unfold maxLen; omega) (by omega) (by simp; omega) ?_; intro v' w1 hown hgrow; obtain ⟨v2, c2, rfl⟩ := own_shapeT hown; have hB : Below (w.heap.size + 2) wr w1 := mine_below (by go_grown) (by simp; omega) hgrow ho.out; have X1 := var4_low hB (Nat.lt_succ_self _) hx.out; obtain ⟨⟨z0, z1, z2, z3⟩, f0, f1, f2, f3⟩ := id X1; have HX1 := Lib.hid X1; have HOW := Lib.hid hown; have HBB := Lib.hid hB; clear X1 hown hgrow hB)
          all_goals
            go_wp2_with fail
            go_roundw
            case rel =>
              refine ⟨k + 1, _, _, by omega, by go_num, ownsRow_setCell_below HOW.out (by simp) _, ?_, var4_set3 HX1.out _, var4_other (var4_low HBB.out (by omega) hr.out) (by omega) _, ((HB.out.trans (HBB.out.mono (by omega))).setCell (by simp) _)⟩
              rw [HCS.out]
              exact bvals_snoc hv.out ⟨hl2, hc2, HC3.out⟩ HPT.out
            case measure => simp [intOf]; omega
      · obtain rfl : k = m := by omega
        obtain ⟨va, vc, rfl⟩ := own_shapeT ho.out
        have HB := Lib.hid hb
        have hmk : (cutB bs).take k = cutB bs := List.take_of_length_le (by rw [cutB_length, Hl.out, HM.out]; exact Nat.le_refl _)
        have hv' := hv.out
        rw [hmk] at hv'
        have HV := Lib.hid hv'
        have HF := Lib.hid (var4_set hr.out (.slice a N c) (.slice a' N' c') (.int .i64 D) (.slice va k vc))
        obtain ⟨⟨x0, x1, x2, x3⟩, -⟩ := id hx.out
        obtain ⟨⟨r0, r1, r2, r3⟩, f0, f1, f2, f3⟩ := id hr.out
        clear hb hmk hv'
        go_wp2
        refine bp_cell ⟨w.heap.size, 0, none⟩ rfl rfl rfl (load_tso' _ _ _ _ _ _ HF.out.1.1 HF.out.1.2.1 HF.out.1.2.2.1 HF.out.1.2.2.2) ?_
        have hbf := below_set4 (g := w.heap.size) HB.out (Nat.le_refl _) (.slice a N c) (.slice a' N' c') (.int .i64 D) (.slice va k vc)
        obtain ⟨z1, z2, e, -, hbl⟩ := ownsRow_bl (ownsRow_setCell_below (ownsRow_setCell_below (ownsRow_setCell_below (ownsRow_setCell_below ho.out (a := ⟨w.heap.size, 0, none⟩) (by simp) (.slice a N c)) (a := ⟨w.heap.size, 1, none⟩) (by simp) (.slice a' N' c')) (a := ⟨w.heap.size, 2, none⟩) (by simp) (.int .i64 D)) (a := ⟨w.heap.size, 3, none⟩) (by simp) (.slice va k vc)) (bvalsB hbf HV.out)
        cases e
        rw [HM.out, HN.out, HN'.out]
        exact ⟨_, _, rfl, hbl, hbf⟩
end Go.Proofs.Yteojpdhmhjoeiaa
