/- RcP, RcS, RcT, put together. -/
import Derived.Test.YtiebaeaomgpicaaGreatRcC
import Derived.Test.YtiebaeaomgpicaaGreatRcN
import Derived.Test.YtiebaeaomgpicaaGreatRcO
import Derived.Test.YtiebaeaomgpicaaGreatRcQ
import Derived.Test.YtiebaeaomgpicaaGreatRcR
import Derived.Test.YtiebaeaomgpicaaGreatMS
import Derived.Test.YtiebaeaomgpicaaGreatRcK
/- Contracts of package respiteref04: put, with a word on the blocks in which the rows lie. -/
namespace Go.Proofs.YtiebaeaomgpicaaGreat
open Go.ChangeShapes Go.WideShapes Go.ChangeAt Go.RowKit
open Gen
/-- rows, and where they lie -/
def RowsPostQ (Q : Nat → Prop) (l : List (List Int)) (w : World) (e : Ending) (w' : World) : Prop :=
  ∃ q c, e = .returned (.slice q l.length c) ∧ l.length ≤ c ∧ c ≤ 9223372036854775807 ∧ (q = none → c = 0) ∧ Vs (repSlice repInt) Q w' q l.length l ∧ Below w.heap.size w w'
theorem rowsPostQ_own {Q : Nat → Prop} {l m : List (List Int)} {w w' : World} {v : Value} {vs : List Value} (hQQ : ∀ b, w.heap.size ≤ b → Q b) (h : m = l) (ho : w'.ownsRow w.heap.size 23 1 v m.length vs) (hf : Flat (repSlice repInt) (fun b => Q b ∧ b < w.heap.size) w vs m) (hb : Below w.heap.size w w') : RowsPostQ Q l w (.returned v) w' := by
  subst h
  obtain ⟨a, c, rfl, h1, h2, h3, V⟩ := vs_own (r := repSlice repInt) (Q := Q) ho (flat_mono (fun _ h => h.1) (flat_keep (kept_low hb (fun _ h => h.2)) hf)) (fun b h _ => hQQ b h)
  exact ⟨a, c, rfl, h1, h2, h3, V, hb⟩

set_option maxRecDepth 100000 in
set_option maxHeartbeats 8000000 in
theorem refPutQ_any (Q : Nat → Prop) (q : Option Addr) (n c : Nat) (l : List (List Int)) (p : Option Addr) (m d : Nat) (o : List Int) (w : World) (hQQ : ∀ b, w.heap.size ≤ b → Q b) (V : Vs (repSlice repInt) Q w q n l) (hnc : n ≤ c) (hc : c ≤ 9223372036854775807) (hq : q = none → c = 0) (S : Vs repInt Q w p m o) (hmd : m ≤ d) (hd : d ≤ 9223372036854775807) (hp : p = none → d = 0) (hn : n ≤ 10000000000) (hm : m ≤ 1000) (hlen : ∀ x ∈ l, x.length ≤ 1000) :
    Calls Tryz.prog 28 #[.slice q n c, .slice p m d] w (RowsPostQ Q (putP l o) w) := by
  obtain rfl : l.length = n := V.1
  obtain ⟨n, hnn⟩ : ∃ n, l.length = n := ⟨_, rfl⟩
  obtain rfl : o.length = m := S.1
  obtain ⟨m, hmm⟩ : ∃ m, o.length = m := ⟨_, rfl⟩
  rw [hnn] at V hnc hn ⊢
  rw [hmm] at S hmd hm ⊢
  have HN := Lib.hid hnn
  have HM := Lib.hid hmm
  have HV := Lib.hid (vs_und V)
  have HS := Lib.hid (vs_und S)
  have HLN := Lib.hid hlen
  have HEO := Lib.hid (show (repSlice repInt).R (fun b => Q b ∧ b < w.heap.size) w [.slice p m d] o from ⟨p, d, by rw [hmm], by rw [hmm]; exact hmd, hd, hp, by rw [hmm]; exact vs_und S⟩)
  have HSELF := Lib.hid (And.intro hnc (And.intro hc hq))
  obtain ⟨i0, hi, hz0, hz1, hz2⟩ := info_parts infoR
  have HI := Lib.hid (And.intro hi (And.intro hz0 (And.intro hz1 hz2)))
  clear hnn hmm V S hlen hi hz0 hz1 hz2 hnc hc hq hmd hd hp
  go_enter Tryz.func28, Tryz.ntmps28
  go_wp2_with fail
  go_loopw [5, 6, 12] (fun v dn i wr => ∃ (k K : Nat) (dd : Bool) (vs : List Value) (L : List (List Int)), k ≤ n ∧ K ≤ 2 * k ∧ i = .int .i64 k ∧ dn = .bool dd ∧ Hid (putR o (l.take k) = (dd, L) ∧ L.length = K) ∧ Hid (NotIn l o k) ∧ Hid (Flat (repSlice repInt) (fun b => Q b ∧ b < w.heap.size) w vs L) ∧ Hid (wr.ownsRow w.heap.size 23 1 v K vs) ∧ Below w.heap.size w wr) (fun _ _ i _ => n - (intOf i).toNat)
  case atStart => exact ⟨0, 0, false, [], [], Nat.zero_le _, Nat.le_refl _, rfl, rfl, (by show _ ∧ _; rw [List.take_zero]; exact ⟨rfl, rfl⟩), (fun i x hi => by omega), (rfl : Flat (repSlice repInt) _ _ [] []), (World.ownsRow_lit w #[] 0 (Nat.le_refl _) (by decide) rfl : World.ownsRow _ _ _ _ _ _ _), (Below.refl _ _).alloc (Nat.le_refl _) _⟩
  case round =>
    obtain ⟨k, K, dd, vs, L, hk, hK, rfl, rfl, hpr, hni, hf, ho, hb⟩ := hrel
    obtain ⟨va, vc, rfl⟩ := own_shapeR ho.out
    by_cases hlt : k < n
    · obtain ⟨b, ob, x, px, pc, rfl, hx, g0, hR, V2⟩ := rows_atR HV.out hlt
      obtain ⟨xl, hxl⟩ : ∃ xl, x.length = xl := ⟨_, rfl⟩
      have hx1 : xl ≤ 1000 := by rw [← hxl]; exact HLN.out x (List.mem_of_getElem? hx)
      rw [hxl] at g0 hR V2
      replace g0 := cellB hb g0
      have HX := Lib.hid hx
      have HR := Lib.hid hR
      have HV2 := Lib.hid V2
      have HPS := Lib.hid (putR_snoc (o := o) hx)
      have i1 : (0 : Int) ≤ k := by omega
      have i2 : (k : Int) < n := by omega
      have HB := Lib.hid hb
      clear hx hxl hR V2 hb
      go_wp2_with fail
      have h0 := Ints_any px p xl pc m d x o wr (vs_slR (vs_keep (kept_low HB.out (fun _ h => h.2)) HV2.out)) (vs_slR (vs_keep (kept_low HB.out (fun _ h => h.2)) HS.out)) (by omega)
      with_reducible refine h0.mono ?_
      clear h0
      rintro e w2 ⟨rfl, hb2⟩
      have HB2 := Lib.hid (below_from HB.out hb2)
      have HO2 := Lib.hid (own_below ho.out hb2)
      have hs2 := HB2.out.size
      clear hb2 g0
      by_cases e1 : x = o
      · rw [show sameB x o = true from decide_eq_true e1]
        have HIN := Lib.hid (show putP l o = l from if_pos (by rw [← e1]; exact List.mem_of_getElem? HX.out))
        clear e1
        go_wp2_with fail
        go_ret
        rw [HIN.out]
        refine ⟨some ⟨b, ob, none⟩, c, by rw [HN.out]; rfl, by rw [HN.out]; exact HSELF.out.1, HSELF.out.2.1, HSELF.out.2.2, ?_, HB2.out⟩
        rw [HN.out]
        exact vs_mono (fun _ h => h.1) (vs_keep (kept_low HB2.out (fun _ h => h.2)) HV.out)
      · rw [show sameB x o = false from decide_eq_false e1]
        have HNI := Lib.hid (notIn_succ hni.out HX.out e1)
        clear e1
        cases dd with
        | true =>
          have HPR := Lib.hid (show putR o (l.take (k + 1)) = (true, L ++ x :: []) ∧ (L ++ x :: []).length = K + 1 by rw [HPS.out, hpr.out.1, stepP]; exact ⟨by simp, by simp [hpr.out.2]⟩)
          go_wp2_with (at_builtin; refine wpList_append_own _ rfl (.tmp 31) (.tmp 33) 27 rfl w.heap.size 23 i0 (.slice none 0 0) 1 24 Tryz.underlying27 HI.out.1 HI.out.2.1 HI.out.2.2.1 HI.out.2.2.2 rfl (by decide) (.slice va K vc) (K) vs rfl (HO2.out.alloc _) ⟨w2.heap.size, 0, none⟩ 1 1 [.slice px xl pc] rfl rfl (cell_one_new _ _ _) (by simp [Value.oneCell']) (by unfold maxLen; omega) (by omega) (by simp; omega) ?_)
          intro v' w4 hown hgrow _
          have HB4 := Lib.hid (show Below w.heap.size w w4 from (HB2.out.alloc hs2 _).grown hgrow (by simp; omega) (fun g hr => (HO2.out.lt g hr).1))
          have HO4 := Lib.hid hown
          clear hown hgrow
          go_wp2_with fail
          go_roundw
          case rel => exact ⟨k + 1, K + 1, true, _, _, by omega, by omega, by go_num, rfl, HPR.out, HNI.out, (flat_snoc HR.out hf.out : Flat _ _ _ _ _), HO4.out, HB4.out⟩
          case measure => simp [intOf]; omega
        | false =>
          go_wp2_with fail
          have h1 := refLess_any p px m d xl pc o x w2 (vs_keep (kept_low HB2.out (fun _ h => h.2)) HS.out) (vs_keep (kept_low HB2.out (fun _ h => h.2)) HV2.out) (by omega) (by omega)
          with_reducible refine h1.mono ?_
          clear h1
          rintro e w3 ⟨rfl, hb3⟩
          have HB3 := Lib.hid (below_from HB2.out hb3)
          have HO3 := Lib.hid (own_below HO2.out hb3)
          have hs3 := HB3.out.size
          clear hb3
          cases hL : lessB o x with
          | true =>
            have HPR := Lib.hid (show putR o (l.take (k + 1)) = (true, L ++ o :: [] ++ x :: []) ∧ (L ++ o :: [] ++ x :: []).length = K + 1 + 1 by rw [HPS.out, hpr.out.1, stepP, hL]; exact ⟨by simp, by simp [hpr.out.2]⟩)
            clear hL
            go_wp2_with (at_builtin; refine wpList_append_own _ rfl (.tmp 27) (.tmp 29) 27 rfl w.heap.size 23 i0 (.slice none 0 0) 1 24 Tryz.underlying27 HI.out.1 HI.out.2.1 HI.out.2.2.1 HI.out.2.2.2 rfl (by decide) (.slice va K vc) (K) vs rfl (HO3.out.alloc _) ⟨w3.heap.size, 0, none⟩ 1 1 [.slice p m d] rfl rfl (cell_one_new _ _ _) (by simp [Value.oneCell']) (by unfold maxLen; omega) (by omega) (by simp; omega) ?_)
            intro v' w4 hown hgrow _
            have HB4 := Lib.hid (show Below w.heap.size w w4 from (HB3.out.alloc hs3 _).grown hgrow (by simp; omega) (fun g hr => (HO3.out.lt g hr).1))
            have HO4 := Lib.hid hown
            have hs4 := HB4.out.size
            obtain ⟨va4, vc4, rfl⟩ := own_shapeR hown
            clear hown hgrow
            go_wp2_with (at_builtin; refine wpList_append_own _ rfl (.tmp 31) (.tmp 33) 27 rfl w.heap.size 23 i0 (.slice none 0 0) 1 24 Tryz.underlying27 HI.out.1 HI.out.2.1 HI.out.2.2.1 HI.out.2.2.2 rfl (by decide) (.slice va4 (K + 1) vc4) (K + 1) _ rfl (HO4.out.alloc _) ⟨w4.heap.size, 0, none⟩ 1 1 [.slice px xl pc] rfl rfl (cell_one_new _ _ _) (by simp [Value.oneCell']) (by unfold maxLen; omega) (by omega) (by simp; omega) ?_)
            intro v' w5 hown hgrow _
            have HB5 := Lib.hid (show Below w.heap.size w w5 from (HB4.out.alloc hs4 _).grown hgrow (by simp; omega) (fun g hr => (HO4.out.lt g hr).1))
            have HO5 := Lib.hid (show w5.ownsRow w.heap.size 23 1 v' (K + 1 + 1) (vs ++ .slice p m d :: [] ++ .slice px xl pc :: []) by rw [List.append_assoc]; exact hown)
            clear hown hgrow
            go_wp2_with fail
            go_roundw
            case rel => exact ⟨k + 1, K + 1 + 1, true, _, _, by omega, by omega, by go_num, rfl, HPR.out, HNI.out, (flat_snoc HR.out (flat_snoc HEO.out hf.out) : Flat _ _ _ _ _), HO5.out, HB5.out⟩
            case measure => simp [intOf]; omega
          | false =>
            have HPR := Lib.hid (show putR o (l.take (k + 1)) = (false, L ++ x :: []) ∧ (L ++ x :: []).length = K + 1 by rw [HPS.out, hpr.out.1, stepP, hL]; exact ⟨by simp, by simp [hpr.out.2]⟩)
            clear hL
            go_wp2_with (at_builtin; refine wpList_append_own _ rfl (.tmp 31) (.tmp 33) 27 rfl w.heap.size 23 i0 (.slice none 0 0) 1 24 Tryz.underlying27 HI.out.1 HI.out.2.1 HI.out.2.2.1 HI.out.2.2.2 rfl (by decide) (.slice va K vc) (K) vs rfl (HO3.out.alloc _) ⟨w3.heap.size, 0, none⟩ 1 1 [.slice px xl pc] rfl rfl (cell_one_new _ _ _) (by simp [Value.oneCell']) (by unfold maxLen; omega) (by omega) (by simp; omega) ?_)
            intro v' w4 hown hgrow _
            have HB4 := Lib.hid (show Below w.heap.size w w4 from (HB3.out.alloc hs3 _).grown hgrow (by simp; omega) (fun g hr => (HO3.out.lt g hr).1))
            have HO4 := Lib.hid hown
            clear hown hgrow
            go_wp2_with fail
            go_roundw
            case rel => exact ⟨k + 1, K + 1, false, _, _, by omega, by omega, by go_num, rfl, HPR.out, HNI.out, (flat_snoc HR.out hf.out : Flat _ _ _ _ _), HO4.out, HB4.out⟩
            case measure => simp [intOf]; omega
    · obtain rfl : k = n := by omega
      have hno := notIn_all HN.out hni.out
      have hpr' := hpr.out
      rw [List.take_of_length_le (by rw [HN.out]; exact Nat.le_refl _)] at hpr'
      have HB := Lib.hid hb
      have hs := hb.size
      clear hb
      cases dd with
      | true =>
        have HPP := Lib.hid (show L = putP l o by rw [putP, if_neg hno, hpr'.1]; rfl)
        have HOW := Lib.hid (show wr.ownsRow w.heap.size 23 1 (.slice va K vc) L.length vs by rw [hpr'.2]; exact ho.out)
        clear hno hpr'
        go_wp2_with fail
        go_ret
        exact rowsPostQ_own hQQ HPP.out HOW.out hf.out HB.out
      | false =>
        have HPP := Lib.hid (show L ++ o :: [] = putP l o by rw [putP, if_neg hno, hpr'.1]; rfl)
        have HLL := Lib.hid (show (L ++ o :: []).length = K + 1 by simp [hpr'.2])
        clear hno hpr'
        go_wp2_with (at_builtin; refine wpList_append_own _ rfl (.tmp 38) (.tmp 40) 27 rfl w.heap.size 23 i0 (.slice none 0 0) 1 24 Tryz.underlying27 HI.out.1 HI.out.2.1 HI.out.2.2.1 HI.out.2.2.2 rfl (by decide) (.slice va K vc) (K) vs rfl (ho.out.alloc _) ⟨wr.heap.size, 0, none⟩ 1 1 [.slice p m d] rfl rfl (cell_one_new _ _ _) (by simp [Value.oneCell']) (by unfold maxLen; omega) (by omega) (by simp; omega) ?_)
        intro v' w4 hown hgrow _
        have HB4 := Lib.hid (show Below w.heap.size w w4 from (HB.out.alloc hs _).grown hgrow (by simp; omega) (fun g hr => (ho.out.lt g hr).1))
        have HO4 := Lib.hid hown
        clear hown hgrow
        go_wp2_with fail
        go_ret
        exact rowsPostQ_own hQQ HPP.out (by rw [HLL.out]; exact HO4.out) (flat_snoc HEO.out hf.out) HB4.out
end Go.Proofs.YtiebaeaomgpicaaGreat
/- Contracts of package respiteref04: move, whatever the thread's next move is. -/
namespace Go.Proofs.YtiebaeaomgpicaaGreat
open Go.ChangeShapes Go.WideShapes Go.ChangeAt Go.RowKit
open Gen
theorem notes_le (ms : List Mv) : notesM ms ≤ ms.length := List.length_filter_le _ _
/-- each thread's moves are few, and what it noted, too -/
theorem few_moves {W D : Int} {ts : List (List Mv)} (hm : mayL W D ts = true) (j : Nat) : (ts.getD j []).length ≤ 6 := by
  by_cases hj : j < ts.length
  · have h := le_total (getD_mem (d := []) hj)
    have := (mayL_parts hm).2.2.1
    omega
  · rw [List.getD_eq_getElem?_getD, List.getElem?_eq_none (by omega)]; simp
theorem few_notes {W D : Int} {ts : List (List Mv)} {s : St} (hm : mayL W D ts = true) (K : Ok W D ts s) : ∀ y ∈ ntS ts.length s, y.length ≤ 6 := by
  intro y hy
  simp only [ntS, List.mem_map, List.mem_range] at hy
  obtain ⟨j, hj, rfl⟩ := hy
  obtain ⟨⟨ms, e, -, hn⟩, -, -⟩ := K.th j hj
  have h1 := few_moves hm j
  have h2 := notes_le ms
  rw [e, List.length_append] at h1
  omega
theorem refMove_any (W D : Int) (ts : List (List Mv)) (Q : Nat → Prop) (ql : Option Addr) (dl : Nat) (a a' q p r : Option Addr) (n c n' c' l d np pc nr rc : Nat) (s : St) (j : Nat) (w : World) (hm : mayL W D ts = true) (K : Ok W D ts s) (V : Vs (repSlice repInt3) Any w ql ts.length ts) (S : RSt ts Q w a a' q p r n n' l np nr s) (hj : j < ts.length) (hQQ : ∀ b, w.heap.size ≤ b → Q b) :
    Calls Tryz.prog 27 #[.agg #[.int .i64 W, .int .i64 D, .slice ql ts.length dl], .agg #[.slice a n c, .slice a' n' c', .int .i64 s.D, .slice q l d, .slice p np pc, .slice r nr rc], .int .i64 j] w (MovePost ts Q s j w) := by
  have h8 : ts.length ≤ 8 := by have := (mayL_parts hm).2.1.2; omega
  have hbig : (ts.getD j []).length ≤ 1000 := by have := few_moves hm j; omega
  have hnote : ∀ y ∈ ntS ts.length s, y.length ≤ 1000 := fun y hy => by have := few_notes hm K y hy; omega
  have hh := ok_has hm K hj
  obtain ⟨⟨ms, e, -, -⟩, -, -⟩ := K.th j hj
  cases h0 : s.l j with
  | nil => exact refMove_none W D ts Q ql dl a a' q p r n c n' c' l d np pc nr rc s j w V S hj h0
  | cons m rest =>
    rw [h0] at e
    obtain ⟨k, x, v⟩ := m
    obtain ⟨-, -, -, hk⟩ := fitsB_parts (may_fit hm hj (m := (k, x, v)) (by rw [e]; simp))
    have hp : ∃ pre, ts.getD j [] = pre ++ (k, x, v) :: rest := ⟨ms, e⟩
    have hk : k = 0 ∨ k = 1 ∨ k = 2 ∨ k = 3 := hk
    rcases hk with rfl | rfl | rfl | rfl
    · exact refMove_store W D ts Q ql dl a a' q p r n c n' c' l d np pc nr rc s j x v rest w V S hj h0 hp K.bl hQQ h8 hbig hh
    · exact refMove_load W D ts Q ql dl a a' q p r n c n' c' l d np pc nr rc s j x v rest w V S hj h0 hp K.bl hQQ h8 hbig hh hnote
    · exact refMove_fence W D ts Q ql dl a a' q p r n c n' c' l d np pc nr rc s j x v rest w V S hj h0 hp K.bl hQQ h8 hbig
    · exact refMove_xchg W D ts Q ql dl a a' q p r n c n' c' l d np pc nr rc s j x v rest w V S hj h0 hp K.bl hQQ h8 hbig hh hnote
end Go.Proofs.YtiebaeaomgpicaaGreat
/- Package respiteref04: what the list of all stages is in memory while it grows, and what else stands. Nothing is walked here. -/
namespace Go.Proofs.YtiebaeaomgpicaaGreat
open Go.ChangeShapes Go.WideShapes Go.ChangeAt Go.RowKit
open Gen
/-- the list of stages, a row of its own -/
def AllR (ts : List (List Mv)) (W0 : World) (all : List St) (v : Value) (w : World) : Prop :=
  ∃ cs, w.ownsRow W0.heap.size 64 6 v all.length cs ∧ Flat (repRS ts) (fun b => Any b ∧ v.ownBlock ≠ some b) w cs all ∧ Below W0.heap.size W0 w
/-- what does not lie in that row -/
structure SideS (ts : List (List Mv)) (s : St) (cells : List Value) (sb : Nat) (oq : Option Addr) (out : List (List Int)) (a a' q p r : Option Addr) (n n' l np nr : Nat) (v : Value) (w : World) : Prop where
  st : RSt ts (fun b => Any b ∧ v.ownBlock ≠ some b) w a a' q p r n n' l np nr s
  cl : ∀ i x, cells[i]? = some x → w.cell? ⟨sb, i, none⟩ = some x
  nb : sb < w.heap.size ∧ v.ownBlock ≠ some sb
  ou : Vs (repSlice repInt) (fun b => Any b ∧ v.ownBlock ≠ some b) w oq out.length out
/-- where the row lies behind adding -/
def MovedTo (v v' : Value) (w w' : World) : Prop := (v'.ownBlock = v.ownBlock ∨ ∀ b, v'.ownBlock = some b → w.heap.size ≤ b) ∧ Gen.Kept (fun b => b < w.heap.size ∧ v.ownBlock ≠ some b) w w' ∧ w.heap.size ≤ w'.heap.size
section
variable {ts : List (List Mv)} {s : St} {cells : List Value} {sb : Nat} {oq : Option Addr} {out : List (List Int)} {a a' q p r : Option Addr} {n n' l np nr : Nat} {v v' : Value} {w w' W0 : World} {all : List St}
theorem moved_q (h : MovedTo v v' w w') (b : Nat) (hb : (Any b ∧ v.ownBlock ≠ some b) ∧ b < w.heap.size) : Any b ∧ v'.ownBlock ≠ some b := by
  refine ⟨trivial, fun e => ?_⟩
  rcases h.1 with e1 | e1
  · rw [e1] at e; exact hb.1.2 e
  · have := e1 b e; omega
theorem side_moved (h : SideS ts s cells sb oq out a a' q p r n n' l np nr v w) (hm : MovedTo v v' w w') : SideS ts s cells sb oq out a a' q p r n n' l np nr v' w' := by
  have hk : Gen.Kept (fun b => (Any b ∧ v.ownBlock ≠ some b) ∧ b < w.heap.size) w w' := fun b o x hb hx => hm.2.1 b o x ⟨hb.2, hb.1.2⟩ hx
  exact ⟨rst_mono (moved_q hm) (rst_keep hk (rst_und h.st)), fun i x hi => hm.2.1 _ _ _ ⟨h.nb.1, h.nb.2⟩ (h.cl i x hi), ⟨Nat.lt_of_lt_of_le h.nb.1 hm.2.2, (moved_q hm sb ⟨⟨trivial, h.nb.2⟩, h.nb.1⟩).2⟩, vs_mono (moved_q hm) (vs_keep hk (vs_und h.ou))⟩
theorem side_B (h : SideS ts s cells sb oq out a a' q p r n n' l np nr v w) (hb : Below w.heap.size w w') : SideS ts s cells sb oq out a a' q p r n n' l np nr v w' :=
  ⟨rst_keep (kept_B hb) h.st, fun i x hi => kept_B (Q := Any) hb _ _ _ trivial (h.cl i x hi), ⟨Nat.lt_of_lt_of_le h.nb.1 hb.size, h.nb.2⟩, vs_keep (kept_B hb) h.ou⟩
/-- stores into a variable that is newer than all of it -/
theorem side_K {g : Nat} (h : SideS ts s cells sb oq out a a' q p r n n' l np nr v w) (hg : w.heap.size ≤ g) (hs : w.heap.size ≤ w'.heap.size) (hk : Gen.Kept (fun b => b ≠ g) w w') : SideS ts s cells sb oq out a a' q p r n n' l np nr v w' := by
  have hk2 : ∀ {Q : Nat → Prop}, Gen.Kept (fun b => Q b ∧ b < w.heap.size) w w' := fun b o x hb hx => hk b o x (by have := hb.2; omega) hx
  exact ⟨rst_mono (fun b h => h.1) (rst_keep hk2 (rst_und h.st)), fun i x hi => hk _ _ _ (by have := h.nb.1; omega) (h.cl i x hi), ⟨Nat.lt_of_lt_of_le h.nb.1 hs, h.nb.2⟩, vs_mono (fun b h => h.1) (vs_keep hk2 (vs_und h.ou))⟩
theorem all_B (h : AllR ts W0 all v w) (hb : Below w.heap.size w w') : AllR ts W0 all v w' := by
  obtain ⟨cs, h1, h2, h3⟩ := h
  exact ⟨cs, own_below h1 hb, flat_keep (kept_B hb) h2, below_from h3 hb⟩
theorem all_below (h : AllR ts W0 all v w) : Below W0.heap.size W0 w := by
  obtain ⟨cs, h1, h2, h3⟩ := h
  exact h3
theorem all_own (h : AllR ts W0 all v w) {b : Nat} (e : v.ownBlock = some b) : W0.heap.size ≤ b ∧ b < w.heap.size := by
  obtain ⟨cs, h1, h2, h3⟩ := h
  exact h1.lt b e
/-- the stage of that number -/
theorem all_at (h : AllR ts W0 all v w) {k : Nat} {s : St} (hs : all[k]? = some s) : ∃ (g o cap : Nat) (a : Option Addr) (n c : Nat) (a' : Option Addr) (n' c' : Nat) (q : Option Addr) (l d : Nat) (p : Option Addr) (np pc : Nat) (r : Option Addr) (nr rc : Nat),
    v = .slice (some ⟨g, o, none⟩) all.length cap ∧ RSt ts (fun b => Any b ∧ v.ownBlock ≠ some b) w a a' q p r n n' l np nr s ∧ ∀ j x, [.slice a n c, .slice a' n' c', .int .i64 s.D, .slice q l d, .slice p np pc, .slice r nr rc][j]? = some x → w.cell? ⟨g, o + k * 6 + j, none⟩ = some x := by
  obtain ⟨cs, h1, h2, h3⟩ := h
  have hk := (List.getElem?_eq_some_iff.1 hs).1
  obtain ⟨c1, ⟨a, n, c, a', n', c', q, l, d, p, np, pc, r, nr, rc, rfl, R⟩, hj⟩ := flat_at h2 k s hs
  rcases h1.2 with ⟨-, h0⟩ | ⟨g, cap, cur, e, -⟩
  · omega
  · subst e
    refine ⟨g, 0, cap, a, n, c, a', n', c', q, l, d, p, np, pc, r, nr, rc, rfl, R, fun j x hx => ?_⟩
    have hj6 : j < 6 := (List.getElem?_eq_some_iff.1 hx).1
    rw [Nat.zero_add, h1.cellAt _ (by omega)]
    exact hj j x hx
theorem all_size (h : AllR ts W0 all v w) : W0.heap.size ≤ w.heap.size := by
  obtain ⟨cs, h1, h2, h3⟩ := h
  exact h3.size
theorem all_shape (h : AllR ts W0 all v w) : ∃ a c, v = .slice a all.length c := by
  obtain ⟨cs, h1, h2, h3⟩ := h
  exact own_shapeR h1
end
section
variable {W D : Int} {ts : List (List Mv)} {i : Nat} {all : List St} {out : List (List Int)} {s : St}
theorem alike_ok {x y : St} (hm : mayL W D ts = true) (K : Ok W D ts x) (L : Ok W D ts y) : Alike x y := by
  have h := (mayL_parts hm)
  exact ⟨by rw [K.tg, L.tg], by rw [K.dd, L.dd], by rw [K.bl, L.bl], by rw [K.wl]; omega, by rw [K.tg, List.length_replicate]; omega, by rw [K.bl]; omega⟩
theorem next_reach (hm : mayL W D ts = true) (hr : Reach W D ts s) {t : St} (ht : t ∈ nextS ts.length s) : Reach W D ts t := by
  cases hf : endedB s ts.length with
  | true => rw [ended_next hm (reach_ok hm hr) hf] at ht; cases ht
  | false => exact .step hr hf ht
theorem steps_next {j : Nat} (hj : j < ts.length) {t : St} (ht : t ∈ stepsJ s j) : t ∈ nextS ts.length s := by
  rw [nextS, List.mem_flatMap]
  exact ⟨j, List.mem_range.2 hj, ht⟩
/-- the list behind some of the stage's steps -/
theorem part_ok (hm : mayL W D ts = true) (B : Bfs W D ts i all out) (hr : Reach W D ts s) (xs : List St) (hx : ∀ t ∈ xs, t ∈ nextS ts.length s) :
    (xs.foldl (addS ts) all).Nodup ∧ (∀ x ∈ xs.foldl (addS ts) all, Reach W D ts x) ∧ (xs.foldl (addS ts) all).length ≤ 13841287201 := by
  obtain ⟨more, e, n, r, -⟩ := addAll hm xs all B.nd B.rch (fun t ht => next_reach hm hr (hx t ht))
  rw [e]
  exact ⟨n, r, reach_few hm n r⟩
/-- the steps of the first threads -/
def someS (s : St) (k : Nat) : List St := (List.range k).flatMap (stepsJ s)
theorem someS_succ (s : St) (k : Nat) : someS s (k + 1) = someS s k ++ stepsJ s k := by
  rw [someS, List.range_succ, List.flatMap_append]; simp [someS]
theorem some_next {k : Nat} (hk : k ≤ ts.length) : ∀ t ∈ someS s k, t ∈ nextS ts.length s := by
  intro t ht
  simp only [someS, List.mem_flatMap, List.mem_range] at ht
  obtain ⟨j, hj, h⟩ := ht
  exact steps_next (by omega) h
def fl1 (s : St) (k : Nat) : List St := if flE s k = 0 then [flushS s k] else []
def mv1 (s : St) (k : Nat) : List St := match s.l k with | [] => [] | m :: r => if (moveS (leftS s k r) k m).2 = true then [(moveS (leftS s k r) k m).1] else []
theorem steps_two (s : St) (k : Nat) : stepsJ s k = fl1 s k ++ mv1 s k := rfl
def doneTo (s : St) (k : Nat) : Bool := (List.range k).all (doneB s)
theorem doneTo_succ (s : St) (k : Nat) : doneTo s (k + 1) = (doneTo s k && doneB s k) := by
  rw [doneTo, List.range_succ, List.all_append]; simp [doneTo]
end

section
variable {W D : Int} {ts : List (List Mv)} {i : Nat} {all : List St} {out : List (List Int)} {s : St}
/-- the rows that have come of the list so far are few, and short -/
theorem out_few (hm : mayL W D ts = true) (B : Bfs W D ts i all out) : out.length ≤ 2 * 10 ^ 9 ∧ ∀ x ∈ out, x.length ≤ 1000 := by
  have hn : (((all.take i).filter fun s => endedB s ts.length).map outS).Nodup := by
    refine List.Pairwise.map outS (fun a b h => h) ?_
    refine List.Pairwise.imp_of_mem ?_ ((B.nd.sublist (List.take_sublist i all)).filter _)
    intro a b ha hb hab hout
    rw [List.mem_filter] at ha hb
    exact hab (out_inj hm (reach_ok hm (B.rch a (List.mem_of_mem_take ha.1))) (reach_ok hm (B.rch b (List.mem_of_mem_take hb.1))) ha.2 hb.2 hout)
  have hp := (putAll (((all.take i).filter fun s => endedB s ts.length).map outS) [] (by simpa using hn) (by simp)).2
  rw [← B.out, List.nil_append] at hp
  have hmem : ∀ o ∈ ((all.take i).filter fun s => endedB s ts.length).map outS, o ∈ rowsL W D ts := by
    intro o ho
    rw [List.mem_map] at ho
    obtain ⟨x, hx, rfl⟩ := ho
    rw [List.mem_filter] at hx
    exact ((rows_once hm).2 _).2 ⟨x, B.rch x (List.mem_of_mem_take hx.1), hx.2, rfl⟩
  have hfew : (rowsL W D ts).length ≤ 2 * 10 ^ 9 := (metOk_few hm (metOk_dfs (f := 46) hm (ok_begin hm) (by have := mu_le hm (ok_begin hm); omega) metOk_nil)).2.1
  refine ⟨?_, fun x hx => ?_⟩
  · rw [hp.length_eq]
    exact Nat.le_trans (len_sub _ _ hn hmem) hfew
  · have := rows_short hm x (hmem x (hp.mem_iff.1 hx))
    omega
theorem flatten_step {l : List (List Int)} {k : Nat} {x : List Int} (h : l[k]? = some x) : (l.take (k + 1)).flatten = (l.take k).flatten ++ x := by
  obtain ⟨hk, rfl⟩ := List.getElem?_eq_some_iff.1 h
  rw [List.take_succ_eq_append_getElem hk, List.flatten_append]; simp
theorem flatten_few : ∀ {l : List (List Int)}, (∀ y ∈ l, y.length ≤ 6) → l.flatten.length ≤ 6 * l.length
  | [], _ => by simp
  | x :: l, h => by
    rw [List.flatten_cons, List.length_append, List.length_cons]
    have h1 := h x (by simp)
    have h2 := flatten_few (l := l) (fun y hy => h y (List.mem_cons_of_mem _ hy))
    omega
theorem outS_flat (hm : mayL W D ts = true) (K : Ok W D ts s) : (ntS ts.length s).flatten ++ s.ws = outS s := by
  have h := (mayL_parts hm).2.1
  have r1 := fun h => (K.rest 1 h).2
  have r2 := fun h => (K.rest 2 h).2
  rcases (show ts.length = 1 ∨ ts.length = 2 ∨ ts.length = 3 by omega) with e | e | e
  · rw [e]; rw [e] at r1 r2; simp [ntS, outS, List.range_succ, r1 (by omega), r2 (by omega)]
  · rw [e]; rw [e] at r1 r2; simp [ntS, outS, List.range_succ, r2 (by omega)]
  · rw [e]; simp [ntS, outS, List.range_succ]
theorem bfs_nextS (hm : mayL W D ts = true) (B : Bfs W D ts i all out) (hs : all[i]? = some s) : Bfs W D ts (i + 1) ((someS s ts.length).foldl (addS ts) all) (if endedB s ts.length = true then putP out (outS s) else out) := bfs_step hm B hs
end
theorem rowsP_S {Q : Nat → Prop} {l : List (List Int)} {w : World} {q : Option Addr} (h : Vs (repSlice repInt) Q w q l.length l) : Vs (repSlice repInt) Any w q l.length l := vs_any h

set_option maxRecDepth 100000 in
/-- adding a stage that lies outside the row -/
theorem add_call {W D : Int} {ts : List (List Mv)} {all : List St} {s : St} {v : Value} {w W0 : World} {a a' q p r : Option Addr} {n c n' c' l d np pc nr rc : Nat} (hm : mayL W D ts = true) (A : AllR ts W0 all v w) (T : RSt ts (fun b => Any b ∧ v.ownBlock ≠ some b) w a a' q p r n n' l np nr s) (hr : ∀ x ∈ all, Reach W D ts x) (hs : Reach W D ts s) (hfew : all.length ≤ 13841287201) :
    Calls Tryz.prog 26 #[v, .agg #[.slice a n c, .slice a' n' c', .int .i64 s.D, .slice q l d, .slice p np pc, .slice r nr rc]] w (fun e w' => ∃ v', e = .returned v' ∧ AllR ts W0 (addS ts all s) v' w' ∧ MovedTo v v' w w') := by
  obtain ⟨cs, h1, h2, h3⟩ := A
  have h0 := refAdd_any ts W0.heap.size Any v all cs a a' q p r n c n' c' l d np pc nr rc s w h1 h2 T (fun x hx => alike_ok hm (reach_ok hm (hr x hx)) (reach_ok hm hs)) (by omega) (mayL_parts hm).2.1.2 h3.size
  refine h0.mono ?_
  rintro e w' ⟨v', cs', rfl, k1, k2, k3, k4, k5⟩
  exact ⟨v', rfl, ⟨cs', k1, k2, h3.trans (k5.mono (Nat.le_refl _))⟩, k3, k4, k5.size⟩
end Go.Proofs.YtiebaeaomgpicaaGreat
