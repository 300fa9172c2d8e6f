/- Contracts of package respiteref04: put. -/
import Derived.Test.YtiebaeaomgpicaaGreatRcA
import Derived.Test.YtiebaeaomgpicaaGreatM4
import Derived.Maps.AppendAt
namespace Go.Proofs.YtiebaeaomgpicaaGreat
open Go.ChangeShapes Go.WideShapes Go.ChangeAt Go.RowKit
open Gen
/-- a row more, ahead of the first that it is less than -/
def stepP (o : List Int) (acc : Bool × List (List Int)) (x : List Int) : Bool × List (List Int) := if acc.1 = false ∧ lessB o x = true then (true, acc.2 ++ o :: x :: []) else (acc.1, acc.2 ++ x :: [])
def putR (o : List Int) (l : List (List Int)) : Bool × List (List Int) := l.foldl (stepP o) (false, [])
def putP (l : List (List Int)) (o : List Int) : List (List Int) := if o ∈ l then l else if (putR o l).1 = true then (putR o l).2 else (putR o l).2 ++ o :: []
theorem putR_snoc {o : List Int} {l : List (List Int)} {k : Nat} {x : List Int} (h : l[k]? = some x) : putR o (l.take (k + 1)) = stepP o (putR o (l.take k)) x := by
  obtain ⟨hk, rfl⟩ := List.getElem?_eq_some_iff.1 h
  rw [List.take_succ_eq_append_getElem hk, putR, List.foldl_append]; rfl
theorem vs_slR {Q : Nat → Prop} {w : World} {a : Option Addr} {n : Nat} {zs : List Int} (h : Vs repInt Q w a n zs) : Sl w a n zs := by
  obtain ⟨h1, h2⟩ := h
  refine ⟨h1, h2.imp id ?_⟩
  rintro ⟨b, o, e, _, f⟩
  refine ⟨b, o, e, fun i hi => ?_⟩
  have h5 := f i _ (List.getElem?_eq_getElem hi)
  rw [show repInt.k = 1 from rfl, Nat.mul_one] at h5
  rw [at_int h5]; simp [hi]
theorem own_shapeR {k : Nat} {w : World} {B : Nat} {e : TypeId} {v : Value} {n : Nat} {xs : List Value} (h : w.ownsRow B e k v n xs) : ∃ a c, v = .slice a n c := by
  rcases h.2 with ⟨rfl, rfl⟩ | ⟨g, cap, cur, rfl, _⟩
  · exact ⟨_, _, rfl⟩
  · exact ⟨_, _, rfl⟩
theorem rows_atR {Q : Nat → Prop} {w : World} {q : Option Addr} {l : Nat} {zs : List (List Int)} (S : Vs (repSlice repInt) Q w q l zs) {k : Nat} (hk : k < l) :
    ∃ b o z p c, q = some ⟨b, o, none⟩ ∧ zs[k]? = some z ∧ w.cell? ⟨b, o + k, none⟩ = some (.slice p z.length c) ∧ (repSlice repInt).R Q w [.slice p z.length c] z ∧ Vs repInt Q w p z.length z := by
  obtain ⟨b, o, t, e, ht, _, h⟩ := vs_at S hk
  obtain ⟨cs, hr, hc⟩ := h
  obtain ⟨p, c, rfl, h2, h3, h4, h5⟩ := id hr
  have h1 := hc 0 _ rfl
  rw [show (repSlice repInt).k = 1 from rfl, Nat.mul_one, Nat.add_zero] at h1
  exact ⟨b, o, t, p, c, e, ht, h1, hr, h5⟩
theorem infoR : (Tryz.prog.info? 23).map (fun i => (i.zero, i.size, i.bytes)) = some (some (.slice none 0 0), 1, 24) := by kernel_rfl
/-- rows, and where they lie -/
def RowsPost (l : List (List Int)) (w : World) (e : Ending) (w' : World) : Prop :=
  ∃ q c, e = .returned (.slice q l.length c) ∧ l.length ≤ c ∧ c ≤ 9223372036854775807 ∧ (q = none → c = 0) ∧ Vs (repSlice repInt) Any w' q l.length l ∧ Below w.heap.size w w'
theorem rowsPost_own {l m : List (List Int)} {w w' : World} {v : Value} {vs : List Value} (h : m = l) (ho : w'.ownsRow w.heap.size 23 1 v m.length vs) (hf : Flat (repSlice repInt) (fun b => b < w.heap.size) w vs m) (hb : Below w.heap.size w w') : RowsPost l w (.returned v) w' := by
  subst h
  obtain ⟨a, c, rfl, h1, h2, h3, V⟩ := vs_own (r := repSlice repInt) (Q := Any) ho (flat_mono (fun _ _ => trivial) (flat_keep (kept_low hb (fun _ h => h)) hf)) (fun _ _ _ => trivial)
  exact ⟨a, c, rfl, h1, h2, h3, V, hb⟩
def NotIn (l : List (List Int)) (o : List Int) (k : Nat) : Prop := ∀ i x, i < k → l[i]? = some x → x ≠ o
theorem notIn_succ {l : List (List Int)} {o : List Int} {k : Nat} {x : List Int} (h : NotIn l o k) (hx : l[k]? = some x) (hs : x ≠ o) : NotIn l o (k + 1) := by
  intro i y hi hy
  by_cases e : i = k
  · subst e; rw [hx] at hy; cases hy; exact hs
  · exact h i y (by omega) hy
theorem notIn_all {l : List (List Int)} {o : List Int} {n : Nat} (hn : l.length = n) (h : NotIn l o n) : ¬ o ∈ l := by
  intro hm
  obtain ⟨i, hi, rfl⟩ := List.mem_iff_getElem.1 hm
  exact h i _ (by omega) (List.getElem?_eq_getElem hi) rfl

set_option maxRecDepth 100000 in
set_option maxHeartbeats 8000000 in
theorem refPut_any (q : Option Addr) (n c : Nat) (l : List (List Int)) (p : Option Addr) (m d : Nat) (o : List Int) (w : World) (V : Vs (repSlice repInt) Any w q n l) (hnc : n ≤ c) (hc : c ≤ 9223372036854775807) (hq : q = none → c = 0) (S : Vs repInt Any w p m o) (hmd : m ≤ d) (hd : d ≤ 9223372036854775807) (hp : p = none → d = 0) (hn : n ≤ 10000000000) (hm : m ≤ 1000) (hlen : ∀ x ∈ l, x.length ≤ 1000) :
    Calls Tryz.prog 28 #[.slice q n c, .slice p m d] w (RowsPost (putP l o) w) := by
  obtain rfl : l.length = n := V.1
  obtain ⟨n, hnn⟩ : ∃ n, l.length = n := ⟨_, rfl⟩
  obtain rfl : o.length = m := S.1
  obtain ⟨m, hmm⟩ : ∃ m, o.length = m := ⟨_, rfl⟩
  rw [hnn] at V hnc hn ⊢
  rw [hmm] at S hmd hm ⊢
  have HN := Lib.hid hnn
  have HM := Lib.hid hmm
  have HV := Lib.hid (vs_old V)
  have HS := Lib.hid (vs_old S)
  have HLN := Lib.hid hlen
  have HEO := Lib.hid (show (repSlice repInt).R (fun b => b < w.heap.size) w [.slice p m d] o from ⟨p, d, by rw [hmm], by rw [hmm]; exact hmd, hd, hp, by rw [hmm]; exact vs_old S⟩)
  have HSELF := Lib.hid (And.intro hnc (And.intro hc hq))
  obtain ⟨i0, hi, hz0, hz1, hz2⟩ := info_parts infoR
  have HI := Lib.hid (And.intro hi (And.intro hz0 (And.intro hz1 hz2)))
  clear hnn hmm V S hlen hi hz0 hz1 hz2 hnc hc hq hmd hd hp
  go_enter Tryz.func28, Tryz.ntmps28
  go_wp2_with fail
  go_loopw [5, 6, 12] (fun v dn i wr => ∃ (k K : Nat) (dd : Bool) (vs : List Value) (L : List (List Int)), k ≤ n ∧ K ≤ 2 * k ∧ i = .int .i64 k ∧ dn = .bool dd ∧ Hid (putR o (l.take k) = (dd, L) ∧ L.length = K) ∧ Hid (NotIn l o k) ∧ Hid (Flat (repSlice repInt) (fun b => b < w.heap.size) w vs L) ∧ Hid (wr.ownsRow w.heap.size 23 1 v K vs) ∧ Below w.heap.size w wr) (fun _ _ i _ => n - (intOf i).toNat)
  case atStart => exact ⟨0, 0, false, [], [], Nat.zero_le _, Nat.le_refl _, rfl, rfl, (by show _ ∧ _; rw [List.take_zero]; exact ⟨rfl, rfl⟩), (fun i x hi => by omega), (rfl : Flat (repSlice repInt) _ _ [] []), (World.ownsRow_lit w #[] 0 (Nat.le_refl _) (by decide) rfl : World.ownsRow _ _ _ _ _ _ _), (Below.refl _ _).alloc (Nat.le_refl _) _⟩
  case round =>
    obtain ⟨k, K, dd, vs, L, hk, hK, rfl, rfl, hpr, hni, hf, ho, hb⟩ := hrel
    obtain ⟨va, vc, rfl⟩ := own_shapeR ho.out
    by_cases hlt : k < n
    · obtain ⟨b, ob, x, px, pc, rfl, hx, g0, hR, V2⟩ := rows_atR HV.out hlt
      obtain ⟨xl, hxl⟩ : ∃ xl, x.length = xl := ⟨_, rfl⟩
      have hx1 : xl ≤ 1000 := by rw [← hxl]; exact HLN.out x (List.mem_of_getElem? hx)
      rw [hxl] at g0 hR V2
      replace g0 := cellB hb g0
      have HX := Lib.hid hx
      have HR := Lib.hid hR
      have HV2 := Lib.hid V2
      have HPS := Lib.hid (putR_snoc (o := o) hx)
      have i1 : (0 : Int) ≤ k := by omega
      have i2 : (k : Int) < n := by omega
      have HB := Lib.hid hb
      clear hx hxl hR V2 hb
      go_wp2_with fail
      have h0 := Ints_any px p xl pc m d x o wr (vs_slR (vs_keep (kept_low HB.out (fun _ h => h)) HV2.out)) (vs_slR (vs_keep (kept_low HB.out (fun _ h => h)) HS.out)) (by omega)
      with_reducible refine h0.mono ?_
      clear h0
      rintro e w2 ⟨rfl, hb2⟩
      have HB2 := Lib.hid (below_from HB.out hb2)
      have HO2 := Lib.hid (own_below ho.out hb2)
      have hs2 := HB2.out.size
      clear hb2 g0
      by_cases e1 : x = o
      · rw [show sameB x o = true from decide_eq_true e1]
        have HIN := Lib.hid (show putP l o = l from if_pos (by rw [← e1]; exact List.mem_of_getElem? HX.out))
        clear e1
        go_wp2_with fail
        go_ret
        rw [HIN.out]
        refine ⟨some ⟨b, ob, none⟩, c, by rw [HN.out]; rfl, by rw [HN.out]; exact HSELF.out.1, HSELF.out.2.1, HSELF.out.2.2, ?_, HB2.out⟩
        rw [HN.out]
        exact vs_any (vs_keep (kept_low HB2.out (fun _ h => h)) HV.out)
      · rw [show sameB x o = false from decide_eq_false e1]
        have HNI := Lib.hid (notIn_succ hni.out HX.out e1)
        clear e1
        cases dd with
        | true =>
          have HPR := Lib.hid (show putR o (l.take (k + 1)) = (true, L ++ x :: []) ∧ (L ++ x :: []).length = K + 1 by rw [HPS.out, hpr.out.1, stepP]; exact ⟨by simp, by simp [hpr.out.2]⟩)
          go_wp2_with (at_builtin; refine wpList_append_own _ rfl (.tmp 31) (.tmp 33) 27 rfl w.heap.size 23 i0 (.slice none 0 0) 1 24 Tryz.underlying27 HI.out.1 HI.out.2.1 HI.out.2.2.1 HI.out.2.2.2 rfl (by decide) (.slice va K vc) (K) vs rfl (HO2.out.alloc _) ⟨w2.heap.size, 0, none⟩ 1 1 [.slice px xl pc] rfl rfl (cell_one_new _ _ _) (by simp [Value.oneCell']) (by unfold maxLen; omega) (by omega) (by simp; omega) ?_)
          intro v' w4 hown hgrow _
          have HB4 := Lib.hid (show Below w.heap.size w w4 from (HB2.out.alloc hs2 _).grown hgrow (by simp; omega) (fun g hr => (HO2.out.lt g hr).1))
          have HO4 := Lib.hid hown
          clear hown hgrow
          go_wp2_with fail
          go_roundw
          case rel => exact ⟨k + 1, K + 1, true, _, _, by omega, by omega, by go_num, rfl, HPR.out, HNI.out, (flat_snoc HR.out hf.out : Flat _ _ _ _ _), HO4.out, HB4.out⟩
          case measure => simp [intOf]; omega
        | false =>
          go_wp2_with fail
          have h1 := refLess_any p px m d xl pc o x w2 (vs_keep (kept_low HB2.out (fun _ h => h)) HS.out) (vs_keep (kept_low HB2.out (fun _ h => h)) HV2.out) (by omega) (by omega)
          with_reducible refine h1.mono ?_
          clear h1
          rintro e w3 ⟨rfl, hb3⟩
          have HB3 := Lib.hid (below_from HB2.out hb3)
          have HO3 := Lib.hid (own_below HO2.out hb3)
          have hs3 := HB3.out.size
          clear hb3
          cases hL : lessB o x with
          | true =>
            have HPR := Lib.hid (show putR o (l.take (k + 1)) = (true, L ++ o :: [] ++ x :: []) ∧ (L ++ o :: [] ++ x :: []).length = K + 1 + 1 by rw [HPS.out, hpr.out.1, stepP, hL]; exact ⟨by simp, by simp [hpr.out.2]⟩)
            clear hL
            go_wp2_with (at_builtin; refine wpList_append_own _ rfl (.tmp 27) (.tmp 29) 27 rfl w.heap.size 23 i0 (.slice none 0 0) 1 24 Tryz.underlying27 HI.out.1 HI.out.2.1 HI.out.2.2.1 HI.out.2.2.2 rfl (by decide) (.slice va K vc) (K) vs rfl (HO3.out.alloc _) ⟨w3.heap.size, 0, none⟩ 1 1 [.slice p m d] rfl rfl (cell_one_new _ _ _) (by simp [Value.oneCell']) (by unfold maxLen; omega) (by omega) (by simp; omega) ?_)
            intro v' w4 hown hgrow _
            have HB4 := Lib.hid (show Below w.heap.size w w4 from (HB3.out.alloc hs3 _).grown hgrow (by simp; omega) (fun g hr => (HO3.out.lt g hr).1))
            have HO4 := Lib.hid hown
            have hs4 := HB4.out.size
            obtain ⟨va4, vc4, rfl⟩ := own_shapeR hown
            clear hown hgrow
            go_wp2_with (at_builtin; refine wpList_append_own _ rfl (.tmp 31) (.tmp 33) 27 rfl w.heap.size 23 i0 (.slice none 0 0) 1 24 Tryz.underlying27 HI.out.1 HI.out.2.1 HI.out.2.2.1 HI.out.2.2.2 rfl (by decide) (.slice va4 (K + 1) vc4) (K + 1) _ rfl (HO4.out.alloc _) ⟨w4.heap.size, 0, none⟩ 1 1 [.slice px xl pc] rfl rfl (cell_one_new _ _ _) (by simp [Value.oneCell']) (by unfold maxLen; omega) (by omega) (by simp; omega) ?_)
            intro v' w5 hown hgrow _
            have HB5 := Lib.hid (show Below w.heap.size w w5 from (HB4.out.alloc hs4 _).grown hgrow (by simp; omega) (fun g hr => (HO4.out.lt g hr).1))
            have HO5 := Lib.hid (show w5.ownsRow w.heap.size 23 1 v' (K + 1 + 1) (vs ++ .slice p m d :: [] ++ .slice px xl pc :: []) by rw [List.append_assoc]; exact hown)
            clear hown hgrow
            go_wp2_with fail
            go_roundw
            case rel => exact ⟨k + 1, K + 1 + 1, true, _, _, by omega, by omega, by go_num, rfl, HPR.out, HNI.out, (flat_snoc HR.out (flat_snoc HEO.out hf.out) : Flat _ _ _ _ _), HO5.out, HB5.out⟩
            case measure => simp [intOf]; omega
          | false =>
            have HPR := Lib.hid (show putR o (l.take (k + 1)) = (false, L ++ x :: []) ∧ (L ++ x :: []).length = K + 1 by rw [HPS.out, hpr.out.1, stepP, hL]; exact ⟨by simp, by simp [hpr.out.2]⟩)
            clear hL
            go_wp2_with (at_builtin; refine wpList_append_own _ rfl (.tmp 31) (.tmp 33) 27 rfl w.heap.size 23 i0 (.slice none 0 0) 1 24 Tryz.underlying27 HI.out.1 HI.out.2.1 HI.out.2.2.1 HI.out.2.2.2 rfl (by decide) (.slice va K vc) (K) vs rfl (HO3.out.alloc _) ⟨w3.heap.size, 0, none⟩ 1 1 [.slice px xl pc] rfl rfl (cell_one_new _ _ _) (by simp [Value.oneCell']) (by unfold maxLen; omega) (by omega) (by simp; omega) ?_)
            intro v' w4 hown hgrow _
            have HB4 := Lib.hid (show Below w.heap.size w w4 from (HB3.out.alloc hs3 _).grown hgrow (by simp; omega) (fun g hr => (HO3.out.lt g hr).1))
            have HO4 := Lib.hid hown
            clear hown hgrow
            go_wp2_with fail
            go_roundw
            case rel => exact ⟨k + 1, K + 1, false, _, _, by omega, by omega, by go_num, rfl, HPR.out, HNI.out, (flat_snoc HR.out hf.out : Flat _ _ _ _ _), HO4.out, HB4.out⟩
            case measure => simp [intOf]; omega
    · obtain rfl : k = n := by omega
      have hno := notIn_all HN.out hni.out
      have hpr' := hpr.out
      rw [List.take_of_length_le (by rw [HN.out]; exact Nat.le_refl _)] at hpr'
      have HB := Lib.hid hb
      have hs := hb.size
      clear hb
      cases dd with
      | true =>
        have HPP := Lib.hid (show L = putP l o by rw [putP, if_neg hno, hpr'.1]; rfl)
        have HOW := Lib.hid (show wr.ownsRow w.heap.size 23 1 (.slice va K vc) L.length vs by rw [hpr'.2]; exact ho.out)
        clear hno hpr'
        go_wp2_with fail
        go_ret
        exact rowsPost_own HPP.out HOW.out hf.out HB.out
      | false =>
        have HPP := Lib.hid (show L ++ o :: [] = putP l o by rw [putP, if_neg hno, hpr'.1]; rfl)
        have HLL := Lib.hid (show (L ++ o :: []).length = K + 1 by simp [hpr'.2])
        clear hno hpr'
        go_wp2_with (at_builtin; refine wpList_append_own _ rfl (.tmp 38) (.tmp 40) 27 rfl w.heap.size 23 i0 (.slice none 0 0) 1 24 Tryz.underlying27 HI.out.1 HI.out.2.1 HI.out.2.2.1 HI.out.2.2.2 rfl (by decide) (.slice va K vc) (K) vs rfl (ho.out.alloc _) ⟨wr.heap.size, 0, none⟩ 1 1 [.slice p m d] rfl rfl (cell_one_new _ _ _) (by simp [Value.oneCell']) (by unfold maxLen; omega) (by omega) (by simp; omega) ?_)
        intro v' w4 hown hgrow _
        have HB4 := Lib.hid (show Below w.heap.size w w4 from (HB.out.alloc hs _).grown hgrow (by simp; omega) (fun g hr => (ho.out.lt g hr).1))
        have HO4 := Lib.hid hown
        clear hown hgrow
        go_wp2_with fail
        go_ret
        exact rowsPost_own HPP.out (by rw [HLL.out]; exact HO4.out) (flat_snoc HEO.out hf.out) HB4.out
end Go.Proofs.YtiebaeaomgpicaaGreat
