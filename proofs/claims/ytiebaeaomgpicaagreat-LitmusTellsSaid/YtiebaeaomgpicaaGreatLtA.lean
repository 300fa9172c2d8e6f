/- Package litmus: Can, by slices.BinarySearchFunc of the library, laid here. -/
import Derived.Test.YtiebaeaomgpicaaGreatLitS
import Derived.Shelf.SlCmpFuncs.BinarySearchFunc
import Derived.Shelf.SlCmpFuncs.None
namespace Go.Proofs.YtiebaeaomgpicaaGreat
open Go.Shelf Go.RowKit Go.Lib Go.Sort Go.ChangeShapes Go.WideShapes Go.ChangeAt
open Gen
theorem pair_lt {rows : List (List Int)} (hs : rows.Pairwise fun x y => (!(ltOf cmpL) y x) = true) {a b : Nat} (hab : a < b) (hb : b < rows.length) : rows[a] = rows[b] ∨ cmpL rows[a] rows[b] < 0 := by
  have h := (List.pairwise_iff_getElem.1 hs) a b (by omega) hb hab
  unfold ltOf at h
  simp only [Bool.not_eq_true', decide_eq_false_iff_not] at h
  by_cases e : cmpL rows[a] rows[b] = 0
  · exact .inl (cmpL_eq _ _ e)
  · right
    rw [cmpL_flip rows[a] rows[b]] at h
    omega
/-- where the row that is looked for stands -/
theorem find_at {rows : List (List Int)} (hs : rows.Pairwise fun x y => (!(ltOf cmpL) y x) = true) (hnd : rows.Nodup) (o : List Int) (c : Nat) (hc : c = rows.countP (fun x => decide (cmpL x o < 0))) :
    (decide (c < rows.length) && decide (cmpL (rows.getD c []) o = 0)) = decide (o ∈ rows) := by
  by_cases ho : o ∈ rows
  · obtain ⟨i, hi, rfl⟩ := List.getElem_of_mem ho
    have h1 : rows.countP (fun x => decide (cmpL x rows[i] < 0)) = i := by
      refine countP_boundary _ rows i (by omega) (fun t ht => ?_) (fun t h1 h2 => ?_)
      · rw [getElem!_pos rows t (by omega), decide_eq_true_eq]
        rcases pair_lt hs ht hi with e | e
        · exact absurd e ((List.pairwise_iff_getElem.1 hnd) t i (by omega) hi ht)
        · exact e
      · rw [getElem!_pos rows t h2, decide_eq_false_iff_not]
        by_cases e : i = t
        · subst e; rw [cmpL_self]; omega
        · rcases pair_lt hs (show i < t by omega) h2 with e | e
          · rw [← e, cmpL_self]; omega
          · rw [cmpL_flip rows[i] rows[t]]; omega
    rw [h1] at hc
    subst hc
    have e : rows.getD c [] = rows[c] := by simp [hi]
    rw [e, cmpL_self]
    simp [hi]
  · rw [decide_eq_false ho]
    by_cases hl : c < rows.length
    · have e : rows.getD c [] = rows[c] := by simp [hl]
      have h0 : cmpL (rows.getD c []) o ≠ 0 := fun h => ho (by rw [e] at h; rw [← cmpL_eq _ _ h]; exact List.getElem_mem hl)
      rw [decide_eq_false h0, Bool.and_false]
    · simp [hl]
theorem find_mono {rows : List (List Int)} (hs : rows.Pairwise fun x y => (!(ltOf cmpL) y x) = true) (o : List Int) {a b : Nat} (hab : a ≤ b) (hb : b < rows.length) (h : cmpL rows[b] o < 0) : cmpL rows[a] o < 0 := by
  by_cases e : a = b
  · subst e; exact h
  · rcases pair_lt hs (show a < b by omega) hb with e | e
    · rw [e]; exact h
    · exact cmpL_trans _ _ _ e h

set_option maxHeartbeats 4000000 in
theorem search_says (v : Value) (rows : List (List Int)) (vs : List Value) (o : List Int) (p : Option Addr) (n c : Nat) (w : World) (B : Nat) (Q : Nat → Prop) (own : w.ownsRow B 23 1 v rows.length vs) (flat : Flat (repSlice repInt) Q w vs rows)
    (hq : ∀ b, v.ownBlock = some b → ¬ Q b) (S : Vs repInt Q w p n o) (hlen : ∀ x ∈ rows, x.length ≤ 9) (ho : n ≤ 1000) (hfew : rows.length ≤ 2 * 10 ^ 9) (hnd : rows.Nodup) (hs : rows.Pairwise fun x y => (!(ltOf cmpL) y x) = true) :
    Calls Tryz.prog 22 #[v, .slice p n c, .func (.func 21) #[] #[]] w fun e w' => (∃ i : Int, e = .returned (.tuple #[.int .i64 i, .bool (decide (o ∈ rows))])) ∧ Below B w w' := by
  have hvl : vs.length = rows.length := by have := flat_len flat; simpa [repSlice] using this
  by_cases h0 : rows.length = 0
  · obtain ⟨a, c', rfl⟩ := own_shapeT own
    obtain rfl := List.length_eq_zero_iff.1 h0
    have hS := Any.slices_BinarySearchFunc_none (P := Tryz.prog) (ρ := Tryz.searchL_ren) Tryz.searchL a c' (.slice p n c) (.func (.func 21) #[] #[]) w
    change Calls Tryz.prog 22 _ _ _ at hS
    refine hS.mono ?_
    rintro e w' ⟨rfl, rfl⟩
    exact ⟨⟨0, by simp⟩, Below.refl _ _⟩
  · obtain ⟨hxl, ⟨rfl, h⟩ | ⟨g, cap, cur, rfl, hB, hg, hc, hcm, hsz, ht⟩⟩ := own
    · exact absurd h h0
    have hat : ∀ i (h : i < rows.length) (h' : i < vs.length), (repSlice repInt).R Q w [vs[i]] rows[i] := by
      intro i h h'
      obtain ⟨c, hr, hj⟩ := flat_at flat i rows[i] (by simp [h])
      have hl := (repSlice repInt).len hr
      obtain ⟨x, rfl⟩ : ∃ x, c = [x] := List.length_eq_one_iff.1 hl
      have := hj 0 x rfl
      have e : vs[i]? = some x := by simpa [repSlice] using this
      rw [List.getElem?_eq_getElem h'] at e
      rw [Option.some.inj e]; exact hr
    have hpos : 0 < rows.length := by omega
    letI : Inhabited {x // x ∈ rows} := ⟨⟨rows[0], List.getElem_mem hpos⟩⟩
    have hidx : ∀ x : {x // x ∈ rows}, rows.idxOf x.1 < rows.length := fun x => List.idxOf_lt_length_of_mem x.2
    obtain ⟨enc, henc, hmap⟩ : ∃ enc : {x // x ∈ rows} → Value, (∀ x, (repSlice repInt).R Q w [enc x] x.1) ∧ rows.attach.map enc = vs := by
      refine ⟨fun x => vs[rows.idxOf x.1]'(by rw [hvl]; exact hidx x), fun x => ?_, ?_⟩
      · have := hat (rows.idxOf x.1) (hidx x) (by rw [hvl]; exact hidx x)
        rwa [List.getElem_idxOf] at this
      · apply List.ext_getElem (by simp [hvl])
        intro i h1 h2
        have hi : i < rows.length := by simpa using h1
        simp only [List.getElem_map, List.getElem_attach]
        congr 1
        exact List.Nodup.idxOf_getElem hnd i hi
    let cf : {x // x ∈ rows} → Int := fun x => cmpL x.1 o
    have h1 : OneCell enc := by
      intro x
      obtain ⟨q, c, he, _⟩ := henc x
      rw [List.cons.inj he |>.1]; rfl
    have hds : rows.attach.toArray.size = rows.length := by simp
    have hgl : g < w.heap.size := (Array.getElem?_eq_some_iff.1 hg).1
    have hH : Holds enc w g 0 rows.attach.toArray := holds_own rows.attach hg (by rw [hmap]; simpa using ht)
    have eg : ∀ args w, (callFunc 21 args).run Tryz.prog w = .ok (.enter 21 args) w := enters_of Tryz.func21 (by kernel_rfl) rfl
    have hk : ∀ m dk os, Kept Q w (sortWorld enc w g 0 m dk os) := by
      intro m dk os b o v hb hc
      rw [World.cell?_of_block ((grown_sortW w g m os dk).block b (lt_of_cell hc) (fun e => hq g rfl (by rw [← Option.some.inj e]; exact hb)))]
      exact hc
    have hcmp : CmpLaysT Tryz.prog 21 #[] enc (.slice p n c) cf g 0 rows.attach.toArray.size w := by
      intro m os dk _ x
      obtain ⟨p', c', ex, _, _, _, Vx⟩ := henc x
      have hkW := hk m dk os
      obtain ⟨W, hW⟩ : ∃ W, W = sortWorld enc w g 0 m dk os := ⟨_, rfl⟩
      rw [← hW] at hkW ⊢
      rw [(List.cons.inj ex).1, Array.append_empty]
      have hc := compare_any p' p x.1.length c' n c x.1 o W (vs_keep hkW Vx) (vs_keep hkW S) (by have := hlen _ x.2; omega) (by omega)
      obtain ⟨z, hz⟩ : ∃ z, z = cmpL x.1 o := ⟨_, rfl⟩
      rw [← hz] at hc
      rw [show cf x = z from hz.symm]
      refine hc.mono ?_
      rintro e w' ⟨rfl, rfl⟩
      exact ⟨rfl, 0, #[], by rw [grow_empty]; rfl⟩
    have hget : ∀ b (hb : b < rows.length), rows.attach.toArray[b]! = ⟨rows[b], List.getElem_mem hb⟩ := fun b hb => by
      rw [getElem!_pos rows.attach.toArray b (by rw [hds]; exact hb)]; simp
    have hS := Any.slices_BinarySearchFunc Tryz.searchL enc h1 (.slice p n c) cf 21 #[] g 0 cap rows.attach.toArray w eg hcmp hH hgl (by rw [hds]; omega) (by
      intro a b hab hb
      rw [hds] at hb
      rw [hget b hb, hget a (by omega)]
      exact find_mono hs o hab hb)
    have hcnt : rows.attach.countP (fun x => decide (cf x < 0)) = rows.countP (fun x => decide (cmpL x o < 0)) := by
      conv => rhs; rw [← List.attach_map_subtype_val rows]
      rw [List.countP_map]; rfl
    rw [hds, show rows.attach.toArray.toList = rows.attach from rfl, hcnt] at hS
    change Calls Tryz.prog 22 _ _ _ at hS
    have hres := find_at hs hnd o _ rfl
    obtain ⟨k, hkk⟩ : ∃ k, k = rows.countP (fun x => decide (cmpL x o < 0)) := ⟨_, rfl⟩
    rw [← hkk] at hS hres
    have hb : (decide (k < rows.length) && decide (cf rows.attach.toArray[k]! = 0)) = decide (o ∈ rows) := by
      by_cases hkl : k < rows.length
      · rw [← hres, hget k hkl]
        have e : rows.getD k [] = rows[k] := by simp [hkl]
        rw [e]
      · rw [← hres, decide_eq_false hkl]; simp
    rw [hb] at hS
    refine hS.mono ?_
    rintro e w' ⟨rfl, m, os, rfl⟩
    exact ⟨⟨k, rfl⟩, (Below.refl B w).grown (grown_sortW w g m os _) (by omega) (fun _ hr => by cases hr; exact hB)⟩

set_option maxRecDepth 100000 in
set_option maxHeartbeats 8000000 in
/-- litmus.Can of a test that is not right -/
theorem can_no (W D : Int) (q : Option Addr) (l d : Nat) (ts : List (List Mv)) (p : Option Addr) (n c : Nat) (w : World) (V : Vs (repSlice repInt3) Any w q l ts) (hlen : ∀ t ∈ ts, t.length ≤ 100) (hl : l ≤ 1000) (hm : mayL W D ts = false) :
    Calls Tryz.prog 6 #[.agg #[.int .i64 W, .int .i64 D, .slice q l d], .slice p n c] w fun e w' => e = .returned (.tuple #[.bool false, .int .i64 1]) ∧ Below w.heap.size w w' := by
  obtain ⟨G, hG⟩ : ∃ G, G = w.alloc (Obj.cells #[.int .i64 W, .int .i64 D, .slice q l d] 25) := ⟨_, rfl⟩
  have hbG : Below w.heap.size w G := by rw [hG]; go_grown
  have X : VarN G w.heap.size [.int .i64 W, .int .i64 D, .slice q l d] := by rw [hG]; exact varN_new [.int .i64 W, .int .i64 D, .slice q l d] _ rfl
  have h0 := outcomes_no W D q l d ts G (vs_B hbG V) hlen hl hm
  have H0 := Lib.hid h0
  have HG := Lib.hid hG
  have HB := Lib.hid hbG
  have x0 := (X 0 _ rfl).1
  have x1 := (X 1 _ rfl).1
  have x2 := (X 2 _ rfl).1
  clear hG hbG X h0 V
  go_enter Tryz.func6, Tryz.ntmps6
  go_upto_region 1 with fail
  rw [← HG.out]
  go_wp2_with fail
  refine H0.out.mono ?_
  rintro e w1 ⟨rfl, hb1⟩
  have HB1 := Lib.hid (below_from HB.out hb1)
  clear hb1 x0 x1 x2
  go_wp2
  go_ret2
  exact ⟨rfl, HB1.out⟩
set_option maxRecDepth 100000 in
set_option maxHeartbeats 8000000 in
/-- litmus.Can: whether the row is one of the test's -/
theorem can_any (W D : Int) (q : Option Addr) (d : Nat) (ts : List (List Mv)) (o : List Int) (p : Option Addr) (n c : Nat) (w : World) (V : Vs (repSlice repInt3) Any w q ts.length ts) (hlen : ∀ t ∈ ts, t.length ≤ 100) (hm : mayL W D ts = true) (S : Vs repInt Any w p n o) (ho : n ≤ 1000) :
    Calls Tryz.prog 6 #[.agg #[.int .i64 W, .int .i64 D, .slice q ts.length d], .slice p n c] w fun e w' => e = .returned (.tuple #[.bool (decide (o ∈ rowsL W D ts)), .int .i64 0]) ∧ Below w.heap.size w w' := by
  obtain ⟨G, hG⟩ : ∃ G, G = w.alloc (Obj.cells #[.int .i64 W, .int .i64 D, .slice q ts.length d] 25) := ⟨_, rfl⟩
  have hbG : Below w.heap.size w G := by rw [hG]; go_grown
  have X : VarN G w.heap.size [.int .i64 W, .int .i64 D, .slice q ts.length d] := by rw [hG]; exact varN_new [.int .i64 W, .int .i64 D, .slice q ts.length d] _ rfl
  have HV := Lib.hid (vs_old (vs_B hbG S))
  have HM := Lib.hid hm
  obtain ⟨R, hR⟩ : ∃ R, R = rowsL W D ts := ⟨_, rfl⟩
  have HR := Lib.hid hR
  have h0 := outcomes_row W D q d ts G (vs_B hbG V) hlen hm
  rw [← hR] at h0 ⊢
  have H0 := Lib.hid h0
  have HG := Lib.hid hG
  have HB := Lib.hid hbG
  have x0 := (X 0 _ rfl).1
  have x1 := (X 1 _ rfl).1
  have x2 := (X 2 _ rfl).1
  clear hR hG hbG X h0 S V
  go_enter Tryz.func6, Tryz.ntmps6
  go_upto_region 1 with fail
  rw [← HG.out]
  go_wp2_with fail
  refine H0.out.mono ?_
  rintro e w1 ⟨v, vs, rfl, own, flat, hb1⟩
  obtain ⟨a1, c1, rfl⟩ := own_shapeT own
  have hnd : R.Nodup := by rw [HR.out]; exact (rows_once HM.out).1
  have hfew : R.length ≤ 2 * 10 ^ 9 := by
    have := (metOk_few HM.out (metOk_dfs (f := 46) HM.out (ok_begin HM.out) (by have := mu_le HM.out (ok_begin HM.out); omega) metOk_nil)).2.1
    rw [HR.out]; exact this
  have hsl : (srtL R).length = R.length := List.length_mergeSort ..
  have hs := search_says _ (srtL R) vs o p n c w1 G.heap.size (fun b => (Value.slice a1 R.length c1).ownBlock ≠ some b) (by rw [hsl]; exact own) (flat_mono (fun _ h => h.2) flat) (fun b h1 h2 => h2 h1)
    (vs_mono (fun b hb e => by have := (own.lt b e).1; omega) (vs_keep (fun b o v hq hc => (hb1.cell (p := ⟨b, o, none⟩) hq).trans hc) HV.out))
    (fun x hx => by rw [srt_mem, HR.out] at hx; exact rows_short HM.out x hx) ho (by rw [hsl]; exact hfew) (srt_nodup hnd) (srt_sorted R)
  rw [show decide (o ∈ srtL R) = decide (o ∈ R) by rw [decide_eq_decide]; exact srt_mem R o] at hs
  have HS := Lib.hid hs
  have HB1 := Lib.hid (below_from HB.out hb1)
  have HGS := Lib.hid HB.out.size
  clear own flat hb1 hs hfew hnd x0 x1 x2
  go_wp2_with fail
  refine HS.out.mono ?_
  rintro e w2 ⟨⟨i, rfl⟩, hb2⟩
  have HB2 := Lib.hid (HB1.out.trans (hb2.mono HGS.out))
  clear hb2
  go_wp2
  go_ret2
  exact ⟨rfl, HB2.out⟩
end Go.Proofs.YtiebaeaomgpicaaGreat
