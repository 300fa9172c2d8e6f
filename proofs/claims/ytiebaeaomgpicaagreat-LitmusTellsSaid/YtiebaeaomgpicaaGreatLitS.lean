/- Package litmus: slices.SortFunc of the library, laid here. -/
import Derived.Test.YtiebaeaomgpicaaGreatLitQ
import Derived.Test.YtiebaeaomgpicaaGreatN3
import Derived.Shelf.SlSortCmp.NoneTotal
import Derived.Test.YtiebaeaomgpicaaGreatShelf
namespace Go.Proofs.YtiebaeaomgpicaaGreat
open Go.Shelf Go.RowKit Go.Lib Go.Sort Go.ChangeShapes Go.WideShapes Go.ChangeAt
open Gen
theorem cmpZ_cases (x y : Int) : (x < y ∧ cmpZ x y = -1) ∨ (x = y ∧ cmpZ x y = 0) ∨ (y < x ∧ cmpZ x y = 1) := by
  unfold cmpZ
  by_cases h1 : x < y
  · simp [h1]
  · by_cases h2 : y < x
    · simp [h1, h2]
    · have : x = y := by omega
      simp [this]
theorem cmpL_flip : ∀ x y : List Int, cmpL y x = -cmpL x y
  | [], [] => rfl
  | [], _ :: _ => rfl
  | _ :: _, [] => rfl
  | x :: xs, y :: ys => by
    rw [cmpL, cmpL, cmpL_flip xs ys]
    rcases cmpZ_cases x y with ⟨h, e⟩ | ⟨h, e⟩ | ⟨h, e⟩ <;> rcases cmpZ_cases y x with ⟨h', e'⟩ | ⟨h', e'⟩ | ⟨h', e'⟩ <;> (try omega) <;> simp [e, e']
theorem cmpL_eq : ∀ x y : List Int, cmpL x y = 0 → x = y
  | [], [], _ => rfl
  | [], _ :: _, h => by simp [cmpL] at h
  | _ :: _, [], h => by simp [cmpL] at h
  | x :: xs, y :: ys, h => by
    rw [cmpL] at h
    rcases cmpZ_cases x y with ⟨h', e⟩ | ⟨h', e⟩ | ⟨h', e⟩ <;> rw [e] at h
    · simp at h
    · rw [if_pos rfl] at h; rw [h', cmpL_eq xs ys h]
    · simp at h
theorem cmpL_self : ∀ x : List Int, cmpL x x = 0
  | [] => rfl
  | x :: xs => by
    rw [cmpL, cmpL_self xs]
    rcases cmpZ_cases x x with ⟨h', e⟩ | ⟨h', e⟩ | ⟨h', e⟩ <;> (try omega) <;> simp [e]
theorem cmpL_trans : ∀ x y z : List Int, cmpL x y < 0 → cmpL y z < 0 → cmpL x z < 0
  | [], [], _, h, _ => by simp [cmpL] at h
  | [], _ :: _, [], _, h => by simp [cmpL] at h
  | [], _ :: _, _ :: _, _, _ => by simp [cmpL]
  | _ :: _, [], _, h, _ => by simp [cmpL] at h
  | _ :: _, _ :: _, [], _, h => by simp [cmpL] at h
  | x :: xs, y :: ys, z :: zs, h, k => by
    rw [cmpL] at h k ⊢
    have ih := cmpL_trans xs ys zs
    rcases cmpZ_cases x y with ⟨h', e⟩ | ⟨h', e⟩ | ⟨h', e⟩ <;> rcases cmpZ_cases y z with ⟨k', f⟩ | ⟨k', f⟩ | ⟨k', f⟩ <;> rcases cmpZ_cases x z with ⟨l', g⟩ | ⟨l', g⟩ | ⟨l', g⟩ <;> rw [e] at h <;> rw [f] at k <;> rw [g] <;> simp at h k ⊢ <;> (try omega)
theorem swoL : SWO (ltOf cmpL) where
  irrefl x := by unfold ltOf; rw [cmpL_self]; rfl
  trans x y z h1 h2 := by unfold ltOf at *; simp only [decide_eq_true_eq] at *; exact cmpL_trans x y z h1 h2
  ntrans x y z h1 h2 := by
    unfold ltOf at *
    simp only [decide_eq_false_iff_not] at *
    intro h3
    have a := cmpL_flip x y
    have b := cmpL_flip y z
    by_cases e : cmpL x y = 0
    · rw [cmpL_eq x y e] at h3; exact h2 h3
    · exact h2 (cmpL_trans y x z (by omega) h3)
theorem totL (x y : List Int) (h1 : ltOf cmpL x y = false) (h2 : ltOf cmpL y x = false) : x = y := by
  unfold ltOf at h1 h2
  simp only [decide_eq_false_iff_not] at h1 h2
  rw [cmpL_flip x y] at h2
  exact cmpL_eq x y (by omega)
section
variable {α : Type} [Inhabited α] {enc : α → Value}
theorem heap_sortW {w : World} {g n : Nat} {os : Array Obj} {cur : Array Value} {e : TypeId} {fr : Nat × Nat} (d : Array α) (hb : w.heap[g]? = some (.cells cur e fr)) :
    (sortWorld enc w g 0 n d os).heap[g]? = some (.cells (putCells enc 0 d cur) e fr) := by
  have hg : g < w.heap.size := (Array.getElem?_eq_some_iff.1 hb).1
  rw [sortWorld, heap_grow_old _ _ (by simpa using hg)]
  simp [putRow, mapBlock, Sort.ahead, Array.getElem?_modify, hb, onCells]
theorem grown_sortW (w : World) (g n : Nat) (os : Array Obj) (d : Array α) : w.grownBy (sortWorld enc w g 0 n d os) (some g) := by
  refine ⟨rfl, rfl, rfl, by simp [sortWorld], fun k hk hne => ?_⟩
  rw [sortWorld, heap_grow_old _ _ (by simpa using hk)]
  have : g ≠ k := fun e => hne (by rw [e])
  simp [putRow, mapBlock, Sort.ahead, Array.getElem?_modify, this]
theorem take_sortW (cur : Array Value) (ts : List α) (h : ts.length ≤ cur.size) : (putCells enc 0 ts.toArray cur).toList.take ts.length = ts.map enc := by
  apply List.ext_getElem?
  intro j
  by_cases hj : j < ts.length
  · rw [List.getElem?_take_of_lt hj, Array.getElem?_toList]
    simp [putCells, hj, show j < cur.size by omega]
  · rw [List.getElem?_take_eq_none (by omega), List.getElem?_eq_none (by simp; omega)]
theorem holds_own {w : World} {g : Nat} {e : TypeId} {cur : Array Value} (ss : List α) (hb : w.heap[g]? = some (.cells cur e (0, 0))) (ht : cur.toList.take ss.length = ss.map enc) : Holds enc w g 0 ss.toArray := by
  intro j hj
  have hj' : j < ss.length := by simpa using hj
  refine ⟨?_, by simp [World.frozen?, hb]⟩
  have h1 : (cur.toList.take ss.length)[j]? = (ss.map enc)[j]? := by rw [ht]
  rw [List.getElem?_take_of_lt hj'] at h1
  simp only [World.cell?, hb, Nat.zero_add]
  simp only [Option.isSome_none, Bool.false_eq_true, if_false]
  rw [← Array.getElem?_toList, h1]
  simp [hj']
end
/-- the rows sorted -/
def srtL (rows : List (List Int)) : List (List Int) := rows.mergeSort fun x y => !(ltOf cmpL) y x
theorem flat_mk {Q : Nat → Prop} {w : World} : ∀ {ys : List (List Int)} {cs : List Value}, cs.length = ys.length → (∀ i (h : i < ys.length) (h' : i < cs.length), (repSlice repInt).R Q w [cs[i]] ys[i]) → Flat (repSlice repInt) Q w cs ys
  | [], cs, h, _ => List.length_eq_zero_iff.1 h
  | y :: ys, [], h, _ => by simp at h
  | y :: ys, c :: cs, h, k => ⟨[c], cs, rfl, k 0 (by simp) (by simp), flat_mk (by simpa using h) fun i h1 h2 => k (i + 1) (by simp; omega) (by simp; omega)⟩

set_option maxHeartbeats 4000000 in
theorem sort_says : SortSays srtL := by
  intro v rows vs w B Q own flat hq hlen hfew hnd
  have hvl : vs.length = rows.length := by have := flat_len flat; simpa [repSlice] using this
  by_cases h0 : rows.length = 0
  · obtain ⟨a, c, rfl⟩ := own_shapeT own
    obtain rfl := List.length_eq_zero_iff.1 h0
    have hS := AnyF.slices_SortFunc_none (P := Tryz.prog) (ρ := Tryz.sortL_ren) { Tryz.sortL with } a c (.func (.func 21) #[] #[]) w
    change Calls Tryz.prog 20 _ _ _ at hS
    refine hS.mono ?_
    rintro e w' ⟨rfl, rfl⟩
    exact ⟨rfl, vs, own, by simpa [srtL] using flat, fun _ _ _ _ h => h, Below.refl _ _⟩
  · obtain ⟨hxl, ⟨rfl, h⟩ | ⟨g, cap, cur, rfl, hB, hg, hc, hcm, hs, ht⟩⟩ := own
    · exact absurd h h0
    have hat : ∀ i (h : i < rows.length) (h' : i < vs.length), (repSlice repInt).R Q w [vs[i]] rows[i] := by
      intro i h h'
      obtain ⟨c, hr, hj⟩ := flat_at flat i rows[i] (by simp [h])
      have hl := (repSlice repInt).len hr
      obtain ⟨x, rfl⟩ : ∃ x, c = [x] := List.length_eq_one_iff.1 hl
      have := hj 0 x rfl
      have e : vs[i]? = some x := by simpa [repSlice] using this
      rw [List.getElem?_eq_getElem h'] at e
      rw [Option.some.inj e]; exact hr
    have hpos : 0 < rows.length := by omega
    letI : Inhabited {x // x ∈ rows} := ⟨⟨rows[0], List.getElem_mem hpos⟩⟩
    have hidx : ∀ x : {x // x ∈ rows}, rows.idxOf x.1 < rows.length := fun x => List.idxOf_lt_length_of_mem x.2
    obtain ⟨enc, henc, hmap⟩ : ∃ enc : {x // x ∈ rows} → Value, (∀ x, (repSlice repInt).R Q w [enc x] x.1) ∧ rows.attach.map enc = vs := by
      refine ⟨fun x => vs[rows.idxOf x.1]'(by rw [hvl]; exact hidx x), fun x => ?_, ?_⟩
      · have := hat (rows.idxOf x.1) (hidx x) (by rw [hvl]; exact hidx x)
        rwa [List.getElem_idxOf] at this
      · apply List.ext_getElem (by simp [hvl])
        intro i h1 h2
        have hi : i < rows.length := by simpa using h1
        simp only [List.getElem_map, List.getElem_attach]
        congr 1
        exact List.Nodup.idxOf_getElem hnd i hi
    let cf : {x // x ∈ rows} → {x // x ∈ rows} → Int := fun x y => cmpL x.1 y.1
    have hO : SWO (ltOf cf) := ⟨fun x => swoL.irrefl x.1, fun x y z => swoL.trans x.1 y.1 z.1, fun x y z => swoL.ntrans x.1 y.1 z.1⟩
    have hT : ∀ x y, (ltOf cf) x y = false → (ltOf cf) y x = false → x = y := fun x y h1 h2 => Subtype.ext (totL x.1 y.1 h1 h2)
    have h1 : OneCell enc := by
      intro x
      obtain ⟨q, c, he, _⟩ := henc x
      rw [List.cons.inj he |>.1]; rfl
    have hds : rows.attach.toArray.size = rows.length := by simp
    have hgl : g < w.heap.size := (Array.getElem?_eq_some_iff.1 hg).1
    have hH : Holds enc w g 0 rows.attach.toArray := holds_own rows.attach hg (by rw [hmap]; simpa using ht)
    have eg : ∀ args w, (callFunc 21 args).run Tryz.prog w = .ok (.enter 21 args) w := enters_of Tryz.func21 (by kernel_rfl) rfl
    have hk : ∀ m dk os, Kept Q w (sortWorld enc w g 0 m dk os) := by
      intro m dk os b o v hb hc
      rw [World.cell?_of_block ((grown_sortW w g m os dk).block b (lt_of_cell hc) (fun e => hq g rfl (by rw [← Option.some.inj e]; exact hb)))]
      exact hc
    have hcmp : CmpLays1 Tryz.prog 21 #[] enc cf g 0 rows.attach.toArray.size w := by
      intro m os dk _ x y
      obtain ⟨p, c, ex, _, _, _, Vx⟩ := henc x
      obtain ⟨p', c', ey, _, _, _, Vy⟩ := henc y
      have hkW := hk m dk os
      obtain ⟨W, hW⟩ : ∃ W, W = sortWorld enc w g 0 m dk os := ⟨_, rfl⟩
      rw [← hW] at hkW ⊢
      rw [(List.cons.inj ex).1, (List.cons.inj ey).1, Array.append_empty]
      have hc := compare_any p p' x.1.length c y.1.length c' x.1 y.1 W (vs_keep hkW Vx) (vs_keep hkW Vy) (by have := hlen _ x.2; omega) (by have := hlen _ y.2; omega)
      obtain ⟨z, hz⟩ : ∃ z, z = cmpL x.1 y.1 := ⟨_, rfl⟩
      rw [← hz] at hc
      rw [show cf x y = z from hz.symm]
      refine hc.mono ?_
      rintro e w' ⟨rfl, rfl⟩
      exact ⟨rfl, 0, #[], by rw [grow_empty]; rfl⟩
    have hS := Any.slices_SortFunc_total Tryz.sortL enc h1 cf hO 21 #[] g 0 cap rows.attach.toArray w eg hcmp hH hgl (by rw [hds]; omega) hT
    rw [hds] at hS
    change Calls Tryz.prog 20 _ _ _ at hS
    refine hS.mono ?_
    rintro e w' ⟨rfl, n, os, rfl⟩
    obtain ⟨st, hst⟩ : ∃ st, st = rows.attach.mergeSort fun x y => !(ltOf cf) y x := ⟨_, rfl⟩
    have hval : st.map Subtype.val = srtL rows := by
      rw [hst, srtL, List.map_mergeSort (r := fun x y => !(ltOf cf) y x) (s := fun x y => !(ltOf cmpL) y x) (fun _ _ _ _ => rfl)]
      simp
    have hlt : st.length = rows.length := by rw [hst, List.length_mergeSort]; simp
    rw [← hst]
    refine ⟨rfl, st.map enc, ⟨by simp [hlt], .inr ⟨g, cap, _, rfl, hB, heap_sortW _ hg, hc, hcm, by simp [putCells, hs], by rw [Nat.mul_one, ← hlt]; exact take_sortW cur st (by omega)⟩⟩, ?_, ?_, ?_⟩
    · rw [← hval]
      refine flat_mk (by simp) fun i h2 h3 => ?_
      simp only [List.getElem_map]
      exact (repSlice repInt).keep (hk _ _ _) (henc _)
    · intro b o v hb hc'
      rw [World.cell?_of_block ((grown_sortW w g n os _).block b (lt_of_cell hc') (fun e => hb e.symm))]
      exact hc'
    · exact (Below.refl B w).grown (grown_sortW w g n os _) (by omega) (fun _ hr => by cases hr; exact hB)
/-- litmus.Outcomes of a test that is right: its rows, sorted, each once -/
theorem outcomes_row (W D : Int) (q : Option Addr) (d : Nat) (ts : List (List Mv)) (w : World) (V : Vs (repSlice repInt3) Any w q ts.length ts) (hlen : ∀ t ∈ ts, t.length ≤ 100) (hm : mayL W D ts = true) :
    Calls Tryz.prog 5 #[.agg #[.int .i64 W, .int .i64 D, .slice q ts.length d]] w fun e w' => ∃ v vs, e = .returned (.tuple #[v, .int .i64 0]) ∧ w'.ownsRow w.heap.size 23 1 v (rowsL W D ts).length vs ∧ Flat (repSlice repInt) (fun b => w.heap.size ≤ b ∧ v.ownBlock ≠ some b) w' vs (srtL (rowsL W D ts)) ∧ Below w.heap.size w w' :=
  outcomes_any sort_says W D q d ts w V hlen hm
theorem srt_mem (rows : List (List Int)) (x : List Int) : x ∈ srtL rows ↔ x ∈ rows := List.mem_mergeSort
theorem srt_nodup {rows : List (List Int)} (h : rows.Nodup) : (srtL rows).Nodup := (List.mergeSort_perm rows _).nodup_iff.2 h
theorem srt_sorted (rows : List (List Int)) : (srtL rows).Pairwise fun x y => (!(ltOf cmpL) y x) = true :=
  List.pairwise_mergeSort (fun a b c h1 h2 => by simp at *; exact swoL.ntrans _ _ _ h2 h1) (fun a b => by
    unfold ltOf; rw [cmpL_flip b a]
    by_cases h : cmpL b a < 0
    · simp [h]; omega
    · simp [h]) rows
/-- two lists without doubles with the same members are one, sorted -/
theorem srt_same {xs ys : List (List Int)} (hx : xs.Nodup) (hy : ys.Nodup) (h : ∀ o, o ∈ xs ↔ o ∈ ys) : srtL xs = srtL ys := by
  have hp : xs.Perm ys := (List.perm_ext_iff_of_nodup hx hy).2 h
  refine List.Perm.eq_of_pairwise (le := fun x y => (!(ltOf cmpL) y x) = true) (fun a b _ _ h1 h2 => totL a b (by simpa using h2) (by simpa using h1)) (srt_sorted xs) (srt_sorted ys) ?_
  exact ((List.mergeSort_perm xs _).trans hp).trans (List.mergeSort_perm ys _).symm
end Go.Proofs.YtiebaeaomgpicaaGreat
