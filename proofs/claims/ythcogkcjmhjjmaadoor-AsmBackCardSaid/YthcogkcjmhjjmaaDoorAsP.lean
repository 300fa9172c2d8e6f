/- The document's own reading (respiteref05): Split. -/
import Derived.Test.YthcogkcjmhjjmaaDoorAsO
import Derived.Test.YthcogkcjmhjjmaaDoorAsN
import Derived.Test.YthcogkcjmhjjmaaDoorAsI
namespace Go.Proofs.YthcogkcjmhjjmaaDoor
open Go.ChangeShapes Go.WideShapes Go.ChangeAt Go.RowKit
open Gen

theorem parts_none {c : UInt8} : ∀ {p : Bs}, c ∉ p → parts c p = [p]
  | [], _ => rfl
  | b :: t, h => by
    rw [List.mem_cons, not_or] at h
    rw [parts, if_neg (fun e => h.1 e.symm), parts_none h.2]
theorem parts_hit {c : UInt8} (r : Bs) : ∀ {p : Bs}, c ∉ p → parts c (p ++ c :: r) = p :: parts c r
  | [], _ => by rw [List.nil_append, parts, if_pos rfl]
  | b :: t, h => by
    rw [List.mem_cons, not_or] at h
    rw [List.cons_append, parts, if_neg (fun e => h.1 e.symm), parts_hit r h.2]
/-- what the loop has split -/
def Spl (c : UInt8) (l : Bs) (k f : Nat) (ds : List Bs) : Prop := f ≤ k ∧ c ∉ (l.drop f).take (k - f) ∧ ds ++ parts c (l.drop f) = parts c l
theorem spl_zero (c : UInt8) (l : Bs) : Spl c l 0 0 [] := ⟨Nat.le_refl _, by simp, by simp⟩
theorem drop_at {l : Bs} {f k : Nat} (hf : f ≤ k) (hk : k < l.length) : l.drop f = (l.drop f).take (k - f) ++ l.getD k 0 :: l.drop (k + 1) := by
  have h1 := List.take_append_drop (k - f) (l.drop f)
  rw [List.drop_drop, show f + (k - f) = k by omega] at h1
  have h2 : l.drop k = l.getD k 0 :: l.drop (k + 1) := by
    rw [List.getD_eq_getElem?_getD, List.getElem?_eq_getElem hk]
    exact List.drop_eq_getElem_cons hk
  rw [h2] at h1
  exact h1.symm
theorem spl_hit {c : UInt8} {l : Bs} {k f : Nat} {ds : List Bs} (hk : k < l.length) (h : Spl c l k f ds) (hc : l.getD k 0 = c) : Spl c l (k + 1) (k + 1) (ds ++ [(l.drop f).take (k - f)]) := by
  obtain ⟨h1, h2, h3⟩ := h
  refine ⟨Nat.le_refl _, by simp, ?_⟩
  have h4 := drop_at h1 hk
  rw [hc] at h4
  have h5 := parts_hit (l.drop (k + 1)) h2
  rw [← h4] at h5
  rw [← h3, h5]
  simp
theorem spl_miss {c : UInt8} {l : Bs} {k f : Nat} {ds : List Bs} (hk : k < l.length) (h : Spl c l k f ds) (hc : l.getD k 0 ≠ c) : Spl c l (k + 1) f ds := by
  obtain ⟨h1, h2, h3⟩ := h
  refine ⟨by omega, ?_, h3⟩
  rw [show k + 1 - f = (k - f) + 1 by omega, take_snoc _ _ (by rw [List.length_drop]; omega), List.mem_append, not_or]
  refine ⟨h2, ?_⟩
  rw [List.mem_singleton, List.getD_eq_getElem?_getD, List.getElem?_drop, show f + (k - f) = k by omega, ← List.getD_eq_getElem?_getD]
  exact fun e => hc e.symm
theorem spl_end {c : UInt8} {l : Bs} {f : Nat} {ds : List Bs} (h : Spl c l l.length f ds) : parts c l = ds ++ [(l.drop f).take (l.length - f)] := by
  obtain ⟨h1, h2, h3⟩ := h
  rw [← h3]
  have e : (l.drop f).take (l.length - f) = l.drop f := List.take_of_length_le (by rw [List.length_drop]; omega)
  rw [e] at h2 ⊢
  rw [parts_none h2]
theorem ext_str (s : ByteArray) (f k : Nat) : s.extract f k = str ((s.data.toList.drop f).take (k - f)) := by
  apply ByteArray.ext
  exact Array.toList_inj.1 (by simp)
theorem Tryd.infoStr : (Tryd.prog.info? 9).map (fun i => (i.zero, i.size, i.bytes)) = some (some (.string ⟨#[]⟩), 1, 16) := by kernel_rfl
theorem strs_snoc (ds : List Bs) (p : Bs) : strs ds ++ [.string (str p)] = strs (ds ++ [p]) := by simp [strs]
theorem strs_len (ds : List Bs) : (strs ds).length = ds.length := by simp [strs]
/-- between two rounds -/
structure SpR (w : World) (v : Value) (ds : List Bs) (wr : World) : Prop where
  own : wr.ownsRow w.heap.size 9 1 v ds.length (strs ds)
  below : Below w.heap.size w wr
theorem spR_next {w wr w1 : World} {v v' : Value} {ds : List Bs} {o : Obj} {p : Bs} (h : SpR w v ds wr) (hown : w1.ownsRow w.heap.size 9 1 v' (ds.length + 1) (strs ds ++ [.string (str p)])) (hg : (wr.alloc o).grownBy w1 v.ownBlock) : SpR w v' (ds ++ [p]) w1 := by
  refine ⟨by rw [List.length_append, ← strs_snoc]; exact hown, ?_⟩
  have h1 := h.below.alloc h.below.size o
  exact h1.grown hg h1.size (fun r e => ((h.own.alloc o).lt r e).1)
def SplitPost (ps : List Bs) (w : World) (e : Ending) (w' : World) : Prop := ∃ v, e = .returned v ∧ SpR w v ps w'
set_option maxRecDepth 100000 in
set_option maxHeartbeats 2000000 in
theorem refSplit_any (s : ByteArray) (c : UInt8) (cz : Int) (hcz : cz = c.toNat) (w : World) (hs : s.size ≤ 50000) : Calls Tryd.prog 26 #[.string s, .int .u8 cz] w (SplitPost (parts c s.data.toList) w) := by
  obtain ⟨i0, hi, hz0, hz1, hz2⟩ := info_parts Tryd.infoStr
  have HI := Lib.hid (And.intro hi (And.intro hz0 (And.intro hz1 hz2)))
  clear hi hz0 hz1 hz2
  have HL := Lib.hid (bytes_size s)
  have HCZ := Lib.hid hcz
  have hs0 : (s.size : Int) ≤ 50000 := by omega
  clear hcz
  go_enter Tryd.func26, Tryd.ntmps26
  go_wp2
  obtain ⟨W, hW⟩ : ∃ W, W = w.alloc (Obj.cells #[] 9) := ⟨_, rfl⟩
  have HR : SpR w (.slice (some ⟨w.heap.size, 0, none⟩) 0 0) [] W := by
    rw [hW]
    exact ⟨World.ownsRow_lit w #[] 0 (Nat.le_refl _) (by unfold maxLen; omega) rfl, (Below.refl _ _).alloc (Nat.le_refl _) _⟩
  rw [← hW]
  have HR' := Lib.hid HR
  clear hW HR
  go_loopw [5, 6, 7] (fun v x i wr => ∃ (k f : Nat) (ds : List Bs), k ≤ s.size ∧ i = .int .i64 k ∧ x = .int .i64 f ∧ f ≤ k ∧ ds.length ≤ k ∧ Hid (Spl c s.data.toList k f ds) ∧ Hid (SpR w v ds wr)) (fun _ _ i _ => s.size - (intOf i).toNat)
  case atStart => exact ⟨0, 0, [], by omega, rfl, rfl, by omega, by simp, spl_zero _ _, HR'.out⟩
  case round =>
    obtain ⟨k, f, ds, hk, rfl, rfl, hf, hd, hsp, hr⟩ := hrel
    clear HR'
    by_cases hlt : k < s.size
    · have j1 : (k : Int) < s.size := by omega
      have j2 : (0 : Int) ≤ k := by omega
      have j3 : (f : Int) ≤ k := by omega
      have j4 : (0 : Int) ≤ f := by omega
      have j5 : (k : Int) ≤ s.size := by omega
      have hbt := bytes_at s k hlt
      by_cases hc : s[k] = c
      · have HS := Lib.hid (spl_hit (by rw [← HL.out]; exact hlt) hsp.out (by rw [← hbt]; exact hc))
        have q : ((s[k].toNat : Int) == cz) = true := by rw [HCZ.out, hc]; simp
        clear hbt hc
        go_wp2_with (at_builtin; refine wpList_append_own_at _ rfl _ _ 51 rfl w.heap.size 9 i0 (.string ⟨#[]⟩) 1 16 Tryd.underlying51 HI.out.1 HI.out.2.1 HI.out.2.2.1 HI.out.2.2.2 rfl (by decide) _ _ _ rfl (hr.out.own.alloc _) ⟨wr.heap.size, 0, none⟩ 1 1 [.string (s.extract f k)] rfl rfl ?c1 ?c2 ?c3 ?c4 ?c5 ?_)
        case c1 => exact cell_one_new _ _ _
        case c2 => intro x hx; simp at hx; subst hx; rfl
        case c3 => unfold maxLen; omega
        case c4 => omega
        case c5 => have := hr.out.below.size; simp; omega
        intro v' w1 hown' hgrow _ hat
        rw [ext_str] at hown'
        have HN := Lib.hid (spR_next hr.out hown' hgrow)
        clear hown' hgrow hat
        go_wp2
        go_roundw
        case rel => exact ⟨k + 1, k + 1, _, by omega, by go_num, by go_num, by omega, by rw [List.length_append, List.length_singleton]; omega, HS.out, HN.out⟩
        case measure => simp [intOf]; omega
      · have HS := Lib.hid (spl_miss (by rw [← HL.out]; exact hlt) hsp.out (by rw [← hbt]; exact hc))
        have q : ((s[k].toNat : Int) == cz) = false := by
          rw [HCZ.out]; simp only [beq_eq_false_iff_ne, ne_eq]; intro e; exact hc (UInt8.toNat_inj.1 (by omega))
        clear hbt hc
        go_wp2
        go_roundw
        case rel => exact ⟨k + 1, f, ds, by omega, by go_num, rfl, by omega, by omega, HS.out, hr.out⟩
        case measure => simp [intOf]; omega
    · obtain rfl : k = s.size := by omega
      have j3 : (f : Int) ≤ s.size := by omega
      have j4 : (0 : Int) ≤ f := by omega
      go_wp2_with (at_builtin; refine wpList_append_own_at _ rfl _ _ 51 rfl w.heap.size 9 i0 (.string ⟨#[]⟩) 1 16 Tryd.underlying51 HI.out.1 HI.out.2.1 HI.out.2.2.1 HI.out.2.2.2 rfl (by decide) _ _ _ rfl (hr.out.own.alloc _) ⟨wr.heap.size, 0, none⟩ 1 1 [.string (s.extract f s.size)] rfl rfl ?c1 ?c2 ?c3 ?c4 ?c5 ?_)
      case c1 => exact cell_one_new _ _ _
      case c2 => intro x hx; simp at hx; subst hx; rfl
      case c3 => unfold maxLen; omega
      case c4 => omega
      case c5 => have := hr.out.below.size; simp; omega
      intro v' w1 hown' hgrow _ hat
      rw [ext_str] at hown'
      have HN := Lib.hid (spR_next hr.out hown' hgrow)
      clear hown' hgrow hat
      go_wp2
      go_ret
      exact ⟨_, rfl, by rw [spl_end (by rw [← HL.out]; exact hsp.out), ← HL.out]; exact HN.out⟩
end Go.Proofs.YthcogkcjmhjjmaaDoor
