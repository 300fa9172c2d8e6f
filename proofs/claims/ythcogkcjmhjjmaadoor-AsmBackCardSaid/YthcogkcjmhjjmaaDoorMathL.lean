/- Plain functions on lists of bytes: a text at a byte, its lines. -/
import Derived.Test.YthcogkcjmhjjmaaDoorMathK
import Derived.Lib.Split
import Derived.Lib.IndexLaws
import Derived.Lib.IndexBytes
namespace Go.Proofs.YthcogkcjmhjjmaaDoor

/-- a text at a byte; the part behind the last one, too -/
def parts (c : UInt8) : Bs → List Bs
  | [] => [[]]
  | b :: t => if b = c then [] :: parts c t else match parts c t with | p :: ps => (b :: p) :: ps | [] => [[b]]
theorem parts_ne (c : UInt8) : ∀ l : Bs, parts c l ≠ []
  | [] => by simp [parts]
  | b :: t => by
    unfold parts
    split
    · simp
    · split <;> simp
theorem parts_split (c : UInt8) : ∀ l : Bs, (Lib.index l [c] = -1 ∧ parts c l = [l] ∧ c ∉ l) ∨ ∃ i : Nat, Lib.index l [c] = i ∧ i < l.length ∧ parts c l = l.take i :: parts c (l.drop (i + 1)) ∧ c ∉ l.take i
  | [] => .inl ⟨by simp [Lib.index], rfl, by simp⟩
  | b :: t => by
    by_cases h : b = c
    · subst h
      right
      refine ⟨0, ?_, by simp, ?_, by simp⟩
      · simp [Lib.index]
      · simp [parts]
    · have hp : List.isPrefixOf [c] (b :: t) = false := by
        simp [List.isPrefixOf]; exact fun e => h e.symm
      rcases parts_split c t with ⟨h1, h2, h3⟩ | ⟨i, h1, h2, h3, h4⟩
      · left
        refine ⟨?_, ?_, ?_⟩
        · rw [Lib.index, hp, h1]; rfl
        · simp [parts, h, h2]
        · simp only [List.mem_cons, not_or]; exact ⟨fun e => h e.symm, h3⟩
      · right
        refine ⟨i + 1, ?_, by simp; omega, ?_, ?_⟩
        · rw [Lib.index, hp, h1]
          have e : ((i : Int) == -1) = false := by simp
          rw [e]; simp
        · simp [parts, h, h3]
        · simp only [List.take_succ_cons, List.mem_cons, not_or]; exact ⟨fun e => h e.symm, h4⟩
theorem parts_count (c : UInt8) : ∀ (n : Nat) (l : Bs), l.length < n → (parts c l).length = Lib.count l [c] + 1 ∧ parts c l = Lib.splitK [c] 0 (Lib.count l [c]) l
  | 0, _, h => by omega
  | n + 1, l, h => by
    rcases parts_split c l with ⟨h1, h2, _⟩ | ⟨i, h1, h2, h3, _⟩
    · rw [Lib.count_miss h1, h2]; exact ⟨rfl, rfl⟩
    · have hr := parts_count c n (l.drop (i + 1)) (by rw [List.length_drop]; omega)
      rw [Lib.count_hit (by simp) h1, h3]
      simp only [List.length_cons, List.length_nil, Nat.zero_add] at hr ⊢
      refine ⟨by omega, ?_⟩
      rw [Nat.add_comm 1, Lib.splitK, h1]
      have e : ((i : Int) == -1) = false := by simp
      rw [e]
      simpa using hr.2
/-- the texts of a line list, as the program reads them: each with whether it is ended -/
def linesL (l : Bs) : List (Bs × Bool) := (parts 10 l).dropLast.map (fun p => (p, true)) ++ (match (parts 10 l).getLast? with | some [] => [] | some p => [(p, false)] | none => [])
theorem linesL_nil : linesL [] = [] := rfl
theorem linesL_step {l : Bs} (h : l ≠ []) : linesL l = ((Lib.cut l [10]).1, (Lib.cut l [10]).2.2) :: linesL (Lib.cut l [10]).2.1 := by
  rcases parts_split 10 l with ⟨h1, h2, _⟩ | ⟨i, h1, h2, h3, _⟩
  · have e : Lib.cut l [10] = (l, [], false) := by rw [Lib.cut, h1, if_neg (by omega)]
    rw [e, linesL_nil, linesL, h2]
    match l, h with
    | b :: t, _ => rfl
  · have e : Lib.cut l [10] = (l.take i, l.drop (i + 1), true) := by
      rw [Lib.cut, h1, if_pos (by omega)]; simp
    rw [e, linesL, h3]
    have hn := parts_ne 10 (l.drop (i + 1))
    dsimp only
    rw [linesL, List.dropLast_cons_of_ne_nil hn, List.getLast?_cons, List.map_cons]
    obtain ⟨p, hp⟩ : ∃ p, (parts 10 (l.drop (i + 1))).getLast? = some p := ⟨_, List.getLast?_eq_some_getLast hn⟩
    rw [hp]
    rfl
theorem cut_short (l : Bs) : (Lib.cut l [10]).1.length ≤ l.length ∧ (l ≠ [] → (Lib.cut l [10]).2.1.length < l.length) := by
  rcases parts_split 10 l with ⟨h1, _, _⟩ | ⟨i, h1, h2, _, _⟩
  · have e : Lib.cut l [10] = (l, [], false) := by rw [Lib.cut, h1, if_neg (by omega)]
    rw [e]
    refine ⟨Nat.le_refl _, fun h => ?_⟩
    match l, h with
    | b :: t, _ => simp
  · have e : Lib.cut l [10] = (l.take i, l.drop (i + 1), true) := by
      rw [Lib.cut, h1, if_pos (by omega)]; simp
    rw [e]
    simp only [List.length_take, List.length_drop]
    exact ⟨by omega, fun _ => by omega⟩

theorem linesL_len : ∀ (n : Nat) (l : Bs), l.length ≤ n → (linesL l).length ≤ n
  | n, [], _ => by rw [linesL_nil]; exact Nat.zero_le _
  | 0, _ :: _, h => by simp at h
  | n + 1, b :: t, h => by
    rw [linesL_step (by simp), List.length_cons]
    have := (cut_short (b :: t)).2 (by simp)
    have := linesL_len n (Lib.cut (b :: t) [10]).2.1 (by omega)
    omega
/-- the number that a part tells, or why not -/
def numE (l : Bs) : Int × Int := match Lib.atoiAll l with | .ok v => if Lib.itoa v = l ∧ -1000000000 ≤ v ∧ v ≤ 1000000000 then (v, 0) else (0, 3) | _ => (0, 3)
/-- is a line a label? -/
def labB (l : Bs) : Bool := Lib.hasSuffix l [58]
def nmL (l : Bs) : Bs := Lib.trimSuffix l [58]
/-- how many of some lines are no labels -/
def aheadL (ls : List (Bs × Bool)) : Nat := (ls.filter (fun x => !labB x.1)).length
theorem aheadL_snoc (ls : List (Bs × Bool)) (x : Bs × Bool) : aheadL (ls ++ [x]) = aheadL ls + (if labB x.1 then 0 else 1) := by
  simp only [aheadL, List.filter_append, List.length_append]
  cases h : labB x.1 <;> simp [h]
/-- where a label is: its line, and how many instructions stand ahead of it -/
def labAt : List (Bs × Bool) → Bs → Option (Int × Int) := fun ls nm => go ls 0 0 nm
 where go : List (Bs × Bool) → Nat → Nat → Bs → Option (Int × Int)
  | [], _, _, _ => none
  | x :: r, n, k, nm => if labB x.1 then (if nmL x.1 = nm ∧ x.2 = true ∧ nameB nm = true then some ((n + 1 : Nat), (k : Nat)) else go r (n + 1) k nm) else go r (n + 1) (k + 1) nm
theorem labAt_go (ls : List (Bs × Bool)) (x : Bs × Bool) (nm : Bs) : ∀ (n k : Nat), labAt.go (ls ++ [x]) n k nm = (labAt.go ls n k nm).or (if labB x.1 = true ∧ nmL x.1 = nm ∧ x.2 = true ∧ nameB nm = true then some ((n + ls.length + 1 : Nat), (k + aheadL ls : Nat)) else none) := by
  induction ls with
  | nil =>
    intro n k
    simp only [List.nil_append, labAt.go, Option.none_or, aheadL, List.filter_nil, List.length_nil, Nat.add_zero]
    by_cases h : labB x.1 = true
    · simp [h]
    · simp [h]
  | cons y r ih =>
    intro n k
    simp only [List.cons_append, labAt.go]
    by_cases h : labB y.1 = true
    · rw [if_pos h, if_pos h]
      by_cases h2 : nmL y.1 = nm ∧ y.2 = true ∧ nameB nm = true
      · rw [if_pos h2, if_pos h2]; rfl
      · rw [if_neg h2, if_neg h2, ih]
        have e : aheadL (y :: r) = aheadL r := by simp [aheadL, h]
        rw [e, List.length_cons, show n + 1 + r.length + 1 = n + (r.length + 1) + 1 by omega]
    · rw [if_neg h, if_neg h, ih]
      have e : aheadL (y :: r) = aheadL r + 1 := by simp [aheadL, h]
      rw [e, List.length_cons, show n + 1 + r.length + 1 = n + (r.length + 1) + 1 by omega, show k + 1 + aheadL r = k + (aheadL r + 1) by omega]
theorem labAt_snoc (ls : List (Bs × Bool)) (x : Bs × Bool) (nm : Bs) : labAt (ls ++ [x]) nm = (labAt ls nm).or (if labB x.1 = true ∧ nmL x.1 = nm ∧ x.2 = true ∧ nameB nm = true then some ((ls.length + 1 : Nat), (aheadL ls : Nat)) else none) := by
  rw [labAt, labAt_go, Nat.zero_add, Nat.zero_add]
  rfl
end Go.Proofs.YthcogkcjmhjjmaaDoor
