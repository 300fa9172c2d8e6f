/- Rows of puts in worlds: slices of structs of two integers. -/
import Derived.Test.YtnkhgofpdgnemaaMemC
import Derived.Test.YtnkhgofpdgnemaaMathP
import Derived.Deep.SlicePairs
namespace Go.Proofs.Ytnkhgofpdgnemaa
open Go.ChangeShapes Go.WideShapes Go.ChangeAt Go.RowKit

/-- the cells of a row of puts -/
def PRow (w : World) (b off : Nat) (ps : List (Int × Int)) : Prop := ∀ i, i < ps.length → w.cell? ⟨b, off + i * 2, none⟩ = some (.int .i64 (ps.getD i (0, 0)).1) ∧ w.cell? ⟨b, off + i * 2 + 1, none⟩ = some (.int .i64 (ps.getD i (0, 0)).2)
theorem prowA {w : World} {b off : Nat} {ps : List (Int × Int)} (o : Obj) (h : PRow w b off ps) : PRow (w.alloc o) b off ps := fun i hi => ⟨cellA o (h i hi).1, cellA o (h i hi).2⟩
theorem prowB {w w' : World} {b off : Nat} {ps : List (Int × Int)} (hb : Below w.heap.size w w') (h : PRow w b off ps) : PRow w' b off ps := fun i hi => ⟨cellB hb (h i hi).1, cellB hb (h i hi).2⟩
/-- a slice of n puts: nothing is asked of its address where it is empty -/
def Pl (w : World) (a : Option Addr) (n : Nat) (ps : List (Int × Int)) : Prop := ps.length = n ∧ (n = 0 ∨ ∃ b o, a = some ⟨b, o, none⟩ ∧ PRow w b o ps)
theorem plA {w : World} {a : Option Addr} {n : Nat} {ps : List (Int × Int)} (o : Obj) (h : Pl w a n ps) : Pl (w.alloc o) a n ps :=
  ⟨h.1, h.2.imp id fun ⟨b, f, e, r⟩ => ⟨b, f, e, prowA o r⟩⟩
theorem plB {w w' : World} {a : Option Addr} {n : Nat} {ps : List (Int × Int)} (hb : Below w.heap.size w w') (h : Pl w a n ps) : Pl w' a n ps :=
  ⟨h.1, h.2.imp id fun ⟨b, f, e, r⟩ => ⟨b, f, e, prowB hb r⟩⟩
theorem plD {w : World} {a : Option Addr} {n : Nat} {ps : List (Int × Int)} (h : Pl w a n ps) : Pl w.drew a n ps := h
theorem pl_nil (w : World) : Pl w none 0 [] := ⟨rfl, .inl rfl⟩
/-- the same, and the row lies in a block from F on -/
def PlF (F : Nat) (w : World) (a : Option Addr) (n : Nat) (ps : List (Int × Int)) : Prop := ps.length = n ∧ (n = 0 ∨ ∃ b o, a = some ⟨b, o, none⟩ ∧ F ≤ b ∧ PRow w b o ps)
theorem PlF.pl {F : Nat} {w : World} {a : Option Addr} {n : Nat} {ps : List (Int × Int)} (h : PlF F w a n ps) : Pl w a n ps := ⟨h.1, h.2.imp id fun ⟨b, o, e, _, r⟩ => ⟨b, o, e, r⟩⟩
theorem plF_nil (F : Nat) (w : World) : PlF F w none 0 [] := ⟨rfl, .inl rfl⟩
theorem plF_set {F : Nat} {w : World} {a : Option Addr} {n : Nat} {ps : List (Int × Int)} (h : PlF F w a n ps) (p : Addr) (hp : p.block < F) (v : Value) : PlF F (w.setCell p v) a n ps := by
  refine ⟨h.1, h.2.imp id ?_⟩
  rintro ⟨b, o, rfl, hf, r⟩
  refine ⟨b, o, rfl, hf, fun i hi => ?_⟩
  rw [World.cell?_setCell_other, World.cell?_setCell_other]
  · exact r i hi
  · intro e; rw [e] at hp; simp at hp; omega
  · intro e; rw [e] at hp; simp at hp; omega
theorem plF_alloc {F : Nat} {w : World} {a : Option Addr} {n : Nat} {ps : List (Int × Int)} (o : Obj) (h : PlF F w a n ps) : PlF F (w.alloc o) a n ps :=
  ⟨h.1, h.2.imp id fun ⟨b, f, e, hf, r⟩ => ⟨b, f, e, hf, prowA o r⟩⟩
theorem plF_below {F : Nat} {w w' : World} {a : Option Addr} {n : Nat} {ps : List (Int × Int)} (hb : Below w.heap.size w w') (h : PlF F w a n ps) : PlF F w' a n ps :=
  ⟨h.1, h.2.imp id fun ⟨b, f, e, hf, r⟩ => ⟨b, f, e, hf, prowB hb r⟩⟩
theorem plF_mono {F G : Nat} {w : World} {a : Option Addr} {n : Nat} {ps : List (Int × Int)} (hg : G ≤ F) (h : PlF F w a n ps) : PlF G w a n ps :=
  ⟨h.1, h.2.imp id fun ⟨b, f, e, hf, r⟩ => ⟨b, f, e, by omega, r⟩⟩

/-- the cells of puts, one behind the other -/
def pcells (ps : List (Int × Int)) : List Value := ps.flatMap fun p => [.int .i64 p.1, .int .i64 p.2]
theorem pcells_append (ps qs : List (Int × Int)) : pcells (ps ++ qs) = pcells ps ++ pcells qs := by simp [pcells]
theorem pcells_length (ps : List (Int × Int)) : (pcells ps).length = ps.length * 2 := by
  induction ps with
  | nil => rfl
  | cons p ps ih => simp only [pcells, List.flatMap_cons, List.length_append, List.length_cons, List.length_nil] at ih ⊢; omega
theorem pcells_get : ∀ (ps : List (Int × Int)) (i : Nat), i < ps.length → (pcells ps)[i * 2]? = some (.int .i64 (ps.getD i (0, 0)).1) ∧ (pcells ps)[i * 2 + 1]? = some (.int .i64 (ps.getD i (0, 0)).2)
  | [], i, h => by simp at h
  | p :: ps, 0, _ => by simp [pcells]
  | p :: ps, i + 1, h => by
    have ih := pcells_get ps i (by simpa using h)
    have e : pcells (p :: ps) = .int .i64 p.1 :: .int .i64 p.2 :: pcells ps := rfl
    rw [e, show (i + 1) * 2 = i * 2 + 1 + 1 by omega]
    simpa using ih
theorem pcells_one (ps : List (Int × Int)) : ∀ u ∈ pcells ps, u.oneCell' = true := by
  intro u hu
  simp only [pcells, List.mem_flatMap] at hu
  obtain ⟨p, _, hp⟩ := hu
  simp at hp
  rcases hp with rfl | rfl <;> rfl
theorem pcells_cell {w : World} {b off : Nat} {ps : List (Int × Int)} (R : PRow w b off ps) : ∀ j u, (pcells ps)[j]? = some u → w.cell? ⟨b, off + j, none⟩ = some u := by
  intro j u hu
  have hj : j < (pcells ps).length := (List.getElem?_eq_some_iff.1 hu).1
  rw [pcells_length] at hj
  have hg := pcells_get ps (j / 2) (by omega)
  have hr := R (j / 2) (by omega)
  rcases Nat.mod_two_eq_zero_or_one j with h | h
  · have e : j / 2 * 2 = j := by omega
    rw [e] at hg hr
    rw [hg.1] at hu
    rw [hr.1]; exact hu
  · have e : j / 2 * 2 + 1 = j := by omega
    rw [Nat.add_assoc, e] at hr
    rw [e] at hg
    rw [hg.2] at hu
    rw [hr.2]; exact hu
theorem add_none (b off j : Nat) : (⟨b, off, none⟩ : Addr).add j = ⟨b, off + j, none⟩ := by
  simp only [Addr.add]; split
  · subst_vars; rfl
  · rfl
/-- a slice's length and capacity -/
def CapOk (a : Option Addr) (n c : Nat) : Prop := n ≤ c ∧ c ≤ 9223372036854775807 ∧ (a = none → c = 0)
theorem capOk_nil : CapOk none 0 0 := ⟨Nat.le_refl _, by omega, fun _ => rfl⟩
/-- what the frame of a statement's proof tells of a slice of puts that came in -/
def IsPuts (w : World) (a : Option Addr) (len cap : Nat) (ps : List (Int × Int)) : Prop :=
  (a = none ∧ len = 0 ∧ cap = 0 ∧ ps = []) ∨
  ∃ x, a = some x ∧ len ≤ cap ∧ cap ≤ maxLen ∧ ps.length = len ∧ (∀ i, i < ps.length → w.cell? (x.add (i * 2)) = some (.int .i64 (ps.getD i (0, 0)).1) ∧ w.cell? (x.add (i * 2 + 1)) = some (.int .i64 (ps.getD i (0, 0)).2)) ∧ ∀ p ∈ ps, (Lit.int .i64 p.1).wf = true
def Wfs (ps : List (Int × Int)) : Prop := ∀ i, i < ps.length → (Lit.int .i64 (ps.getD i (0, 0)).1).wf = true
theorem isPuts_pl {w : World} {a : Option Addr} {len cap : Nat} {ps : List (Int × Int)} (h : IsPuts w a len cap ps) (k : Nat) (hk : k ≤ len) : Pl w a k (ps.take k) ∧ Wfs (ps.take k) ∧ CapOk a k cap := by
  rcases h with ⟨rfl, rfl, rfl, rfl⟩ | ⟨x, rfl, hl, hm, hz, hcell, hwf⟩
  · obtain rfl : k = 0 := by omega
    exact ⟨⟨rfl, .inl rfl⟩, by intro i hi; simp at hi, capOk_nil⟩
  · unfold maxLen at hm
    refine ⟨⟨by rw [List.length_take]; omega, ?_⟩, ?_, by omega, by omega, fun e => by cases e⟩
    · by_cases h0 : k = 0
      · exact .inl h0
      · right
        obtain ⟨b, o, s⟩ := x
        have hc := (hcell 0 (by omega)).1
        have hs : s = none := by simpa [Addr.add] using World.cell?_spot hc
        subst hs
        refine ⟨b, o, rfl, fun i hi => ?_⟩
        rw [List.length_take] at hi
        have := hcell i (by omega)
        rw [add_none, add_none] at this
        have e : (ps.take k).getD i (0, 0) = ps.getD i (0, 0) := by
          simp only [List.getD_eq_getElem?_getD, List.getElem?_take]
          rw [if_pos (by omega)]
        rw [e, Nat.add_assoc]
        exact this
    · intro i hi
      rw [List.length_take] at hi
      have e : (ps.take k).getD i (0, 0) = ps.getD i (0, 0) := by
        simp only [List.getD_eq_getElem?_getD, List.getElem?_take]
        rw [if_pos (by omega)]
      rw [e]
      have h1 : i < ps.length := by omega
      have h2 : ps.getD i (0, 0) = ps[i] := by simp [h1]
      rw [h2]
      exact hwf _ (List.getElem_mem h1)
end Go.Proofs.Ytnkhgofpdgnemaa
