/- Plain functions on machines that say what package tso answers; nothing of the program is imported. -/
import Derived.Test.YteojpdhmhjoeiaaMathP
namespace Go.Proofs.Yteojpdhmhjoeiaa

def sizesB (n D : Int) : Bool := decide (1 ≤ n ∧ n ≤ 8 ∧ 0 ≤ D ∧ D ≤ 8)
def inP (N : Nat) (p : Int × Int) : Bool := decide (0 ≤ p.1 ∧ p.1 < N)
def bufB (N : Nat) (D : Int) (b : List (Int × Int)) : Bool := decide ((b.length : Int) ≤ D) && b.all (inP N)
def mayT (ws ts : List Int) (D : Int) (bs : List (List (Int × Int))) : Bool := mayB ws ts && sizesB bs.length D && bs.all (bufB ws.length D)
theorem mayT_parts {ws ts : List Int} {D : Int} {bs : List (List (Int × Int))} (h : mayT ws ts D bs = true) :
    mayB ws ts = true ∧ (1 ≤ bs.length ∧ bs.length ≤ 8) ∧ (0 ≤ D ∧ D ≤ 8) ∧ ∀ i, i < bs.length → (((bs.getD i []).length : Int) ≤ D ∧ ∀ j, j < (bs.getD i []).length → 0 ≤ ((bs.getD i []).getD j (0, 0)).1 ∧ ((bs.getD i []).getD j (0, 0)).1 < ws.length) := by
  simp only [mayT, sizesB, Bool.and_eq_true, decide_eq_true_eq, List.all_eq_true] at h
  obtain ⟨⟨h1, h2⟩, h3⟩ := h
  refine ⟨h1, by omega, by omega, fun i hi => ?_⟩
  have e : bs.getD i [] = bs[i] := by simp [hi]
  have hb := h3 _ (List.getElem_mem hi)
  rw [← e] at hb
  simp only [bufB, Bool.and_eq_true, decide_eq_true_eq, List.all_eq_true, inP] at hb
  refine ⟨hb.1, fun j hj => ?_⟩
  have e2 : (bs.getD i []).getD j (0, 0) = (bs.getD i [])[j] := by
    generalize bs.getD i [] = b at hj ⊢
    simp [hj]
  rw [e2]
  exact hb.2 _ (List.getElem_mem hj)

/-! loops over buffers -/
def BufsTo (N : Nat) (D : Int) (bs : List (List (Int × Int))) (k : Nat) : Prop := ∀ i, i < k → bufB N D (bs.getD i []) = true
def PutsTo (N : Nat) (b : List (Int × Int)) (k : Nat) : Prop := ∀ i, i < k → inP N (b.getD i (0, 0)) = true
theorem putsTo_succ {N : Nat} {b : List (Int × Int)} {k : Nat} (h : PutsTo N b k) (h1 : inP N (b.getD k (0, 0)) = true) : PutsTo N b (k + 1) := by
  intro i hi
  by_cases e : i = k
  · subst e; exact h1
  · exact h i (by omega)
theorem bufsTo_succ {N : Nat} {D : Int} {bs : List (List (Int × Int))} {k : Nat} (h : BufsTo N D bs k) (h1 : bufB N D (bs.getD k []) = true) : BufsTo N D bs (k + 1) := by
  intro i hi
  by_cases e : i = k
  · subst e; exact h1
  · exact h i (by omega)
theorem bufB_done {N : Nat} {D : Int} {b : List (Int × Int)} (hl : (b.length : Int) ≤ D) (h : PutsTo N b b.length) : bufB N D b = true := by
  simp only [bufB, Bool.and_eq_true, decide_eq_true_eq, List.all_eq_true]
  refine ⟨hl, fun p hp => ?_⟩
  obtain ⟨i, hi, rfl⟩ := List.mem_iff_getElem.1 hp
  have := h i hi
  simpa [hi] using this
theorem bufB_put {N : Nat} {D : Int} {b : List (Int × Int)} {k : Nat} (hk : k < b.length) (h : inP N (b.getD k (0, 0)) = false) : bufB N D b = false := by
  have e : b.getD k (0, 0) = b[k] := by simp [hk]
  rw [e] at h
  have : b.all (inP N) = false := List.all_eq_false.2 ⟨b[k], List.getElem_mem hk, by rw [h]; decide⟩
  simp [bufB, this]
theorem mayT_buf {ws ts : List Int} {D : Int} {bs : List (List (Int × Int))} {k : Nat} (hk : k < bs.length) (h : bufB ws.length D (bs.getD k []) = false) : mayT ws ts D bs = false := by
  have e : bs.getD k [] = bs[k] := by simp [hk]
  rw [e] at h
  have : bs.all (bufB ws.length D) = false := List.all_eq_false.2 ⟨bs[k], List.getElem_mem hk, by rw [h]; decide⟩
  simp [mayT, this]
theorem mayT_done {ws ts : List Int} {D : Int} {bs : List (List (Int × Int))} (hm : mayB ws ts = true) (hs : sizesB bs.length D = true) (h : BufsTo ws.length D bs bs.length) : mayT ws ts D bs = true := by
  simp only [mayT, hm, hs, Bool.true_and, List.all_eq_true]
  intro b hb
  obtain ⟨i, hi, rfl⟩ := List.mem_iff_getElem.1 hb
  have := h i hi
  simpa [hi] using this

/-! what is seen, and made -/
def loadTV (ws ts : List Int) (b : List (Int × Int)) (x : Int) : Int := if usableZ ws ts x = 0 then (newest b x).getD (loadZ ws ts x) else 0
def thB (bs : List (List (Int × Int))) (th : Int) : Bool := decide (0 ≤ th ∧ th < bs.length)

/-- one buffer is another one -/
def withB (bs : List (List (Int × Int))) (i : Int) (b : List (Int × Int)) (k : Nat) : List (Int × Int) := if (k : Int) = i then b else bs.getD k []
def withBs (bs : List (List (Int × Int))) (i : Int) (b : List (Int × Int)) : Nat → List (List (Int × Int))
  | 0 => []
  | k + 1 => withBs bs i b k ++ [withB bs i b k]
theorem withBs_length (bs : List (List (Int × Int))) (i : Int) (b : List (Int × Int)) (k : Nat) : (withBs bs i b k).length = k := by
  induction k with
  | zero => rfl
  | succ k ih => simp [withBs, ih]
theorem withBs_get (bs : List (List (Int × Int))) (i : Int) (b : List (Int × Int)) (k j : Nat) (hj : j < k) : (withBs bs i b k).getD j [] = withB bs i b j := by
  induction k with
  | zero => omega
  | succ k ih =>
    simp only [withBs, List.getD_eq_getElem?_getD]
    by_cases e : j = k
    · subst e
      rw [List.getElem?_append_right (by rw [withBs_length]; omega)]
      simp [withBs_length]
    · rw [List.getElem?_append_left (by rw [withBs_length]; omega)]
      have := ih (by omega)
      simpa only [List.getD_eq_getElem?_getD] using this
theorem withBs_set (bs : List (List (Int × Int))) (i : Nat) (b : List (Int × Int)) : withBs bs i b bs.length = bs.set i b := by
  apply List.ext_getElem
  · simp [withBs_length]
  · intro j h1 h2
    have hj : j < bs.length := by simpa using h2
    have e1 : (withBs bs i b bs.length)[j] = (withBs bs i b bs.length).getD j [] := by simp [h1]
    have e2 : (bs.set i b)[j] = (bs.set i b).getD j [] := by simp [hj]
    rw [e1, e2, withBs_get _ _ _ _ _ hj]
    simp only [withB, List.getD_eq_getElem?_getD, List.getElem?_set]
    by_cases e : i = j
    · subst e; simp [hj]
    · rw [if_neg (by omega), if_neg e]

/-! what the calls answer -/
def newTE (ws ts : List Int) (n D : Int) : Int := if mayB ws ts = true then (if sizesB n D = true then 0 else 2) else 1
def newTW (ws ts : List Int) (n D : Int) : List Int := if newTE ws ts n D = 0 then ws else []
def newTT (ws ts : List Int) (n D : Int) : List Int := if newTE ws ts n D = 0 then ts else []
def newTD (ws ts : List Int) (n D : Int) : Int := if newTE ws ts n D = 0 then D else 0
def newTB (ws ts : List Int) (n D : Int) : List (List (Int × Int)) := if newTE ws ts n D = 0 then List.replicate n.toNat [] else []
theorem newT_ok {ws ts : List Int} {n D : Int} (hm : mayB ws ts = true) (hs : sizesB n D = true) : newTE ws ts n D = 0 ∧ newTW ws ts n D = ws ∧ newTT ws ts n D = ts ∧ newTD ws ts n D = D ∧ newTB ws ts n D = List.replicate n.toNat [] := by
  have h : newTE ws ts n D = 0 := by rw [newTE, if_pos hm, if_pos hs]
  refine ⟨h, ?_, ?_, ?_, ?_⟩
  · rw [newTW, if_pos h]
  · rw [newTT, if_pos h]
  · rw [newTD, if_pos h]
  · rw [newTB, if_pos h]
theorem newT_no {ws ts : List Int} {n D : Int} (h : newTE ws ts n D ≠ 0) : newTW ws ts n D = [] ∧ newTT ws ts n D = [] ∧ newTD ws ts n D = 0 ∧ newTB ws ts n D = [] := by
  refine ⟨?_, ?_, ?_, ?_⟩
  · rw [newTW, if_neg h]
  · rw [newTT, if_neg h]
  · rw [newTD, if_neg h]
  · rw [newTB, if_neg h]
theorem may_replicate {ws ts : List Int} {D : Int} {k : Nat} (hm : mayB ws ts = true) (hs : sizesB k D = true) : mayT ws ts D (List.replicate k []) = true := by
  have h0 : 0 ≤ D := by simp only [sizesB, decide_eq_true_eq] at hs; omega
  simp only [mayT, hm, List.length_replicate, hs, Bool.true_and, List.all_eq_true, List.mem_replicate]
  rintro b ⟨_, rfl⟩
  simp [bufB, h0]

/-- the machine may be, and has the thread -/
def hasB (ws ts : List Int) (D : Int) (bs : List (List (Int × Int))) (th : Int) : Bool := mayT ws ts D bs && thB bs th
def bufOf (bs : List (List (Int × Int))) (th : Int) : List (Int × Int) := bs.getD th.toNat []
theorem hasB_parts {ws ts : List Int} {D : Int} {bs : List (List (Int × Int))} {th : Int} (h : hasB ws ts D bs th = true) : mayT ws ts D bs = true ∧ 0 ≤ th ∧ th < bs.length := by
  simp only [hasB, thB, Bool.and_eq_true, decide_eq_true_eq] at h; exact ⟨h.1, h.2.1, h.2.2⟩
def loadTE (ws ts : List Int) (D : Int) (bs : List (List (Int × Int))) (th x : Int) : Int := if hasB ws ts D bs th = true then usableZ ws ts x else 1
def loadT (ws ts : List Int) (D : Int) (bs : List (List (Int × Int))) (th x : Int) : Int := if loadTE ws ts D bs th x = 0 then (newest (bufOf bs th) x).getD (loadZ ws ts x) else 0
def storeTE (ws ts : List Int) (D : Int) (bs : List (List (Int × Int))) (th x : Int) : Int := if hasB ws ts D bs th = true then (if usableZ ws ts x = 0 then (if D = 0 then 0 else if ((bufOf bs th).length : Int) = D then 7 else 0) else usableZ ws ts x) else 1
def storeTW (ws : List Int) (D : Int) (x v : Int) : List Int := if D = 0 then ws.set x.toNat v else ws
def storeTB (D : Int) (bs : List (List (Int × Int))) (th x v : Int) : List (List (Int × Int)) := if D = 0 then bs else bs.set th.toNat (bufOf bs th ++ [(x, v)])
def flushTE (ws ts : List Int) (D : Int) (bs : List (List (Int × Int))) (th : Int) : Int := if hasB ws ts D bs th = true then (if bufOf bs th = [] then 8 else usableZ ws ts (firstP (bufOf bs th)).1) else 1
def flushTW (ws : List Int) (bs : List (List (Int × Int))) (th : Int) : List Int := ws.set (firstP (bufOf bs th)).1.toNat (firstP (bufOf bs th)).2
def flushTB (bs : List (List (Int × Int))) (th : Int) : List (List (Int × Int)) := bs.set th.toNat (restP (bufOf bs th))
/-- a machine, or nothing if it was refused -/
def okL {α : Type} (e : Int) (l : List α) : List α := if e = 0 then l else []
def okZ (e : Int) (z : Int) : Int := if e = 0 then z else 0
theorem okL_pos {α : Type} {e : Int} (h : e = 0) (l : List α) : okL e l = l := if_pos h
theorem okL_neg {α : Type} {e : Int} (h : e ≠ 0) (l : List α) : okL e l = [] := if_neg h
theorem okZ_pos {e : Int} (h : e = 0) (z : Int) : okZ e z = z := if_pos h
theorem okZ_neg {e : Int} (h : e ≠ 0) (z : Int) : okZ e z = 0 := if_neg h
end Go.Proofs.Yteojpdhmhjoeiaa
