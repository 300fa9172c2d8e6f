/- Contracts of the document's own answers of layer 2 (package respiteref02): May, Newest, Same, Push, Rest. -/
import Derived.Test.YteojpdhmhjoeiaaBufA
namespace Go.Proofs.Yteojpdhmhjoeiaa
open Go.ChangeShapes Go.WideShapes Go.ChangeAt Go.RowKit

def mayP (n : Nat) (depth : Int) : Bool := decide (0 ≤ depth ∧ depth ≤ 8 ∧ (n : Int) ≤ depth)
theorem newestV_snoc (ps : List (Int × Int)) (k : Nat) (x : Int) (h : k < ps.length) (p : Int × Int) (hp : ps.getD k (0, 0) = p) :
    (p.1 = x → newestV (ps.take (k + 1)) x = p.2 ∧ newestB (ps.take (k + 1)) x = true) ∧ (p.1 ≠ x → newestV (ps.take (k + 1)) x = newestV (ps.take k) x ∧ newestB (ps.take (k + 1)) x = newestB (ps.take k) x) := by
  subst hp
  simp only [newestV, newestB, newest_take ps k x h]
  constructor
  · intro e; rw [if_pos e]; exact ⟨rfl, rfl⟩
  · intro e; rw [if_neg e]; exact ⟨rfl, rfl⟩

def NewPost (v : Int) (i : Bool) (w : World) (e : Ending) (w' : World) : Prop := e = .returned (.tuple #[.int .i64 v, .bool i]) ∧ Below w.heap.size w w'
theorem newPost_mk {v z : Int} {i t : Bool} {w w' : World} (h1 : v = z) (h2 : i = t) (hb : Below w.heap.size w w') : NewPost v i w (.returned (.tuple #[.int .i64 z, .bool t])) w' := by subst h1; subst h2; exact ⟨rfl, hb⟩
theorem neq_put (x y x' y' : Int) (w : World) : (binOp .neq 69 (.agg #[.int .i64 x, .int .i64 y]) (.agg #[.int .i64 x', .int .i64 y'])).run Try.prog w = .ok (.bool (!(x == x' && y == y'))) w := by
  simp [go_sem, binOp, Op.equal, Op.maxDepth]
  by_cases h1 : x = x'
  · by_cases h2 : y = y'
    · simp [h1, h2]
    · simp [h1, h2]
  · simp [h1]
theorem eql_put (x y x' y' : Int) (w : World) : (binOp .eql 69 (.agg #[.int .i64 x, .int .i64 y]) (.agg #[.int .i64 x', .int .i64 y'])).run Try.prog w = .ok (.bool (x == x' && y == y')) w := by
  simp [go_sem, binOp, Op.equal, Op.maxDepth]
  by_cases h1 : x = x'
  · by_cases h2 : y = y'
    · simp [h1, h2]
    · simp [h1, h2]
  · simp [h1]

def BoolPost (r : Bool) (w : World) (e : Ending) (w' : World) : Prop := e = .returned (.bool r) ∧ Below w.heap.size w w'
theorem boolPost_mk {r s : Bool} {w w' : World} (h : r = s) (hb : Below w.heap.size w w') : BoolPost r w (.returned (.bool s)) w' := by subst h; exact ⟨rfl, hb⟩

set_option maxHeartbeats 2000000 in
theorem refSameP_any (a b : Option Addr) (n c m d : Nat) (xs ys : List (Int × Int)) (w : World) (S1 : Pl w a n xs) (S2 : Pl w b m ys) (hn : n ≤ 9223372036854775807) :
    Calls Try.prog 30 #[.slice a n c, .slice b m d] w (BoolPost (samePB xs ys) w) := by
  have Hx := Lib.hid S1.1
  have Hy := Lib.hid S2.1
  by_cases hl : m = n
  · subst hl
    have q : ((m : Int) != m) = false := by simp
    go_enter Try.func30, Try.ntmps30
    go_wp2
    go_loopw [13] (fun s wr => ∃ k : Nat, k ≤ m ∧ s = .int .i64 k ∧ Hid (SamePTo xs ys k) ∧ Below w.heap.size w wr) (fun s _ => m - (intOf s).toNat)
    case atStart => exact ⟨0, by omega, rfl, by intro j hj; omega, Below.refl _ _⟩
    case round =>
      obtain ⟨k, hk, rfl, hs, hb⟩ := hrel
      by_cases hlt : k < m
      · obtain ⟨b1, o1, rfl, R1⟩ := S1.2.resolve_left (by omega)
        obtain ⟨b2, o2, rfl, R2⟩ := S2.2.resolve_left (by omega)
        have g1 := cellB hb (R1 k (by rw [Hx.out]; exact hlt)).1
        have g2 := cellB hb (R1 k (by rw [Hx.out]; exact hlt)).2
        have g3 := cellB hb (R2 k (by rw [Hy.out]; exact hlt)).1
        have g4 := cellB hb (R2 k (by rw [Hy.out]; exact hlt)).2
        obtain ⟨x, hxv⟩ : ∃ x, xs.getD k (0, 0) = x := ⟨_, rfl⟩
        obtain ⟨y, hyv⟩ : ∃ y, ys.getD k (0, 0) = y := ⟨_, rfl⟩
        rw [hxv] at g1 g2
        rw [hyv] at g3 g4
        obtain ⟨x1, x2⟩ := x
        obtain ⟨y1, y2⟩ := y
        have HX := Lib.hid hxv
        have HY := Lib.hid hyv
        have HB := Lib.hid hb
        have i1 : (0 : Int) ≤ k := by omega
        have i2 : (k : Int) < m := by omega
        dsimp only at g1 g2 g3 g4
        clear hxv hyv hb
        have q4 := fun w => neq_put x1 x2 y1 y2 w
        by_cases e : x1 = y1 ∧ x2 = y2
        · obtain ⟨rfl, rfl⟩ := e
          have HS := Lib.hid (samePTo_succ hs.out (HX.out.trans HY.out.symm))
          have q2 : (x1 == x1 && x2 == x2) = true := by simp
          go_wp2
          go_quiet (fail)
          go_wp2
          go_roundw
          case rel => exact ⟨k + 1, by omega, by go_num, HS.out, below_drewN HB.out _⟩
          case measure => simp [intOf]; omega
        · have HF := Lib.hid (samePB_at (xs := xs) (ys := ys) k (by rw [HX.out, HY.out]; intro h; cases h; exact e ⟨rfl, rfl⟩))
          have q2 : (x1 == y1 && x2 == y2) = false := by
            rw [Bool.eq_false_iff]; intro h; simp at h; exact e h
          clear e
          go_wp2
          go_quiet (fail)
          go_wp2
          go_ret
          exact boolPost_mk HF.out (below_drewN HB.out _)
      · obtain rfl : k = m := by omega
        have HF := Lib.hid (samePB_all (xs := xs) (ys := ys) (by rw [Hx.out, Hy.out]) (by rw [Hx.out]; exact hs.out))
        go_wp2
        go_ret
        exact boolPost_mk HF.out hb
  · have HF := Lib.hid (samePB_len (xs := xs) (ys := ys) (by rw [Hx.out, Hy.out]; omega))
    have q : ((n : Int) != m) = true := by simp; omega
    clear hl
    go_enter Try.func30, Try.ntmps30
    go_wp2
    go_ret
    exact boolPost_mk HF.out (Below.refl _ _)

def PutsPost (ps : List (Int × Int)) (w : World) (e : Ending) (w' : World) : Prop := ∃ a c, e = .returned (.slice a ps.length c) ∧ CapOk a ps.length c ∧ PlF w.heap.size w' a ps.length ps ∧ Below w.heap.size w w'
theorem putsPost_mk {ps qs : List (Int × Int)} {w w' : World} {v : Value} {n : Nat} (hq : qs = ps) (hn : ps.length = n) (h : w'.ownsRow w.heap.size 69 2 v n (pcells ps)) (hb : Below w.heap.size w w') : PutsPost qs w (.returned v) w' := by
  subst hq
  subst hn
  obtain ⟨a, c, rfl, hc, hs⟩ := ownsRow_plF h
  exact ⟨a, c, rfl, hc, hs, hb⟩

theorem pl_cells {w : World} {p : Addr} {n : Nat} {ps : List (Int × Int)} (S : Pl w (some p) n ps) : ∀ W, Below w.heap.size w W → ∀ j u, (pcells ps)[j]? = some u → W.cell? (p.add j) = some u := by
  intro W hW j u hu
  have hj : j < ps.length * 2 := by rw [← pcells_length]; exact (List.getElem?_eq_some_iff.1 hu).1
  obtain ⟨b, o, e, R⟩ := S.2.resolve_left (by have := S.1; omega)
  cases e
  rw [add_none]
  exact pcells_cell (prowB hW R) j u hu
def restN (ps : List (Int × Int)) (k : Nat) : List (Int × Int) := (ps.take k).drop 1
theorem restN_one (ps : List (Int × Int)) (k : Nat) (h : k ≤ 1) : restN ps k = [] := by
  rw [restN]; apply List.drop_eq_nil_of_le; rw [List.length_take]; omega
theorem restN_succ (ps : List (Int × Int)) (k : Nat) (hk : 1 ≤ k) (h : k < ps.length) {p : Int × Int} (hp : ps.getD k (0, 0) = p) : restN ps (k + 1) = restN ps k ++ [p] := by
  subst hp
  rw [restN, restN, take_snocP ps k h, List.drop_append_of_le_length (by rw [List.length_take]; omega)]
theorem restN_all (ps : List (Int × Int)) : restN ps ps.length = restP ps := by rw [restN, List.take_length, restP]
theorem restN_len (ps : List (Int × Int)) (k : Nat) (h : k ≤ ps.length) : (restN ps k).length = k - 1 := by rw [restN, List.length_drop, List.length_take]; omega

end Go.Proofs.Yteojpdhmhjoeiaa
