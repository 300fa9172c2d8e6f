/- Contracts of slices.Clone (of integers, of puts), buffer.Push, buffer.Pop. -/
import Derived.Test.YtnkhgofpdgnemaaBaseP
import Derived.Test.YtnkhgofpdgnemaaRefA
import Derived.Deep.RegionLawGrows
import Derived.Deep.RegionWith
import Derived.WalkSpells
namespace Go.Proofs.Ytnkhgofpdgnemaa
open Go.ChangeShapes Go.WideShapes Go.ChangeAt Go.RowKit

def ClonePost (zs : List Int) (w : World) (e : Ending) (w' : World) : Prop := ∃ a c, e = .returned (.slice a zs.length c) ∧ SlF w.heap.size w' a zs.length zs ∧ Below w.heap.size w w'
theorem clonePost_mk {zs : List Int} {w w' : World} {v : Value} {n : Nat} (hn : zs.length = n) (h : w'.ownsRow w.heap.size 3 1 v n (zs.map (Value.int .i64))) (hb : Below w.heap.size w w') : ClonePost zs w (.returned v) w' := by
  subst hn
  obtain ⟨a, c, rfl, hs⟩ := ownsRow_slF h
  exact ⟨a, c, rfl, hs, hb⟩
theorem row_cells {w : World} {b off : Nat} {zs : List Int} (R : Row w b off zs) : ∀ j u, (zs.map (Value.int .i64))[j]? = some u → w.cell? ((⟨b, off, none⟩ : Addr).add j) = some u := by
  intro j u hu
  rw [add_none]
  have hj : j < zs.length := by simpa using (List.getElem?_eq_some_iff.1 hu).1
  rw [R j hj]
  simp [hj] at hu
  simp [hj, hu]

theorem eql_nil (t e : TypeId) (a : Option Addr) (n c : Nat) (h : Try.prog.underlying t = some (.slice e)) (w : World) : (binOp .eql t (.slice a n c) (.slice none 0 0)).run Try.prog w = .ok (.bool a.isNone) w := by
  simp only [binOp]
  simp [Op.equal, Op.maxDepth, Lib.run_equalIn_slice_nil w 9999 t e a n c 0 0 h]

set_option maxHeartbeats 2000000 in
theorem cloneI_any (a : Option Addr) (n c : Nat) (zs : List Int) (w : World) (S : Sl w a n zs) (hn : n ≤ 1000) (ha : n ≠ 0 ∨ (a = none ∧ c = 0)) :
    Calls Try.prog 29 #[.slice a n c] w (ClonePost zs w) := by
  obtain ⟨i0, hi, hz0, hz1, hz2⟩ := info_parts Try.info3
  have HI := Lib.hid (And.intro hi (And.intro hz0 (And.intro hz1 hz2)))
  have Hn := Lib.hid S.1
  clear hi hz0 hz1 hz2
  by_cases h0 : n = 0
  · obtain ⟨rfl, rfl⟩ := ha.resolve_left (by omega)
    subst h0
    obtain rfl : zs = [] := List.eq_nil_of_length_eq_zero Hn.out
    have q := fun w => eql_nil 22 3 none 0 0 Try.underlying22 w
    go_enter Try.func29, Try.ntmps29
    go_wp2
    go_ret
    exact ⟨none, 0, rfl, slF_nil _ _, Below.refl _ _⟩
  · obtain ⟨b, o, rfl, R⟩ := S.2.resolve_left h0
    have q := fun w => eql_nil 22 3 (some ⟨b, o, none⟩) n c Try.underlying22 w
    go_enter Try.func29, Try.ntmps29
    go_wp2_with (at_builtin; refine wpList_append_own _ rfl _ _ 22 rfl w.heap.size 3 i0 (.int .i64 0) 1 8 Try.underlying22 HI.out.1 HI.out.2.1 HI.out.2.2.1 HI.out.2.2.2 rfl (by decide) _ 0 [] rfl (World.ownsRow_made w #[] 0 (Nat.le_refl _) (by decide) (by simp)) ⟨b, o, none⟩ n c (zs.map (Value.int .i64)) rfl ?c1 ?c2 ?c3 ?c4 ?c5 ?c6 ?_)
    case c1 => simp [Hn.out]
    case c2 => exact row_cells (rowA _ R)
    case c3 => intro v hv; simp at hv; obtain ⟨z, _, rfl⟩ := hv; rfl
    case c4 => unfold maxLen; omega
    case c5 => omega
    case c6 => simp
    intro v' w1 hown' hgrow _
    have hb' := ((Below.refl w.heap.size w).alloc (Nat.le_refl _) (.cells #[] 3)).grown hgrow (by simp) (fun r hr => by cases hr; simp)
    have HO := Lib.hid hown'
    have HB := Lib.hid hb'
    clear hown' hb' hgrow
    go_wp2
    go_ret
    exact clonePost_mk Hn.out HO.out HB.out

def ClonePPost (ps : List (Int × Int)) (w : World) (e : Ending) (w' : World) : Prop := ∃ a c, e = .returned (.slice a ps.length c) ∧ CapOk a ps.length c ∧ PlF w.heap.size w' a ps.length ps ∧ Below w.heap.size w w'
theorem prow_cells {w : World} {b off : Nat} {ps : List (Int × Int)} (R : PRow w b off ps) : ∀ j u, (pcells ps)[j]? = some u → w.cell? ((⟨b, off, none⟩ : Addr).add j) = some u := by
  intro j u hu
  rw [add_none]
  exact pcells_cell R j u hu
theorem prow_nil (w : World) (b off : Nat) : PRow w b off [] := fun i hi => by simp at hi

/-- a slice of puts and an error -/
def PushPost (ps : List (Int × Int)) (x : Int) (w : World) (e : Ending) (w' : World) : Prop := ∃ a c, e = .returned (.tuple #[.slice a ps.length c, .int .i64 x]) ∧ CapOk a ps.length c ∧ PlF w.heap.size w' a ps.length ps ∧ Below w.heap.size w w'
theorem pushPost_nil {x : Int} {ps : List (Int × Int)} (he : ps = []) {w w' : World} (hb : Below w.heap.size w w') : PushPost ps x w (.returned (.tuple #[.slice none 0 0, .int .i64 x])) w' := by
  subst he; exact ⟨none, 0, rfl, capOk_nil, plF_nil _ _, hb⟩

theorem grown_key {w W w1 : World} (hg : W.grownBy w1 none) (hb : Below w.heap.size w W) : Below w.heap.size w w1 ∧ w.heap.size ≤ W.heap.size :=
  ⟨hb.grown hg hb.size (fun _ hr => by cases hr), hb.size⟩
theorem put_cells {W : World} {g : Nat} {x y : Int} (k0 : W.cell? ⟨g, 0, none⟩ = some (.int .i64 x)) (k1 : W.cell? ⟨g, 1, none⟩ = some (.int .i64 y)) : ∀ j u, (pcells [(x, y)])[j]? = some u → W.cell? ((⟨g, 0, none⟩ : Addr).add j) = some u := by
  intro j u hu
  rw [add_none, Nat.zero_add]
  have hj : j < 2 := (List.getElem?_eq_some_iff.1 hu).1
  have : j = 0 ∨ j = 1 := by omega
  rcases this with rfl | rfl
  · simp [pcells] at hu; subst hu; exact k0
  · simp [pcells] at hu; subst hu; exact k1

end Go.Proofs.Ytnkhgofpdgnemaa
