/- RefA, RefB, BufA, RefN, put together. -/
import Derived.Test.YtcpebnafoalhnaaM3
import Derived.Test.YtcpebnafoalhnaaM1
import Derived.WalkSmall
import Derived.Deep.RegionLawGrows
import Derived.Deep.RegionWith
import Derived.WalkSpells
/- Contracts of the document's own answers of layer 1 (package respiteref01). -/
namespace Go.Proofs.Ytcpebnafoalhnaa
open Go.ChangeShapes Go.WideShapes Go.ChangeAt Go.RowKit

/-- what a slice of the call's own holds -/
theorem ownsRow_slF {B : Nat} {w : World} {v : Value} {n : Nat} {zs : List Int} (h : w.ownsRow B 3 1 v n (zs.map (Value.int .i64))) : ∃ a c, v = .slice a n c ∧ SlF B w a n zs := by
  obtain ⟨hl, h⟩ := h
  have hl' : zs.length = n := by simpa using hl
  rcases h with ⟨rfl, h0⟩ | ⟨g, cap, cur, rfl, hb, hg, hn, hm, hs, ht⟩
  · exact ⟨none, 0, by rw [h0], hl', .inl h0⟩
  · refine ⟨_, _, rfl, hl', .inr ⟨g, 0, rfl, hb, fun i hi => ?_⟩⟩
    simp only [World.cell?, hg]
    have e : (zs.map (Value.int .i64))[i]? = some (.int .i64 (zs.getD i 0)) := by simp [hi]
    rw [← ht, List.getElem?_take, if_pos (by omega)] at e
    simpa using e

theorem cell_one (w : World) (x : Value) (t : TypeId) : ∀ j u, [x][j]? = some u → (w.alloc (.cells #[x] t)).cell? ((⟨w.heap.size, 0, none⟩ : Addr).add j) = some u := by
  intro j u h
  obtain rfl : j = 0 := by
    have := (List.getElem?_eq_some_iff.1 h).1
    simp at this; omega
  simp at h
  subst h
  simp [Addr.add]
def WithC (zs : List Int) (i x : Int) (k : Nat) : List Value := (withN zs i x k).map (Value.int .i64)
theorem WithC_succ (zs : List Int) (i x : Int) (k : Nat) {y : Int} (h : withE zs i x k = y) : WithC zs i x (k + 1) = WithC zs i x k ++ [.int .i64 y] := by
  simp [WithC, withN, h]
def WithPost (zs : List Int) (w : World) (e : Ending) (w' : World) : Prop := ∃ a c, e = .returned (.slice a zs.length c) ∧ SlF w.heap.size w' a zs.length zs ∧ Below w.heap.size w w'
theorem withPost_mk {zs : List Int} {i x : Int} {w w' : World} {v : Value} {n : Nat} (hn : zs.length = n) (h : w'.ownsRow w.heap.size 3 1 v n (WithC zs i x n)) (hb : Below w.heap.size w w') : WithPost (withZ zs i x) w (.returned v) w' := by
  subst hn
  obtain ⟨a, c, rfl, hs⟩ := ownsRow_slF h
  refine ⟨a, c, ?_, ?_, hb⟩
  · rw [withZ, withN_length]
  · rw [show (withZ zs i x).length = zs.length by rw [withZ, withN_length]]; exact hs

end Go.Proofs.Ytcpebnafoalhnaa
/- Contracts of respiteref01: Ints, Same, Right, Count, Load. -/
namespace Go.Proofs.Ytcpebnafoalhnaa
open Go.ChangeShapes Go.WideShapes Go.ChangeAt Go.RowKit

set_option maxHeartbeats 2000000 in
theorem Ints_any (a b : Option Addr) (n c m d : Nat) (xs ys : List Int) (w : World) (S1 : Sl w a n xs) (S2 : Sl w b m ys) (hn : n ≤ 9223372036854775807) :
    Calls Try.prog 23 #[.slice a n c, .slice b m d] w fun e w' => e = .returned (.bool (sameB xs ys)) ∧ Below w.heap.size w w' := by
  have Hx := Lib.hid S1.1
  have Hy := Lib.hid S2.1
  by_cases hl : m = n
  · subst hl
    have q : ((m : Int) != m) = false := by simp
    go_enter Try.func23, Try.ntmps23
    go_wp2
    go_loopw [13] (fun s wr => ∃ k : Nat, k ≤ m ∧ s = .int .i64 k ∧ Hid (SameTo xs ys k) ∧ Below w.heap.size w wr) (fun s _ => m - (intOf s).toNat)
    case atStart => exact ⟨0, by omega, rfl, by intro j hj; omega, Below.refl _ _⟩
    case round =>
      obtain ⟨k, hk, rfl, hs, hb⟩ := hrel
      by_cases hlt : k < m
      · obtain ⟨b1, o1, rfl, R1⟩ := S1.2.resolve_left (by omega)
        obtain ⟨b2, o2, rfl, R2⟩ := S2.2.resolve_left (by omega)
        have g1 := cellB hb (R1 k (by rw [Hx.out]; exact hlt))
        have g2 := cellB hb (R2 k (by rw [Hy.out]; exact hlt))
        generalize hxv : xs.getD k 0 = x at g1
        generalize hyv : ys.getD k 0 = y at g2
        have HX := Lib.hid hxv
        have HY := Lib.hid hyv
        have HB := Lib.hid hb
        have i1 : (0 : Int) ≤ k := by omega
        have i2 : (k : Int) < m := by omega
        clear hxv hyv hb
        by_cases e : x = y
        · have HS := Lib.hid (sameTo_succ hs.out HX.out HY.out e)
          subst e
          have q2 : (x != x) = false := by simp
          go_wp2
          go_quiet (fail)
          go_wp2
          go_roundw
          case rel => exact ⟨k + 1, by omega, by go_num, HS.out, below_drewN HB.out _⟩
          case measure => simp [intOf]; omega
        · have HF := Lib.hid (sameB_at (xs := xs) (ys := ys) k (by rw [HX.out, HY.out]; exact e))
          have q2 : (x != y) = true := by simpa using e
          clear e
          go_wp2
          go_quiet (fail)
          go_wp2
          go_ret
          exact ⟨ret_bool HF.out.symm, below_drewN HB.out _⟩
      · obtain rfl : k = m := by omega
        have HF := Lib.hid (sameB_all (xs := xs) (ys := ys) (by rw [Hx.out, Hy.out]) (by rw [Hx.out]; exact hs.out))
        go_wp2
        go_ret
        exact ⟨ret_bool HF.out.symm, hb⟩
  · have HF := Lib.hid (sameB_len (xs := xs) (ys := ys) (by rw [Hx.out, Hy.out]; omega))
    have q : ((n : Int) != m) = true := by simp; omega
    clear hl
    go_enter Try.func23, Try.ntmps23
    go_wp2
    go_ret
    exact ⟨ret_bool HF.out.symm, Below.refl _ _⟩

def RightPost (r : Bool) (w : World) (e : Ending) (w' : World) : Prop := e = .returned (.bool r) ∧ Below w.heap.size w w'
theorem rightPost_mk {r s : Bool} {w w' : World} (h : r = s) (hb : Below w.heap.size w w') : RightPost r w (.returned (.bool s)) w' := by subst h; exact ⟨rfl, hb⟩

def CntPost (x : Int) (w : World) (e : Ending) (w' : World) : Prop := e = .returned (.int .i64 x) ∧ Below w.heap.size w w'
end Go.Proofs.Ytcpebnafoalhnaa
/- Contracts of slices.Clone (of integers, of puts), buffer.Push, buffer.Pop. -/
namespace Go.Proofs.Ytcpebnafoalhnaa
open Go.ChangeShapes Go.WideShapes Go.ChangeAt Go.RowKit

def ClonePost (zs : List Int) (w : World) (e : Ending) (w' : World) : Prop := ∃ a c, e = .returned (.slice a zs.length c) ∧ SlF w.heap.size w' a zs.length zs ∧ Below w.heap.size w w'
theorem clonePost_mk {zs : List Int} {w w' : World} {v : Value} {n : Nat} (hn : zs.length = n) (h : w'.ownsRow w.heap.size 3 1 v n (zs.map (Value.int .i64))) (hb : Below w.heap.size w w') : ClonePost zs w (.returned v) w' := by
  subst hn
  obtain ⟨a, c, rfl, hs⟩ := ownsRow_slF h
  exact ⟨a, c, rfl, hs, hb⟩
theorem row_cells {w : World} {b off : Nat} {zs : List Int} (R : Row w b off zs) : ∀ j u, (zs.map (Value.int .i64))[j]? = some u → w.cell? ((⟨b, off, none⟩ : Addr).add j) = some u := by
  intro j u hu
  rw [add_none]
  have hj : j < zs.length := by simpa using (List.getElem?_eq_some_iff.1 hu).1
  rw [R j hj]
  simp [hj] at hu
  simp [hj, hu]

theorem eql_nil (t e : TypeId) (a : Option Addr) (n c : Nat) (h : Try.prog.underlying t = some (.slice e)) (w : World) : (binOp .eql t (.slice a n c) (.slice none 0 0)).run Try.prog w = .ok (.bool a.isNone) w := by
  simp only [binOp]
  simp [Op.equal, Op.maxDepth, Lib.run_equalIn_slice_nil w 9999 t e a n c 0 0 h]

set_option maxHeartbeats 2000000 in
theorem cloneI_any (a : Option Addr) (n c : Nat) (zs : List Int) (w : World) (S : Sl w a n zs) (hn : n ≤ 1000) (ha : n ≠ 0 ∨ (a = none ∧ c = 0)) :
    Calls Try.prog 68 #[.slice a n c] w (ClonePost zs w) := by
  obtain ⟨i0, hi, hz0, hz1, hz2⟩ := info_parts Try.info3
  have HI := Lib.hid (And.intro hi (And.intro hz0 (And.intro hz1 hz2)))
  have Hn := Lib.hid S.1
  clear hi hz0 hz1 hz2
  by_cases h0 : n = 0
  · obtain ⟨rfl, rfl⟩ := ha.resolve_left (by omega)
    subst h0
    obtain rfl : zs = [] := List.eq_nil_of_length_eq_zero Hn.out
    have q := fun w => eql_nil 36 3 none 0 0 Try.underlying36 w
    go_enter Try.func68, Try.ntmps68
    go_wp2
    go_ret
    exact ⟨none, 0, rfl, slF_nil _ _, Below.refl _ _⟩
  · obtain ⟨b, o, rfl, R⟩ := S.2.resolve_left h0
    have q := fun w => eql_nil 36 3 (some ⟨b, o, none⟩) n c Try.underlying36 w
    go_enter Try.func68, Try.ntmps68
    go_wp2_with (at_builtin; refine wpList_append_own _ rfl _ _ 36 rfl w.heap.size 3 i0 (.int .i64 0) 1 8 Try.underlying36 HI.out.1 HI.out.2.1 HI.out.2.2.1 HI.out.2.2.2 rfl (by decide) _ 0 [] rfl (World.ownsRow_made w #[] 0 (Nat.le_refl _) (by decide) (by simp)) ⟨b, o, none⟩ n c (zs.map (Value.int .i64)) rfl ?c1 ?c2 ?c3 ?c4 ?c5 ?c6 ?_)
    case c1 => simp [Hn.out]
    case c2 => exact row_cells (rowA _ R)
    case c3 => intro v hv; simp at hv; obtain ⟨z, _, rfl⟩ := hv; rfl
    case c4 => unfold maxLen; omega
    case c5 => omega
    case c6 => simp
    intro v' w1 hown' hgrow _
    have hb' := ((Below.refl w.heap.size w).alloc (Nat.le_refl _) (.cells #[] 3)).grown hgrow (by simp) (fun r hr => by cases hr; simp)
    have HO := Lib.hid hown'
    have HB := Lib.hid hb'
    clear hown' hb' hgrow
    go_wp2
    go_ret
    exact clonePost_mk Hn.out HO.out HB.out

def ClonePPost (ps : List (Int × Int)) (w : World) (e : Ending) (w' : World) : Prop := ∃ a c, e = .returned (.slice a ps.length c) ∧ CapOk a ps.length c ∧ PlF w.heap.size w' a ps.length ps ∧ Below w.heap.size w w'
theorem clonePPost_mk {ps : List (Int × Int)} {w w' : World} {v : Value} {n : Nat} (hn : ps.length = n) (h : w'.ownsRow w.heap.size 89 2 v n (pcells ps)) (hb : Below w.heap.size w w') : ClonePPost ps w (.returned v) w' := by
  subst hn
  obtain ⟨a, c, rfl, hc, hs⟩ := ownsRow_plF h
  exact ⟨a, c, rfl, hc, hs, hb⟩
theorem prow_cells {w : World} {b off : Nat} {ps : List (Int × Int)} (R : PRow w b off ps) : ∀ j u, (pcells ps)[j]? = some u → w.cell? ((⟨b, off, none⟩ : Addr).add j) = some u := by
  intro j u hu
  rw [add_none]
  exact pcells_cell R j u hu
theorem prow_nil (w : World) (b off : Nat) : PRow w b off [] := fun i hi => by simp at hi

set_option maxHeartbeats 2000000 in
theorem cloneP_some (b o : Nat) (n c : Nat) (ps : List (Int × Int)) (w : World) (hl : ps.length = n) (R : PRow w b o ps) (hn : n ≤ 1000) :
    Calls Try.prog 67 #[.slice (some ⟨b, o, none⟩) n c] w (ClonePPost ps w) := by
  obtain ⟨i0, hi, hz0, hz1, hz2⟩ := info_parts Try.info89
  have HI := Lib.hid (And.intro hi (And.intro hz0 (And.intro hz1 hz2)))
  have Hn := Lib.hid hl
  clear hi hz0 hz1 hz2 hl
  have q := fun w => eql_nil 66 89 (some ⟨b, o, none⟩) n c Try.underlying66 w
  go_enter Try.func67, Try.ntmps67
  go_wp2_with (at_builtin; refine wpList_append_own _ rfl _ _ 66 rfl w.heap.size 89 i0 (.agg #[.int .i64 0, .int .i64 0]) 2 16 Try.underlying66 HI.out.1 HI.out.2.1 HI.out.2.2.1 HI.out.2.2.2 rfl (by decide) _ 0 [] rfl (World.ownsRow_made w #[] 0 (Nat.le_refl _) (by decide) (by simp)) ⟨b, o, none⟩ n c (pcells ps) rfl ?c1 ?c2 ?c3 ?c4 ?c5 ?c6 ?_)
  case c1 => rw [pcells_length, Hn.out]
  case c2 => exact prow_cells (prowA _ R)
  case c3 => exact pcells_one _
  case c4 => unfold maxLen; omega
  case c5 => omega
  case c6 => simp
  intro v' w1 hown' hgrow _
  have hb' := ((Below.refl w.heap.size w).alloc (Nat.le_refl _) (.cells #[] 89)).grown hgrow (by simp) (fun r hr => by cases hr; simp)
  have HO := Lib.hid hown'
  have HB := Lib.hid hb'
  clear hown' hb' hgrow
  go_wp2
  go_ret
  exact clonePPost_mk Hn.out HO.out HB.out

/-- a slice of puts and an error -/
def PushPost (ps : List (Int × Int)) (x : Int) (w : World) (e : Ending) (w' : World) : Prop := ∃ a c, e = .returned (.tuple #[.slice a ps.length c, .int .i64 x]) ∧ CapOk a ps.length c ∧ PlF w.heap.size w' a ps.length ps ∧ Below w.heap.size w w'
theorem pushPost_nil {x : Int} {ps : List (Int × Int)} (he : ps = []) {w w' : World} (hb : Below w.heap.size w w') : PushPost ps x w (.returned (.tuple #[.slice none 0 0, .int .i64 x])) w' := by
  subst he; exact ⟨none, 0, rfl, capOk_nil, plF_nil _ _, hb⟩

theorem pushPost_mk {ps qs : List (Int × Int)} {w w' : World} {v : Value} {n : Nat} (hq : qs = ps) (hn : ps.length = n) {B : Nat} (hB : w.heap.size ≤ B) (h : w'.ownsRow B 89 2 v n (pcells ps)) (hb : Below w.heap.size w w') : PushPost qs 0 w (.returned (.tuple #[v, .int .i64 0])) w' := by
  subst hq
  subst hn
  obtain ⟨a, c, rfl, hc, hs⟩ := ownsRow_plF h
  exact ⟨a, c, rfl, hc, plF_mono hB hs, hb⟩
theorem grown_key {w W w1 : World} (hg : W.grownBy w1 none) (hb : Below w.heap.size w W) : Below w.heap.size w w1 ∧ w.heap.size ≤ W.heap.size :=
  ⟨hb.grown hg hb.size (fun _ hr => by cases hr), hb.size⟩
theorem put_cells {W : World} {g : Nat} {x y : Int} (k0 : W.cell? ⟨g, 0, none⟩ = some (.int .i64 x)) (k1 : W.cell? ⟨g, 1, none⟩ = some (.int .i64 y)) : ∀ j u, (pcells [(x, y)])[j]? = some u → W.cell? ((⟨g, 0, none⟩ : Addr).add j) = some u := by
  intro j u hu
  rw [add_none, Nat.zero_add]
  have hj : j < 2 := (List.getElem?_eq_some_iff.1 hu).1
  have : j = 0 ∨ j = 1 := by omega
  rcases this with rfl | rfl
  · simp [pcells] at hu; subst hu; exact k0
  · simp [pcells] at hu; subst hu; exact k1

set_option maxHeartbeats 4000000 in
theorem Push_some (p : Addr) (n c : Nat) (ps : List (Int × Int)) (depth x y : Int) (w : World) (S : Pl w (some p) n ps) (hc : n ≤ c) (h3 : c ≤ 9223372036854775807) (d0 : 0 ≤ depth) (d1 : depth ≤ 8) (d2 : (n : Int) ≤ depth) (d3 : (n : Int) ≠ depth) :
    Calls Try.prog 46 #[.slice (some p) n c, .int .i64 depth, .agg #[.int .i64 x, .int .i64 y]] w (PushPost (pushL ps depth (x, y)) 0 w) := by
  have Hn := Lib.hid S.1
  have HE := Lib.hid (show pushE n depth = 0 by rw [pushE, if_neg (by omega), if_neg d3])
  have HL := Lib.hid (show pushL ps depth (x, y) = ps ++ [(x, y)] by rw [pushL, Hn.out, HE.out, if_pos rfl])
  have q : ((n : Int) == depth) = false := by simpa using d3
  obtain ⟨i0, hi, hz0, hz1, hz2⟩ := info_parts Try.info89
  have HI := Lib.hid (And.intro hi (And.intro hz0 (And.intro hz1 hz2)))
  have hn8 : n ≤ 8 := by omega
  have holds : ∀ W, Below w.heap.size w W → ∀ b, some p = some b → ∀ j u, (pcells ps)[j]? = some u → W.cell? (b.add j) = some u := by
    intro W hW b hb j u hu
    cases hb
    have hj : j < ps.length * 2 := by rw [← pcells_length]; exact (List.getElem?_eq_some_iff.1 hu).1
    obtain ⟨b, o, e, R⟩ := S.2.resolve_left (by rw [← Hn.out]; omega)
    cases e
    rw [add_none]
    exact pcells_cell (prowB hW R) j u hu
  have HH := Lib.hid holds
  clear d3 hi hz0 hz1 hz2 holds
  go_enter Try.func46, Try.ntmps46
  go_wp2
  go_region_law (refine step_append_grows rfl (.tmp 29) (.tmp 31) 66 rfl 89 i0 (.agg #[.int .i64 0, .int .i64 0]) 2 16 Try.underlying66 HI.out.1 HI.out.2.1 HI.out.2.2.1 HI.out.2.2.2 rfl (by decide) (some p) n n (pcells ps) (by simp [Act.eval]) (fun e => by cases e) (by rw [pcells_length, Hn.out]) (HH.out _ (by go_grown)) ⟨w.heap.size + 1, 0, none⟩ 1 1 (pcells [(x, y)]) (by simp [Act.eval]) rfl (put_cells (by simp) (by simp)) (pcells_one _) (by omega) (by unfold maxLen; omega) (by omega) ?_; intro v' w1 hown hgrow)
  all_goals
    obtain ⟨hb', hsz⟩ := grown_key hgrow (w := w) (by go_grown)
    rw [← pcells_append] at hown
    have HO := Lib.hid hown
    have HB := Lib.hid hb'
    clear hown hb' hgrow
    go_wp2
    go_ret2
    exact pushPost_mk HL.out (by rw [List.length_append, Hn.out]; rfl) hsz HO.out HB.out

set_option maxHeartbeats 4000000 in
theorem Push_none (depth x y : Int) (w : World) (d1 : depth ≤ 8) (d3 : 0 < depth) :
    Calls Try.prog 46 #[.slice none 0 0, .int .i64 depth, .agg #[.int .i64 x, .int .i64 y]] w (PushPost (pushL [] depth (x, y)) 0 w) := by
  have HE := Lib.hid (show pushE 0 depth = 0 by rw [pushE, if_neg (by omega), if_neg (by omega)])
  have HL := Lib.hid (show pushL [] depth (x, y) = [] ++ [(x, y)] by rw [pushL, List.length_nil, HE.out, if_pos rfl])
  have q : ((0 : Int) == depth) = false := by simp; omega
  have q1 : decide (depth < 0) = false := by simp; omega
  obtain ⟨i0, hi, hz0, hz1, hz2⟩ := info_parts Try.info89
  have HI := Lib.hid (And.intro hi (And.intro hz0 (And.intro hz1 hz2)))
  clear hi hz0 hz1 hz2
  go_enter Try.func46, Try.ntmps46
  go_wp2
  go_region_law (refine step_append_grows rfl (.tmp 29) (.tmp 31) 66 rfl 89 i0 (.agg #[.int .i64 0, .int .i64 0]) 2 16 Try.underlying66 HI.out.1 HI.out.2.1 HI.out.2.2.1 HI.out.2.2.2 rfl (by decide) none 0 0 (pcells []) (by simp [Act.eval]) (fun _ => ⟨rfl, rfl⟩) rfl (fun b hb => by cases hb) ⟨w.heap.size + 1, 0, none⟩ 1 1 (pcells [(x, y)]) (by simp [Act.eval]) rfl (put_cells (by simp) (by simp)) (pcells_one _) (by omega) (by unfold maxLen; omega) (by omega) ?_; intro v' w1 hown hgrow)
  all_goals
    obtain ⟨hb', hsz⟩ := grown_key hgrow (w := w) (by go_grown)
    rw [← pcells_append] at hown
    have HO := Lib.hid hown
    have HB := Lib.hid hb'
    clear hown hb' hgrow
    go_wp2
    go_ret2
    exact pushPost_mk HL.out rfl hsz HO.out HB.out

set_option maxHeartbeats 4000000 in
theorem Push_any (a : Option Addr) (n c : Nat) (ps : List (Int × Int)) (depth x y : Int) (w : World) (S : Pl w a n ps) (hcap : CapOk a n c) :
    Calls Try.prog 46 #[.slice a n c, .int .i64 depth, .agg #[.int .i64 x, .int .i64 y]] w (PushPost (pushL ps depth (x, y)) (pushE n depth) w) := by
  obtain ⟨hc, h3, h0⟩ := hcap
  have Hn := Lib.hid S.1
  have H0 := Lib.hid h0
  clear h0
  by_cases d0 : depth < 0
  · have HE := Lib.hid (show pushE n depth = 1 by rw [pushE, if_pos (.inl d0)])
    have HL := Lib.hid (show pushL ps depth (x, y) = [] by rw [pushL, Hn.out, HE.out, if_neg (by decide)])
    rw [HE.out]
    go_enter Try.func46, Try.ntmps46
    go_wp2
    go_ret2
    exact pushPost_nil HL.out (by go_grown)
  · by_cases d1 : 8 < depth
    · have HE := Lib.hid (show pushE n depth = 1 by rw [pushE, if_pos (.inr (.inl d1))])
      have HL := Lib.hid (show pushL ps depth (x, y) = [] by rw [pushL, Hn.out, HE.out, if_neg (by decide)])
      rw [HE.out]
      go_enter Try.func46, Try.ntmps46
      go_wp2
      go_ret2
      exact pushPost_nil HL.out (by go_grown)
    · by_cases d2 : depth < n
      · have HE := Lib.hid (show pushE n depth = 1 by rw [pushE, if_pos (.inr (.inr d2))])
        have HL := Lib.hid (show pushL ps depth (x, y) = [] by rw [pushL, Hn.out, HE.out, if_neg (by decide)])
        rw [HE.out]
        go_enter Try.func46, Try.ntmps46
        go_wp2
        go_ret2
        exact pushPost_nil HL.out (by go_grown)
      · by_cases d3 : (n : Int) = depth
        · have HE := Lib.hid (show pushE n depth = 7 by rw [pushE, if_neg (by omega), if_pos d3])
          have HL := Lib.hid (show pushL ps depth (x, y) = [] by rw [pushL, Hn.out, HE.out, if_neg (by decide)])
          rw [HE.out]
          have q : ((n : Int) == depth) = true := by simpa using d3
          clear d3
          go_enter Try.func46, Try.ntmps46
          go_wp2
          go_ret2
          exact pushPost_nil HL.out (by go_grown)
        · have HE := Lib.hid (show pushE n depth = 0 by rw [pushE, if_neg (by omega), if_neg d3])
          rw [HE.out]
          cases a with
          | some p => exact Push_some p n c ps depth x y w S hc h3 (by omega) (by omega) (by omega) d3
          | none =>
            obtain rfl : c = 0 := H0.out rfl
            obtain rfl : n = 0 := by omega
            obtain rfl : ps = [] := List.eq_nil_of_length_eq_zero S.1
            exact Push_none depth x y w (by omega) (by omega)
end Go.Proofs.Ytcpebnafoalhnaa
/- Contracts of the document's own answers of layer 2 (package respiteref02): May, Newest, Same, Push, Rest. -/
namespace Go.Proofs.Ytcpebnafoalhnaa
open Go.ChangeShapes Go.WideShapes Go.ChangeAt Go.RowKit

def mayP (n : Nat) (depth : Int) : Bool := decide (0 ≤ depth ∧ depth ≤ 8 ∧ (n : Int) ≤ depth)
theorem newestV_snoc (ps : List (Int × Int)) (k : Nat) (x : Int) (h : k < ps.length) (p : Int × Int) (hp : ps.getD k (0, 0) = p) :
    (p.1 = x → newestV (ps.take (k + 1)) x = p.2 ∧ newestB (ps.take (k + 1)) x = true) ∧ (p.1 ≠ x → newestV (ps.take (k + 1)) x = newestV (ps.take k) x ∧ newestB (ps.take (k + 1)) x = newestB (ps.take k) x) := by
  subst hp
  simp only [newestV, newestB, newest_take ps k x h]
  constructor
  · intro e; rw [if_pos e]; exact ⟨rfl, rfl⟩
  · intro e; rw [if_neg e]; exact ⟨rfl, rfl⟩

def NewPost (v : Int) (i : Bool) (w : World) (e : Ending) (w' : World) : Prop := e = .returned (.tuple #[.int .i64 v, .bool i]) ∧ Below w.heap.size w w'
theorem newPost_mk {v z : Int} {i t : Bool} {w w' : World} (h1 : v = z) (h2 : i = t) (hb : Below w.heap.size w w') : NewPost v i w (.returned (.tuple #[.int .i64 z, .bool t])) w' := by subst h1; subst h2; exact ⟨rfl, hb⟩
theorem neq_put (x y x' y' : Int) (w : World) : (binOp .neq 89 (.agg #[.int .i64 x, .int .i64 y]) (.agg #[.int .i64 x', .int .i64 y'])).run Try.prog w = .ok (.bool (!(x == x' && y == y'))) w := by
  simp [go_sem, binOp, Op.equal, Op.maxDepth]
  by_cases h1 : x = x'
  · by_cases h2 : y = y'
    · simp [h1, h2]
    · simp [h1, h2]
  · simp [h1]
theorem eql_put (x y x' y' : Int) (w : World) : (binOp .eql 89 (.agg #[.int .i64 x, .int .i64 y]) (.agg #[.int .i64 x', .int .i64 y'])).run Try.prog w = .ok (.bool (x == x' && y == y')) w := by
  simp [go_sem, binOp, Op.equal, Op.maxDepth]
  by_cases h1 : x = x'
  · by_cases h2 : y = y'
    · simp [h1, h2]
    · simp [h1, h2]
  · simp [h1]


def PutsPost (ps : List (Int × Int)) (w : World) (e : Ending) (w' : World) : Prop := ∃ a c, e = .returned (.slice a ps.length c) ∧ CapOk a ps.length c ∧ PlF w.heap.size w' a ps.length ps ∧ Below w.heap.size w w'
theorem putsPost_mk {ps qs : List (Int × Int)} {w w' : World} {v : Value} {n : Nat} (hq : qs = ps) (hn : ps.length = n) (h : w'.ownsRow w.heap.size 89 2 v n (pcells ps)) (hb : Below w.heap.size w w') : PutsPost qs w (.returned v) w' := by
  subst hq
  subst hn
  obtain ⟨a, c, rfl, hc, hs⟩ := ownsRow_plF h
  exact ⟨a, c, rfl, hc, hs, hb⟩

theorem pl_cells {w : World} {p : Addr} {n : Nat} {ps : List (Int × Int)} (S : Pl w (some p) n ps) : ∀ W, Below w.heap.size w W → ∀ j u, (pcells ps)[j]? = some u → W.cell? (p.add j) = some u := by
  intro W hW j u hu
  have hj : j < ps.length * 2 := by rw [← pcells_length]; exact (List.getElem?_eq_some_iff.1 hu).1
  obtain ⟨b, o, e, R⟩ := S.2.resolve_left (by have := S.1; omega)
  cases e
  rw [add_none]
  exact pcells_cell (prowB hW R) j u hu
def restN (ps : List (Int × Int)) (k : Nat) : List (Int × Int) := (ps.take k).drop 1
theorem restN_one (ps : List (Int × Int)) (k : Nat) (h : k ≤ 1) : restN ps k = [] := by
  rw [restN]; apply List.drop_eq_nil_of_le; rw [List.length_take]; omega
theorem restN_succ (ps : List (Int × Int)) (k : Nat) (hk : 1 ≤ k) (h : k < ps.length) {p : Int × Int} (hp : ps.getD k (0, 0) = p) : restN ps (k + 1) = restN ps k ++ [p] := by
  subst hp
  rw [restN, restN, take_snocP ps k h, List.drop_append_of_le_length (by rw [List.length_take]; omega)]
theorem restN_all (ps : List (Int × Int)) : restN ps ps.length = restP ps := by rw [restN, List.take_length, restP]
theorem restN_len (ps : List (Int × Int)) (k : Nat) (h : k ≤ ps.length) : (restN ps k).length = k - 1 := by rw [restN, List.length_drop, List.length_take]; omega

end Go.Proofs.Ytcpebnafoalhnaa
