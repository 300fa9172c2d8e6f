/- RefA, RefB, BufA, RefN, put together. -/
import Derived.Test.YtiebaeaomgpicaaGreatM3
import Derived.Test.YtiebaeaomgpicaaGreatM1
import Derived.WalkSmall
import Derived.Deep.RegionLawGrows
import Derived.Deep.RegionWith
import Derived.WalkSpells
/- Contracts of the document's own answers of layer 1 (package respiteref01). -/
namespace Go.Proofs.YtiebaeaomgpicaaGreat
open Go.ChangeShapes Go.WideShapes Go.ChangeAt Go.RowKit

/-- what a slice of the call's own holds -/
theorem ownsRow_slF {B : Nat} {w : World} {v : Value} {n : Nat} {zs : List Int} (h : w.ownsRow B 3 1 v n (zs.map (Value.int .i64))) : ∃ a c, v = .slice a n c ∧ SlF B w a n zs := by
  obtain ⟨hl, h⟩ := h
  have hl' : zs.length = n := by simpa using hl
  rcases h with ⟨rfl, h0⟩ | ⟨g, cap, cur, rfl, hb, hg, hn, hm, hs, ht⟩
  · exact ⟨none, 0, by rw [h0], hl', .inl h0⟩
  · refine ⟨_, _, rfl, hl', .inr ⟨g, 0, rfl, hb, fun i hi => ?_⟩⟩
    simp only [World.cell?, hg]
    have e : (zs.map (Value.int .i64))[i]? = some (.int .i64 (zs.getD i 0)) := by simp [hi]
    rw [← ht, List.getElem?_take, if_pos (by omega)] at e
    simpa using e

theorem cell_one (w : World) (x : Value) (t : TypeId) : ∀ j u, [x][j]? = some u → (w.alloc (.cells #[x] t)).cell? ((⟨w.heap.size, 0, none⟩ : Addr).add j) = some u := by
  intro j u h
  obtain rfl : j = 0 := by
    have := (List.getElem?_eq_some_iff.1 h).1
    simp at this; omega
  simp at h
  subst h
  simp [Addr.add]
def WithC (zs : List Int) (i x : Int) (k : Nat) : List Value := (withN zs i x k).map (Value.int .i64)
theorem WithC_succ (zs : List Int) (i x : Int) (k : Nat) {y : Int} (h : withE zs i x k = y) : WithC zs i x (k + 1) = WithC zs i x k ++ [.int .i64 y] := by
  simp [WithC, withN, h]
def WithPost (zs : List Int) (w : World) (e : Ending) (w' : World) : Prop := ∃ a c, e = .returned (.slice a zs.length c) ∧ SlF w.heap.size w' a zs.length zs ∧ Below w.heap.size w w'
theorem withPost_mk {zs : List Int} {i x : Int} {w w' : World} {v : Value} {n : Nat} (hn : zs.length = n) (h : w'.ownsRow w.heap.size 3 1 v n (WithC zs i x n)) (hb : Below w.heap.size w w') : WithPost (withZ zs i x) w (.returned v) w' := by
  subst hn
  obtain ⟨a, c, rfl, hs⟩ := ownsRow_slF h
  refine ⟨a, c, ?_, ?_, hb⟩
  · rw [withZ, withN_length]
  · rw [show (withZ zs i x).length = zs.length by rw [withZ, withN_length]]; exact hs

set_option maxHeartbeats 2000000 in
theorem With_any (a : Option Addr) (n c : Nat) (zs : List Int) (i x : Int) (w : World) (S : Sl w a n zs) (hn : n ≤ 1000) :
    Calls Tryz.prog 49 #[.slice a n c, .int .i64 i, .int .i64 x] w (WithPost (withZ zs i x) w) := by
  obtain ⟨i0, hi, hz0, hz1, hz2⟩ := info_parts Tryz.info3
  have Hn := Lib.hid S.1
  have HI := Lib.hid (And.intro hi (And.intro hz0 (And.intro hz1 hz2)))
  clear hi hz0 hz1 hz2
  go_enter Tryz.func49, Tryz.ntmps49
  go_wp2
  go_loopw [7, 13] (fun v s wr => ∃ k : Nat, k ≤ n ∧ s = .int .i64 k ∧ wr.ownsRow w.heap.size 3 1 v k (WithC zs i x k) ∧ Below w.heap.size w wr) (fun _ s _ => n - (intOf s).toNat)
  case atStart => exact ⟨0, by omega, rfl, World.ownsRow_made w #[] 0 (Nat.le_refl _) (by decide) (by simp), (Below.refl _ _).alloc (Nat.le_refl _) _⟩
  case round =>
    obtain ⟨k, hk, rfl, hown, hb⟩ := hrel
    by_cases hlt : k < n
    · obtain ⟨b, o, rfl, R⟩ := S.2.resolve_left (by omega)
      have g := cellB hb (R k (by rw [Hn.out]; exact hlt))
      have hsz := hb.size
      have HB := Lib.hid hb
      have HO := Lib.hid hown
      by_cases e : (k : Int) = i
      · have HS := Lib.hid (WithC_succ zs i x k (by rw [withE, if_pos e]))
        have q : ((k : Int) == i) = true := by simpa using e
        clear e hb hown
        go_wp2_with (at_builtin; refine wpList_append_own _ rfl _ _ 23 rfl w.heap.size 3 i0 (.int .i64 0) 1 8 Tryz.underlying23 HI.out.1 HI.out.2.1 HI.out.2.2.1 HI.out.2.2.2 rfl (by decide) _ _ _ rfl (HO.out.alloc _) ⟨wr.heap.size, 0, none⟩ 1 1 [.int .i64 x] rfl rfl ?c1 ?c2 ?c3 ?c4 ?c5 ?_)
        case c1 => exact cell_one _ _ _
        case c2 => intro v hv; simp at hv; subst hv; rfl
        case c3 => unfold maxLen; omega
        case c4 => omega
        case c5 => simp; omega
        intro v' w1 hown' hgrow _
        have hb' := (HB.out.alloc hsz (.cells #[.int .i64 x] 3)).grown hgrow (by simp; omega) (fun r hr => ((HO.out.alloc (.cells #[.int .i64 x] 3)).lt r hr).1)
        rw [← HS.out] at hown'
        have HO' := Lib.hid hown'
        have HB' := Lib.hid hb'
        clear hown' hb' hgrow
        go_wp2
        go_roundw
        case rel => exact ⟨k + 1, by omega, by go_num, HO'.out, HB'.out⟩
        case measure => simp [intOf]; omega
      · have HS := Lib.hid (WithC_succ zs i x k (y := zs.getD k 0) (by rw [withE, if_neg e]))
        generalize zs.getD k 0 = y at g HS
        have q : ((k : Int) == i) = false := by simpa using e
        clear e hb hown
        go_wp2_with (at_builtin; refine wpList_append_own _ rfl _ _ 23 rfl w.heap.size 3 i0 (.int .i64 0) 1 8 Tryz.underlying23 HI.out.1 HI.out.2.1 HI.out.2.2.1 HI.out.2.2.2 rfl (by decide) _ _ _ rfl (HO.out.alloc _) ⟨wr.heap.size, 0, none⟩ 1 1 [.int .i64 y] rfl rfl ?c1 ?c2 ?c3 ?c4 ?c5 ?_)
        case c1 => exact cell_one _ _ _
        case c2 => intro v hv; simp at hv; subst hv; rfl
        case c3 => unfold maxLen; omega
        case c4 => omega
        case c5 => simp; omega
        intro v' w1 hown' hgrow _
        have hb' := (HB.out.alloc hsz (.cells #[.int .i64 y] 3)).grown hgrow (by simp; omega) (fun r hr => ((HO.out.alloc (.cells #[.int .i64 y] 3)).lt r hr).1)
        rw [← HS.out] at hown'
        have HO' := Lib.hid hown'
        have HB' := Lib.hid hb'
        clear hown' hb' hgrow
        go_wp2
        go_roundw
        case rel => exact ⟨k + 1, by omega, by go_num, HO'.out, HB'.out⟩
        case measure => simp [intOf]; omega
    · obtain rfl : k = n := by omega
      have HB := Lib.hid hb
      have HO := Lib.hid hown
      clear hb hown
      go_wp2
      go_ret
      exact withPost_mk Hn.out HO.out HB.out
end Go.Proofs.YtiebaeaomgpicaaGreat
/- Contracts of respiteref01: Ints, Same, Right, Count, Load. -/
namespace Go.Proofs.YtiebaeaomgpicaaGreat
open Go.ChangeShapes Go.WideShapes Go.ChangeAt Go.RowKit

set_option maxHeartbeats 2000000 in
theorem Ints_any (a b : Option Addr) (n c m d : Nat) (xs ys : List Int) (w : World) (S1 : Sl w a n xs) (S2 : Sl w b m ys) (hn : n ≤ 9223372036854775807) :
    Calls Tryz.prog 29 #[.slice a n c, .slice b m d] w fun e w' => e = .returned (.bool (sameB xs ys)) ∧ Below w.heap.size w w' := by
  have Hx := Lib.hid S1.1
  have Hy := Lib.hid S2.1
  by_cases hl : m = n
  · subst hl
    have q : ((m : Int) != m) = false := by simp
    go_enter Tryz.func29, Tryz.ntmps29
    go_wp2
    go_loopw [13] (fun s wr => ∃ k : Nat, k ≤ m ∧ s = .int .i64 k ∧ Hid (SameTo xs ys k) ∧ Below w.heap.size w wr) (fun s _ => m - (intOf s).toNat)
    case atStart => exact ⟨0, by omega, rfl, by intro j hj; omega, Below.refl _ _⟩
    case round =>
      obtain ⟨k, hk, rfl, hs, hb⟩ := hrel
      by_cases hlt : k < m
      · obtain ⟨b1, o1, rfl, R1⟩ := S1.2.resolve_left (by omega)
        obtain ⟨b2, o2, rfl, R2⟩ := S2.2.resolve_left (by omega)
        have g1 := cellB hb (R1 k (by rw [Hx.out]; exact hlt))
        have g2 := cellB hb (R2 k (by rw [Hy.out]; exact hlt))
        generalize hxv : xs.getD k 0 = x at g1
        generalize hyv : ys.getD k 0 = y at g2
        have HX := Lib.hid hxv
        have HY := Lib.hid hyv
        have HB := Lib.hid hb
        have i1 : (0 : Int) ≤ k := by omega
        have i2 : (k : Int) < m := by omega
        clear hxv hyv hb
        by_cases e : x = y
        · have HS := Lib.hid (sameTo_succ hs.out HX.out HY.out e)
          subst e
          have q2 : (x != x) = false := by simp
          go_wp2
          go_quiet (fail)
          go_wp2
          go_roundw
          case rel => exact ⟨k + 1, by omega, by go_num, HS.out, below_drewN HB.out _⟩
          case measure => simp [intOf]; omega
        · have HF := Lib.hid (sameB_at (xs := xs) (ys := ys) k (by rw [HX.out, HY.out]; exact e))
          have q2 : (x != y) = true := by simpa using e
          clear e
          go_wp2
          go_quiet (fail)
          go_wp2
          go_ret
          exact ⟨ret_bool HF.out.symm, below_drewN HB.out _⟩
      · obtain rfl : k = m := by omega
        have HF := Lib.hid (sameB_all (xs := xs) (ys := ys) (by rw [Hx.out, Hy.out]) (by rw [Hx.out]; exact hs.out))
        go_wp2
        go_ret
        exact ⟨ret_bool HF.out.symm, hb⟩
  · have HF := Lib.hid (sameB_len (xs := xs) (ys := ys) (by rw [Hx.out, Hy.out]; omega))
    have q : ((n : Int) != m) = true := by simp; omega
    clear hl
    go_enter Tryz.func29, Tryz.ntmps29
    go_wp2
    go_ret
    exact ⟨ret_bool HF.out.symm, Below.refl _ _⟩

theorem Same_any (a b : Option Addr) (n c m d : Nat) (a' b' : Option Addr) (n' c' m' d' : Nat) (xs ys xs' ys' : List Int) (w : World) (S1 : Sl w a n xs) (S2 : Sl w b m ys) (T1 : Sl w a' n' xs') (T2 : Sl w b' m' ys')
    (hn : n ≤ 9223372036854775807) (hm : m ≤ 9223372036854775807) :
    Calls Tryz.prog 103 #[.agg #[.slice a n c, .slice b m d], .agg #[.slice a' n' c', .slice b' m' d']] w fun e w' => e = .returned (.bool (sameB xs xs' && sameB ys ys')) ∧ Below w.heap.size w w' := by
  go_enter Tryz.func103, Tryz.ntmps103
  go_wp2_with fail
  refine (Ints_any a a' n c n' c' xs xs' _ (slA _ (slA _ S1)) (slA _ (slA _ T1)) hn).mono ?_
  rintro e w1 ⟨rfl, hb⟩
  have hb1 : Below w.heap.size w w1 := below_from (by go_grown) hb
  obtain ⟨hc, hf⟩ := bcell hb
  have k1 : w1.cell? ⟨w.heap.size, 1, none⟩ = some (.slice b m d) := cellB hb (cellA _ (by simp))
  have k2 : w1.cell? ⟨w.heap.size + 1, 1, none⟩ = some (.slice b' m' d') := cellB hb (by simp)
  clear hc hf hb
  cases hx : sameB xs xs' with
  | false =>
    have HX := Lib.hid hx
    clear hx
    go_wp2_with fail
    go_ret
    exact ⟨ret_bool (by rw [HX.out]; rfl), hb1⟩
  | true =>
    have HX := Lib.hid hx
    clear hx
    go_wp2_with fail
    refine (Ints_any b b' m d m' d' ys ys' _ (slB hb1 S2) (slB hb1 T2) hm).mono ?_
    rintro e w2 ⟨rfl, hb2⟩
    have hb3 : Below w.heap.size w w2 := below_from hb1 hb2
    generalize hy : sameB ys ys' = r
    have HY := Lib.hid hy
    clear hy hb2
    go_wp2_with fail
    go_ret
    exact ⟨ret_bool (by rw [HX.out, HY.out]; rfl), hb3⟩

def RightPost (r : Bool) (w : World) (e : Ending) (w' : World) : Prop := e = .returned (.bool r) ∧ Below w.heap.size w w'
theorem rightPost_mk {r s : Bool} {w w' : World} (h : r = s) (hb : Below w.heap.size w w') : RightPost r w (.returned (.bool s)) w' := by subst h; exact ⟨rfl, hb⟩

set_option maxHeartbeats 2000000 in
theorem refLoad_any (a a' : Option Addr) (n c n' c' : Nat) (ws ts : List Int) (i : Int) (w : World) (S1 : Sl w a n ws) (S2 : Sl w a' n' ts) (hm : mayB ws ts = true) :
    Calls Tryz.prog 82 #[.agg #[.slice a n c, .slice a' n' c'], .int .i64 i] w fun e w' => e = .returned (.tuple #[.int .i64 (loadZ ws ts i), .int .i64 (usableZ ws ts i)]) ∧ Below w.heap.size w w' := by
  obtain ⟨z0, z1, z2⟩ := mayB_size hm
  have hn := S1.1
  have hn' := S2.1
  obtain rfl : n' = n := by omega
  obtain ⟨-, b1, o1, rfl, R1⟩ := sl_some S1 (by omega)
  obtain ⟨-, b2, o2, rfl, R2⟩ := sl_some S2 (by omega)
  have z4 : n' ≤ 160 := by omega
  by_cases h0 : i < 0
  · have HE := Lib.hid (show usableZ ws ts i = 3 by rw [usableZ, if_pos hm, if_neg (by omega)])
    have HV := Lib.hid (show loadZ ws ts i = 0 by rw [loadZ, HE.out, if_neg (by decide)])
    clear hm hn hn' z0 z1 z2
    go_enter Tryz.func82, Tryz.ntmps82
    go_wp2
    go_ret2
    exact ⟨ret_two HV.out.symm HE.out.symm, by go_grown⟩
  · obtain ⟨k, rfl⟩ := Int.eq_ofNat_of_zero_le (show 0 ≤ i by omega)
    by_cases h1 : k < n'
    · have ht := mayB_tag hm k (by omega)
      have HE := Lib.hid (show usableZ ws ts (k : Int) = useE (ts.getD k 0) by rw [usableZ, if_pos hm, if_pos ⟨by omega, by omega⟩]; simp)
      have HV := Lib.hid (show loadZ ws ts (k : Int) = if useE (ts.getD k 0) = 0 then ws.getD k 0 else 0 by rw [loadZ, HE.out]; simp)
      have g1 := cellA (Obj.cells #[.slice (some ⟨b1, o1, none⟩) n' c, .slice (some ⟨b2, o2, none⟩) n' c'] 43) (R1 k (by omega))
      have g2 := cellA (Obj.cells #[.slice (some ⟨b1, o1, none⟩) n' c, .slice (some ⟨b2, o2, none⟩) n' c'] 43) (R2 k (by omega))
      generalize ts.getD k 0 = tv at ht HE HV g2
      generalize ws.getD k 0 = wv at HV g1
      have ht' : tv = 0 ∨ tv = 1 ∨ tv = 2 := by omega
      clear hm hn hn' z0 z1 z2 ht
      rcases ht' with rfl | rfl | rfl
      all_goals
        go_enter Tryz.func82, Tryz.ntmps82
        go_wp2
        go_ret2
        exact ⟨ret_two (by rw [HV.out]; rfl) (by rw [HE.out]; rfl), by go_grown⟩
    · have HE := Lib.hid (show usableZ ws ts (k : Int) = 3 by rw [usableZ, if_pos hm, if_neg (by omega)])
      have HV := Lib.hid (show loadZ ws ts (k : Int) = 0 by rw [loadZ, HE.out, if_neg (by decide)])
      clear hm hn hn' z0 z1 z2
      go_enter Tryz.func82, Tryz.ntmps82
      go_wp2
      go_ret2
      exact ⟨ret_two HV.out.symm HE.out.symm, by go_grown⟩

def CntPost (x : Int) (w : World) (e : Ending) (w' : World) : Prop := e = .returned (.int .i64 x) ∧ Below w.heap.size w w'
end Go.Proofs.YtiebaeaomgpicaaGreat
/- Contracts of slices.Clone (of integers, of puts), buffer.Push, buffer.Pop. -/
namespace Go.Proofs.YtiebaeaomgpicaaGreat
open Go.ChangeShapes Go.WideShapes Go.ChangeAt Go.RowKit

def ClonePost (zs : List Int) (w : World) (e : Ending) (w' : World) : Prop := ∃ a c, e = .returned (.slice a zs.length c) ∧ SlF w.heap.size w' a zs.length zs ∧ Below w.heap.size w w'
theorem clonePost_mk {zs : List Int} {w w' : World} {v : Value} {n : Nat} (hn : zs.length = n) (h : w'.ownsRow w.heap.size 3 1 v n (zs.map (Value.int .i64))) (hb : Below w.heap.size w w') : ClonePost zs w (.returned v) w' := by
  subst hn
  obtain ⟨a, c, rfl, hs⟩ := ownsRow_slF h
  exact ⟨a, c, rfl, hs, hb⟩
theorem row_cells {w : World} {b off : Nat} {zs : List Int} (R : Row w b off zs) : ∀ j u, (zs.map (Value.int .i64))[j]? = some u → w.cell? ((⟨b, off, none⟩ : Addr).add j) = some u := by
  intro j u hu
  rw [add_none]
  have hj : j < zs.length := by simpa using (List.getElem?_eq_some_iff.1 hu).1
  rw [R j hj]
  simp [hj] at hu
  simp [hj, hu]

theorem eql_nil (t e : TypeId) (a : Option Addr) (n c : Nat) (h : Tryz.prog.underlying t = some (.slice e)) (w : World) : (binOp .eql t (.slice a n c) (.slice none 0 0)).run Tryz.prog w = .ok (.bool a.isNone) w := by
  simp only [binOp]
  simp [Op.equal, Op.maxDepth, Lib.run_equalIn_slice_nil w 9999 t e a n c 0 0 h]

set_option maxHeartbeats 2000000 in
theorem cloneI_any (a : Option Addr) (n c : Nat) (zs : List Int) (w : World) (S : Sl w a n zs) (hn : n ≤ 1000) (ha : n ≠ 0 ∨ (a = none ∧ c = 0)) :
    Calls Tryz.prog 90 #[.slice a n c] w (ClonePost zs w) := by
  obtain ⟨i0, hi, hz0, hz1, hz2⟩ := info_parts Tryz.info3
  have HI := Lib.hid (And.intro hi (And.intro hz0 (And.intro hz1 hz2)))
  have Hn := Lib.hid S.1
  clear hi hz0 hz1 hz2
  by_cases h0 : n = 0
  · obtain ⟨rfl, rfl⟩ := ha.resolve_left (by omega)
    subst h0
    obtain rfl : zs = [] := List.eq_nil_of_length_eq_zero Hn.out
    have q := fun w => eql_nil 23 3 none 0 0 Tryz.underlying23 w
    go_enter Tryz.func90, Tryz.ntmps90
    go_wp2
    go_ret
    exact ⟨none, 0, rfl, slF_nil _ _, Below.refl _ _⟩
  · obtain ⟨b, o, rfl, R⟩ := S.2.resolve_left h0
    have q := fun w => eql_nil 23 3 (some ⟨b, o, none⟩) n c Tryz.underlying23 w
    go_enter Tryz.func90, Tryz.ntmps90
    go_wp2_with (at_builtin; refine wpList_append_own _ rfl _ _ 23 rfl w.heap.size 3 i0 (.int .i64 0) 1 8 Tryz.underlying23 HI.out.1 HI.out.2.1 HI.out.2.2.1 HI.out.2.2.2 rfl (by decide) _ 0 [] rfl (World.ownsRow_made w #[] 0 (Nat.le_refl _) (by decide) (by simp)) ⟨b, o, none⟩ n c (zs.map (Value.int .i64)) rfl ?c1 ?c2 ?c3 ?c4 ?c5 ?c6 ?_)
    case c1 => simp [Hn.out]
    case c2 => exact row_cells (rowA _ R)
    case c3 => intro v hv; simp at hv; obtain ⟨z, _, rfl⟩ := hv; rfl
    case c4 => unfold maxLen; omega
    case c5 => omega
    case c6 => simp
    intro v' w1 hown' hgrow _
    have hb' := ((Below.refl w.heap.size w).alloc (Nat.le_refl _) (.cells #[] 3)).grown hgrow (by simp) (fun r hr => by cases hr; simp)
    have HO := Lib.hid hown'
    have HB := Lib.hid hb'
    clear hown' hb' hgrow
    go_wp2
    go_ret
    exact clonePost_mk Hn.out HO.out HB.out

def ClonePPost (ps : List (Int × Int)) (w : World) (e : Ending) (w' : World) : Prop := ∃ a c, e = .returned (.slice a ps.length c) ∧ CapOk a ps.length c ∧ PlF w.heap.size w' a ps.length ps ∧ Below w.heap.size w w'
theorem clonePPost_mk {ps : List (Int × Int)} {w w' : World} {v : Value} {n : Nat} (hn : ps.length = n) (h : w'.ownsRow w.heap.size 96 2 v n (pcells ps)) (hb : Below w.heap.size w w') : ClonePPost ps w (.returned v) w' := by
  subst hn
  obtain ⟨a, c, rfl, hc, hs⟩ := ownsRow_plF h
  exact ⟨a, c, rfl, hc, hs, hb⟩
theorem prow_cells {w : World} {b off : Nat} {ps : List (Int × Int)} (R : PRow w b off ps) : ∀ j u, (pcells ps)[j]? = some u → w.cell? ((⟨b, off, none⟩ : Addr).add j) = some u := by
  intro j u hu
  rw [add_none]
  exact pcells_cell R j u hu
theorem prow_nil (w : World) (b off : Nat) : PRow w b off [] := fun i hi => by simp at hi

set_option maxHeartbeats 2000000 in
theorem cloneP_some (b o : Nat) (n c : Nat) (ps : List (Int × Int)) (w : World) (hl : ps.length = n) (R : PRow w b o ps) (hn : n ≤ 1000) :
    Calls Tryz.prog 89 #[.slice (some ⟨b, o, none⟩) n c] w (ClonePPost ps w) := by
  obtain ⟨i0, hi, hz0, hz1, hz2⟩ := info_parts Tryz.info96
  have HI := Lib.hid (And.intro hi (And.intro hz0 (And.intro hz1 hz2)))
  have Hn := Lib.hid hl
  clear hi hz0 hz1 hz2 hl
  have q := fun w => eql_nil 67 96 (some ⟨b, o, none⟩) n c Tryz.underlying67 w
  go_enter Tryz.func89, Tryz.ntmps89
  go_wp2_with (at_builtin; refine wpList_append_own _ rfl _ _ 67 rfl w.heap.size 96 i0 (.agg #[.int .i64 0, .int .i64 0]) 2 16 Tryz.underlying67 HI.out.1 HI.out.2.1 HI.out.2.2.1 HI.out.2.2.2 rfl (by decide) _ 0 [] rfl (World.ownsRow_made w #[] 0 (Nat.le_refl _) (by decide) (by simp)) ⟨b, o, none⟩ n c (pcells ps) rfl ?c1 ?c2 ?c3 ?c4 ?c5 ?c6 ?_)
  case c1 => rw [pcells_length, Hn.out]
  case c2 => exact prow_cells (prowA _ R)
  case c3 => exact pcells_one _
  case c4 => unfold maxLen; omega
  case c5 => omega
  case c6 => simp
  intro v' w1 hown' hgrow _
  have hb' := ((Below.refl w.heap.size w).alloc (Nat.le_refl _) (.cells #[] 96)).grown hgrow (by simp) (fun r hr => by cases hr; simp)
  have HO := Lib.hid hown'
  have HB := Lib.hid hb'
  clear hown' hb' hgrow
  go_wp2
  go_ret
  exact clonePPost_mk Hn.out HO.out HB.out

/-- a slice of puts and an error -/
def PushPost (ps : List (Int × Int)) (x : Int) (w : World) (e : Ending) (w' : World) : Prop := ∃ a c, e = .returned (.tuple #[.slice a ps.length c, .int .i64 x]) ∧ CapOk a ps.length c ∧ PlF w.heap.size w' a ps.length ps ∧ Below w.heap.size w w'
theorem pushPost_nil {x : Int} {ps : List (Int × Int)} (he : ps = []) {w w' : World} (hb : Below w.heap.size w w') : PushPost ps x w (.returned (.tuple #[.slice none 0 0, .int .i64 x])) w' := by
  subst he; exact ⟨none, 0, rfl, capOk_nil, plF_nil _ _, hb⟩

theorem pushPost_mk {ps qs : List (Int × Int)} {w w' : World} {v : Value} {n : Nat} (hq : qs = ps) (hn : ps.length = n) {B : Nat} (hB : w.heap.size ≤ B) (h : w'.ownsRow B 96 2 v n (pcells ps)) (hb : Below w.heap.size w w') : PushPost qs 0 w (.returned (.tuple #[v, .int .i64 0])) w' := by
  subst hq
  subst hn
  obtain ⟨a, c, rfl, hc, hs⟩ := ownsRow_plF h
  exact ⟨a, c, rfl, hc, plF_mono hB hs, hb⟩
theorem grown_key {w W w1 : World} (hg : W.grownBy w1 none) (hb : Below w.heap.size w W) : Below w.heap.size w w1 ∧ w.heap.size ≤ W.heap.size :=
  ⟨hb.grown hg hb.size (fun _ hr => by cases hr), hb.size⟩
theorem put_cells {W : World} {g : Nat} {x y : Int} (k0 : W.cell? ⟨g, 0, none⟩ = some (.int .i64 x)) (k1 : W.cell? ⟨g, 1, none⟩ = some (.int .i64 y)) : ∀ j u, (pcells [(x, y)])[j]? = some u → W.cell? ((⟨g, 0, none⟩ : Addr).add j) = some u := by
  intro j u hu
  rw [add_none, Nat.zero_add]
  have hj : j < 2 := (List.getElem?_eq_some_iff.1 hu).1
  have : j = 0 ∨ j = 1 := by omega
  rcases this with rfl | rfl
  · simp [pcells] at hu; subst hu; exact k0
  · simp [pcells] at hu; subst hu; exact k1

set_option maxHeartbeats 4000000 in
theorem Push_some (p : Addr) (n c : Nat) (ps : List (Int × Int)) (depth x y : Int) (w : World) (S : Pl w (some p) n ps) (hc : n ≤ c) (h3 : c ≤ 9223372036854775807) (d0 : 0 ≤ depth) (d1 : depth ≤ 8) (d2 : (n : Int) ≤ depth) (d3 : (n : Int) ≠ depth) :
    Calls Tryz.prog 62 #[.slice (some p) n c, .int .i64 depth, .agg #[.int .i64 x, .int .i64 y]] w (PushPost (pushL ps depth (x, y)) 0 w) := by
  have Hn := Lib.hid S.1
  have HE := Lib.hid (show pushE n depth = 0 by rw [pushE, if_neg (by omega), if_neg d3])
  have HL := Lib.hid (show pushL ps depth (x, y) = ps ++ [(x, y)] by rw [pushL, Hn.out, HE.out, if_pos rfl])
  have q : ((n : Int) == depth) = false := by simpa using d3
  obtain ⟨i0, hi, hz0, hz1, hz2⟩ := info_parts Tryz.info96
  have HI := Lib.hid (And.intro hi (And.intro hz0 (And.intro hz1 hz2)))
  have hn8 : n ≤ 8 := by omega
  have holds : ∀ W, Below w.heap.size w W → ∀ b, some p = some b → ∀ j u, (pcells ps)[j]? = some u → W.cell? (b.add j) = some u := by
    intro W hW b hb j u hu
    cases hb
    have hj : j < ps.length * 2 := by rw [← pcells_length]; exact (List.getElem?_eq_some_iff.1 hu).1
    obtain ⟨b, o, e, R⟩ := S.2.resolve_left (by rw [← Hn.out]; omega)
    cases e
    rw [add_none]
    exact pcells_cell (prowB hW R) j u hu
  have HH := Lib.hid holds
  clear d3 hi hz0 hz1 hz2 holds
  go_enter Tryz.func62, Tryz.ntmps62
  go_wp2
  go_region_law (refine step_append_grows rfl (.tmp 29) (.tmp 31) 67 rfl 96 i0 (.agg #[.int .i64 0, .int .i64 0]) 2 16 Tryz.underlying67 HI.out.1 HI.out.2.1 HI.out.2.2.1 HI.out.2.2.2 rfl (by decide) (some p) n n (pcells ps) (by simp [Act.eval]) (fun e => by cases e) (by rw [pcells_length, Hn.out]) (HH.out _ (by go_grown)) ⟨w.heap.size + 1, 0, none⟩ 1 1 (pcells [(x, y)]) (by simp [Act.eval]) rfl (put_cells (by simp) (by simp)) (pcells_one _) (by omega) (by unfold maxLen; omega) (by omega) ?_; intro v' w1 hown hgrow)
  all_goals
    obtain ⟨hb', hsz⟩ := grown_key hgrow (w := w) (by go_grown)
    rw [← pcells_append] at hown
    have HO := Lib.hid hown
    have HB := Lib.hid hb'
    clear hown hb' hgrow
    go_wp2
    go_ret2
    exact pushPost_mk HL.out (by rw [List.length_append, Hn.out]; rfl) hsz HO.out HB.out

set_option maxHeartbeats 4000000 in
theorem Push_none (depth x y : Int) (w : World) (d1 : depth ≤ 8) (d3 : 0 < depth) :
    Calls Tryz.prog 62 #[.slice none 0 0, .int .i64 depth, .agg #[.int .i64 x, .int .i64 y]] w (PushPost (pushL [] depth (x, y)) 0 w) := by
  have HE := Lib.hid (show pushE 0 depth = 0 by rw [pushE, if_neg (by omega), if_neg (by omega)])
  have HL := Lib.hid (show pushL [] depth (x, y) = [] ++ [(x, y)] by rw [pushL, List.length_nil, HE.out, if_pos rfl])
  have q : ((0 : Int) == depth) = false := by simp; omega
  have q1 : decide (depth < 0) = false := by simp; omega
  obtain ⟨i0, hi, hz0, hz1, hz2⟩ := info_parts Tryz.info96
  have HI := Lib.hid (And.intro hi (And.intro hz0 (And.intro hz1 hz2)))
  clear hi hz0 hz1 hz2
  go_enter Tryz.func62, Tryz.ntmps62
  go_wp2
  go_region_law (refine step_append_grows rfl (.tmp 29) (.tmp 31) 67 rfl 96 i0 (.agg #[.int .i64 0, .int .i64 0]) 2 16 Tryz.underlying67 HI.out.1 HI.out.2.1 HI.out.2.2.1 HI.out.2.2.2 rfl (by decide) none 0 0 (pcells []) (by simp [Act.eval]) (fun _ => ⟨rfl, rfl⟩) rfl (fun b hb => by cases hb) ⟨w.heap.size + 1, 0, none⟩ 1 1 (pcells [(x, y)]) (by simp [Act.eval]) rfl (put_cells (by simp) (by simp)) (pcells_one _) (by omega) (by unfold maxLen; omega) (by omega) ?_; intro v' w1 hown hgrow)
  all_goals
    obtain ⟨hb', hsz⟩ := grown_key hgrow (w := w) (by go_grown)
    rw [← pcells_append] at hown
    have HO := Lib.hid hown
    have HB := Lib.hid hb'
    clear hown hb' hgrow
    go_wp2
    go_ret2
    exact pushPost_mk HL.out rfl hsz HO.out HB.out

set_option maxHeartbeats 4000000 in
theorem Push_any (a : Option Addr) (n c : Nat) (ps : List (Int × Int)) (depth x y : Int) (w : World) (S : Pl w a n ps) (hcap : CapOk a n c) :
    Calls Tryz.prog 62 #[.slice a n c, .int .i64 depth, .agg #[.int .i64 x, .int .i64 y]] w (PushPost (pushL ps depth (x, y)) (pushE n depth) w) := by
  obtain ⟨hc, h3, h0⟩ := hcap
  have Hn := Lib.hid S.1
  have H0 := Lib.hid h0
  clear h0
  by_cases d0 : depth < 0
  · have HE := Lib.hid (show pushE n depth = 1 by rw [pushE, if_pos (.inl d0)])
    have HL := Lib.hid (show pushL ps depth (x, y) = [] by rw [pushL, Hn.out, HE.out, if_neg (by decide)])
    rw [HE.out]
    go_enter Tryz.func62, Tryz.ntmps62
    go_wp2
    go_ret2
    exact pushPost_nil HL.out (by go_grown)
  · by_cases d1 : 8 < depth
    · have HE := Lib.hid (show pushE n depth = 1 by rw [pushE, if_pos (.inr (.inl d1))])
      have HL := Lib.hid (show pushL ps depth (x, y) = [] by rw [pushL, Hn.out, HE.out, if_neg (by decide)])
      rw [HE.out]
      go_enter Tryz.func62, Tryz.ntmps62
      go_wp2
      go_ret2
      exact pushPost_nil HL.out (by go_grown)
    · by_cases d2 : depth < n
      · have HE := Lib.hid (show pushE n depth = 1 by rw [pushE, if_pos (.inr (.inr d2))])
        have HL := Lib.hid (show pushL ps depth (x, y) = [] by rw [pushL, Hn.out, HE.out, if_neg (by decide)])
        rw [HE.out]
        go_enter Tryz.func62, Tryz.ntmps62
        go_wp2
        go_ret2
        exact pushPost_nil HL.out (by go_grown)
      · by_cases d3 : (n : Int) = depth
        · have HE := Lib.hid (show pushE n depth = 7 by rw [pushE, if_neg (by omega), if_pos d3])
          have HL := Lib.hid (show pushL ps depth (x, y) = [] by rw [pushL, Hn.out, HE.out, if_neg (by decide)])
          rw [HE.out]
          have q : ((n : Int) == depth) = true := by simpa using d3
          clear d3
          go_enter Tryz.func62, Tryz.ntmps62
          go_wp2
          go_ret2
          exact pushPost_nil HL.out (by go_grown)
        · have HE := Lib.hid (show pushE n depth = 0 by rw [pushE, if_neg (by omega), if_neg d3])
          rw [HE.out]
          cases a with
          | some p => exact Push_some p n c ps depth x y w S hc h3 (by omega) (by omega) (by omega) d3
          | none =>
            obtain rfl : c = 0 := H0.out rfl
            obtain rfl : n = 0 := by omega
            obtain rfl : ps = [] := List.eq_nil_of_length_eq_zero S.1
            exact Push_none depth x y w (by omega) (by omega)
end Go.Proofs.YtiebaeaomgpicaaGreat
/- Contracts of the document's own answers of layer 2 (package respiteref02): May, Newest, Same, Push, Rest. -/
namespace Go.Proofs.YtiebaeaomgpicaaGreat
open Go.ChangeShapes Go.WideShapes Go.ChangeAt Go.RowKit

def mayP (n : Nat) (depth : Int) : Bool := decide (0 ≤ depth ∧ depth ≤ 8 ∧ (n : Int) ≤ depth)
theorem newestV_snoc (ps : List (Int × Int)) (k : Nat) (x : Int) (h : k < ps.length) (p : Int × Int) (hp : ps.getD k (0, 0) = p) :
    (p.1 = x → newestV (ps.take (k + 1)) x = p.2 ∧ newestB (ps.take (k + 1)) x = true) ∧ (p.1 ≠ x → newestV (ps.take (k + 1)) x = newestV (ps.take k) x ∧ newestB (ps.take (k + 1)) x = newestB (ps.take k) x) := by
  subst hp
  simp only [newestV, newestB, newest_take ps k x h]
  constructor
  · intro e; rw [if_pos e]; exact ⟨rfl, rfl⟩
  · intro e; rw [if_neg e]; exact ⟨rfl, rfl⟩

def NewPost (v : Int) (i : Bool) (w : World) (e : Ending) (w' : World) : Prop := e = .returned (.tuple #[.int .i64 v, .bool i]) ∧ Below w.heap.size w w'
theorem newPost_mk {v z : Int} {i t : Bool} {w w' : World} (h1 : v = z) (h2 : i = t) (hb : Below w.heap.size w w') : NewPost v i w (.returned (.tuple #[.int .i64 z, .bool t])) w' := by subst h1; subst h2; exact ⟨rfl, hb⟩
set_option maxHeartbeats 2000000 in
theorem refNewest_any (a : Option Addr) (n c : Nat) (ps : List (Int × Int)) (x : Int) (w : World) (S : Pl w a n ps) (hn : n ≤ 9223372036854775807) :
    Calls Tryz.prog 87 #[.slice a n c, .int .i64 x] w (NewPost (newestV ps x) (newestB ps x) w) := by
  have Hn := Lib.hid S.1
  go_enter Tryz.func87, Tryz.ntmps87
  go_wp2
  go_loopw [6, 7, 12] (fun v i s wr => ∃ (k : Nat) (z : Int) (t : Bool), k ≤ n ∧ s = .int .i64 k ∧ v = .int .i64 z ∧ i = .bool t ∧ Hid (newestV (ps.take k) x = z ∧ newestB (ps.take k) x = t) ∧ Below w.heap.size w wr) (fun _ _ s _ => n - (intOf s).toNat)
  case atStart => exact ⟨0, 0, false, by omega, rfl, rfl, rfl, ⟨rfl, rfl⟩, Below.refl _ _⟩
  case round =>
    obtain ⟨k, z, t, hk, rfl, rfl, rfl, hz, hb⟩ := hrel
    by_cases hlt : k < n
    · obtain ⟨b, o, rfl, R⟩ := S.2.resolve_left (by omega)
      have g := R k (by rw [Hn.out]; exact hlt)
      have g1 := cellB hb g.1
      have g2 := cellB hb g.2
      have hsz := hb.size
      obtain ⟨p, hp⟩ : ∃ p, ps.getD k (0, 0) = p := ⟨_, rfl⟩
      rw [hp] at g1 g2
      have HN := Lib.hid (newestV_snoc ps k x (by rw [Hn.out]; exact hlt) p hp)
      have HB := Lib.hid hb
      clear g hp hb
      by_cases e : p.1 = x
      · have HZ := Lib.hid (HN.out.1 e)
        have q : (p.1 == x) = true := by simpa using e
        clear e
        go_wp2
        go_roundw
        case rel => exact ⟨k + 1, p.2, true, by omega, by go_num, rfl, rfl, HZ.out, HB.out.alloc hsz _⟩
        case measure => simp [intOf]; omega
      · have HZ := Lib.hid (HN.out.2 e)
        have q : (p.1 == x) = false := by simpa using e
        clear e
        go_wp2
        go_roundw
        case rel => exact ⟨k + 1, z, t, by omega, by go_num, rfl, rfl, ⟨HZ.out.1.trans hz.out.1, HZ.out.2.trans hz.out.2⟩, HB.out.alloc hsz _⟩
        case measure => simp [intOf]; omega
    · obtain rfl : k = n := by omega
      have E : Hid (ps.take k = ps) := List.take_of_length_le (by rw [Hn.out]; omega)
      have h1 := hz.out.1
      have h2 := hz.out.2
      rw [E.out] at h1 h2
      have H1 := Lib.hid h1
      have H2 := Lib.hid h2
      have HB := Lib.hid hb
      clear hb h1 h2
      go_wp2
      go_ret2
      exact newPost_mk H1.out H2.out HB.out

theorem neq_put (x y x' y' : Int) (w : World) : (binOp .neq 96 (.agg #[.int .i64 x, .int .i64 y]) (.agg #[.int .i64 x', .int .i64 y'])).run Tryz.prog w = .ok (.bool (!(x == x' && y == y'))) w := by
  simp [go_sem, binOp, Op.equal, Op.maxDepth]
  by_cases h1 : x = x'
  · by_cases h2 : y = y'
    · simp [h1, h2]
    · simp [h1, h2]
  · simp [h1]
theorem eql_put (x y x' y' : Int) (w : World) : (binOp .eql 96 (.agg #[.int .i64 x, .int .i64 y]) (.agg #[.int .i64 x', .int .i64 y'])).run Tryz.prog w = .ok (.bool (x == x' && y == y')) w := by
  simp [go_sem, binOp, Op.equal, Op.maxDepth]
  by_cases h1 : x = x'
  · by_cases h2 : y = y'
    · simp [h1, h2]
    · simp [h1, h2]
  · simp [h1]


set_option maxHeartbeats 2000000 in
theorem refSameP_any (a b : Option Addr) (n c m d : Nat) (xs ys : List (Int × Int)) (w : World) (S1 : Pl w a n xs) (S2 : Pl w b m ys) (hn : n ≤ 9223372036854775807) :
    Calls Tryz.prog 104 #[.slice a n c, .slice b m d] w (BoolPost (samePB xs ys) w) := by
  have Hx := Lib.hid S1.1
  have Hy := Lib.hid S2.1
  by_cases hl : m = n
  · subst hl
    have q : ((m : Int) != m) = false := by simp
    go_enter Tryz.func104, Tryz.ntmps104
    go_wp2
    go_loopw [13] (fun s wr => ∃ k : Nat, k ≤ m ∧ s = .int .i64 k ∧ Hid (SamePTo xs ys k) ∧ Below w.heap.size w wr) (fun s _ => m - (intOf s).toNat)
    case atStart => exact ⟨0, by omega, rfl, by intro j hj; omega, Below.refl _ _⟩
    case round =>
      obtain ⟨k, hk, rfl, hs, hb⟩ := hrel
      by_cases hlt : k < m
      · obtain ⟨b1, o1, rfl, R1⟩ := S1.2.resolve_left (by omega)
        obtain ⟨b2, o2, rfl, R2⟩ := S2.2.resolve_left (by omega)
        have g1 := cellB hb (R1 k (by rw [Hx.out]; exact hlt)).1
        have g2 := cellB hb (R1 k (by rw [Hx.out]; exact hlt)).2
        have g3 := cellB hb (R2 k (by rw [Hy.out]; exact hlt)).1
        have g4 := cellB hb (R2 k (by rw [Hy.out]; exact hlt)).2
        obtain ⟨x, hxv⟩ : ∃ x, xs.getD k (0, 0) = x := ⟨_, rfl⟩
        obtain ⟨y, hyv⟩ : ∃ y, ys.getD k (0, 0) = y := ⟨_, rfl⟩
        rw [hxv] at g1 g2
        rw [hyv] at g3 g4
        obtain ⟨x1, x2⟩ := x
        obtain ⟨y1, y2⟩ := y
        have HX := Lib.hid hxv
        have HY := Lib.hid hyv
        have HB := Lib.hid hb
        have i1 : (0 : Int) ≤ k := by omega
        have i2 : (k : Int) < m := by omega
        dsimp only at g1 g2 g3 g4
        clear hxv hyv hb
        have q4 := fun w => neq_put x1 x2 y1 y2 w
        by_cases e : x1 = y1 ∧ x2 = y2
        · obtain ⟨rfl, rfl⟩ := e
          have HS := Lib.hid (samePTo_succ hs.out (HX.out.trans HY.out.symm))
          have q2 : (x1 == x1 && x2 == x2) = true := by simp
          go_wp2
          go_quiet (fail)
          go_wp2
          go_roundw
          case rel => exact ⟨k + 1, by omega, by go_num, HS.out, below_drewN HB.out _⟩
          case measure => simp [intOf]; omega
        · have HF := Lib.hid (samePB_at (xs := xs) (ys := ys) k (by rw [HX.out, HY.out]; intro h; cases h; exact e ⟨rfl, rfl⟩))
          have q2 : (x1 == y1 && x2 == y2) = false := by
            rw [Bool.eq_false_iff]; intro h; simp at h; exact e h
          clear e
          go_wp2
          go_quiet (fail)
          go_wp2
          go_ret
          exact boolPost_mk HF.out (below_drewN HB.out _)
      · obtain rfl : k = m := by omega
        have HF := Lib.hid (samePB_all (xs := xs) (ys := ys) (by rw [Hx.out, Hy.out]) (by rw [Hx.out]; exact hs.out))
        go_wp2
        go_ret
        exact boolPost_mk HF.out hb
  · have HF := Lib.hid (samePB_len (xs := xs) (ys := ys) (by rw [Hx.out, Hy.out]; omega))
    have q : ((n : Int) != m) = true := by simp; omega
    clear hl
    go_enter Tryz.func104, Tryz.ntmps104
    go_wp2
    go_ret
    exact boolPost_mk HF.out (Below.refl _ _)

def PutsPost (ps : List (Int × Int)) (w : World) (e : Ending) (w' : World) : Prop := ∃ a c, e = .returned (.slice a ps.length c) ∧ CapOk a ps.length c ∧ PlF w.heap.size w' a ps.length ps ∧ Below w.heap.size w w'
theorem putsPost_mk {ps qs : List (Int × Int)} {w w' : World} {v : Value} {n : Nat} (hq : qs = ps) (hn : ps.length = n) (h : w'.ownsRow w.heap.size 96 2 v n (pcells ps)) (hb : Below w.heap.size w w') : PutsPost qs w (.returned v) w' := by
  subst hq
  subst hn
  obtain ⟨a, c, rfl, hc, hs⟩ := ownsRow_plF h
  exact ⟨a, c, rfl, hc, hs, hb⟩

theorem pl_cells {w : World} {p : Addr} {n : Nat} {ps : List (Int × Int)} (S : Pl w (some p) n ps) : ∀ W, Below w.heap.size w W → ∀ j u, (pcells ps)[j]? = some u → W.cell? (p.add j) = some u := by
  intro W hW j u hu
  have hj : j < ps.length * 2 := by rw [← pcells_length]; exact (List.getElem?_eq_some_iff.1 hu).1
  obtain ⟨b, o, e, R⟩ := S.2.resolve_left (by have := S.1; omega)
  cases e
  rw [add_none]
  exact pcells_cell (prowB hW R) j u hu
set_option maxHeartbeats 4000000 in
theorem refPush_any (a : Option Addr) (n c : Nat) (ps : List (Int × Int)) (x y : Int) (w : World) (S : Pl w a n ps) (hn : n ≤ 1000) (h0 : a = none → c = 0) :
    Calls Tryz.prog 86 #[.slice a n c, .agg #[.int .i64 x, .int .i64 y]] w (PutsPost (ps ++ [(x, y)]) w) := by
  obtain ⟨i0, hi, hz0, hz1, hz2⟩ := info_parts Tryz.info96
  have HI := Lib.hid (And.intro hi (And.intro hz0 (And.intro hz1 hz2)))
  have Hn := Lib.hid S.1
  have hown0 : ((w.alloc (Obj.cells #[.int .i64 x, .int .i64 y] 96)).alloc (.cells #[] 96)).ownsRow w.heap.size 96 2 (.slice (some ⟨w.heap.size + 1, 0, none⟩) 0 0) 0 [] := by
    have := World.ownsRow_made (base := w.heap.size) (e := 96) (size := 2) (w.alloc (Obj.cells #[.int .i64 x, .int .i64 y] 96)) #[] 0 (by simp) (by decide) (by simp)
    rw [World.size_alloc] at this
    exact this
  have HOWN := Lib.hid hown0
  clear hi hz0 hz1 hz2 hown0
  cases a with
  | none =>
    obtain rfl : c = 0 := h0 rfl
    obtain rfl : n = 0 := by
      rcases S.2 with h | ⟨b, o, h, _⟩
      · exact h
      · cases h
    obtain rfl : ps = [] := List.eq_nil_of_length_eq_zero S.1
    clear S h0 hn
    go_enter Tryz.func86, Tryz.ntmps86
    go_wp2_with (at_builtin; refine wpList_append_own _ rfl (.tmp 10) (.tmp 12) 67 rfl w.heap.size 96 i0 (.agg #[.int .i64 0, .int .i64 0]) 2 16 Tryz.underlying67 HI.out.1 HI.out.2.1 HI.out.2.2.1 HI.out.2.2.2 rfl (by decide) _ 0 [] rfl (HOWN.out.alloc _) ⟨w.heap.size + 1 + 1, 0, none⟩ 1 1 (pcells [(x, y)]) rfl rfl ?c1 ?c2 ?c3 ?c4 ?c5 ?_)
    case c1 => exact put_cells (cell_new _ _ _ (by simp) rfl) (cell_new _ _ _ (by simp) rfl)
    case c2 => exact pcells_one _
    case c3 => unfold maxLen; omega
    case c4 => omega
    case c5 => simp; omega
    intro v' w1 hown' hgrow _
    have hb' := (((Below.refl w.heap.size w).alloc (Nat.le_refl _) (Obj.cells #[.int .i64 x, .int .i64 y] 96)).alloc (by simp) (.cells #[] 96)).alloc (by simp; omega) (Obj.cells #[.int .i64 x, .int .i64 y] 96) |>.grown hgrow (by simp; omega) (fun r hr => by cases hr; simp)
    have HO' := Lib.hid hown'
    have HB' := Lib.hid hb'
    clear hown' hb' hgrow
    go_wp2
    go_ret
    exact putsPost_mk rfl rfl HO'.out HB'.out
  | some p =>
    have HH := Lib.hid (pl_cells S)
    go_enter Tryz.func86, Tryz.ntmps86
    go_wp2_with (at_builtin; refine wpList_append_own _ rfl (.tmp 7) (.tmp 8) 67 rfl w.heap.size 96 i0 (.agg #[.int .i64 0, .int .i64 0]) 2 16 Tryz.underlying67 HI.out.1 HI.out.2.1 HI.out.2.2.1 HI.out.2.2.2 rfl (by decide) _ 0 [] rfl HOWN.out p n c (pcells ps) rfl ?c1 ?c2 ?c3 ?c4 ?c5 ?c6 ?_)
    case c1 => rw [pcells_length, Hn.out]
    case c2 => exact HH.out _ (by go_grown)
    case c3 => exact pcells_one _
    case c4 => unfold maxLen; omega
    case c5 => omega
    case c6 => simp; omega
    intro v' w1 hown' hgrow _
    have hb' := ((Below.refl w.heap.size w).alloc (Nat.le_refl _) (Obj.cells #[.int .i64 x, .int .i64 y] 96)).alloc (by simp) (.cells #[] 96) |>.grown hgrow (by simp; omega) (fun r hr => by cases hr; simp)
    have d0 : w1.cell? ⟨w.heap.size, 0, none⟩ = some (.int .i64 x) := hgrow.cell (cellA _ (by simp)) (by simp [Value.ownBlock])
    have d1 : w1.cell? ⟨w.heap.size, 1, none⟩ = some (.int .i64 y) := hgrow.cell (cellA _ (by simp)) (by simp [Value.ownBlock])
    have HO' := Lib.hid hown'
    have HB' := Lib.hid hb'
    have hsz := hb'.size
    clear hown' hb' hgrow
    go_wp2_with (at_builtin; refine wpList_append_own _ rfl (.tmp 10) (.tmp 12) 67 rfl w.heap.size 96 i0 (.agg #[.int .i64 0, .int .i64 0]) 2 16 Tryz.underlying67 HI.out.1 HI.out.2.1 HI.out.2.2.1 HI.out.2.2.2 rfl (by decide) _ _ _ rfl (HO'.out.alloc _) ⟨w1.heap.size, 0, none⟩ 1 1 (pcells [(x, y)]) rfl rfl ?c1 ?c2 ?c3 ?c4 ?c5 ?_)
    case c1 => exact put_cells (by simp) (by simp)
    case c2 => exact pcells_one _
    case c3 => unfold maxLen; omega
    case c4 => omega
    case c5 => simp; omega
    intro v'' w2 hown'' hgrow' _
    have hb'' := (HB'.out.alloc hsz (Obj.cells #[.int .i64 x, .int .i64 y] 96)).grown hgrow' (by simp; omega) (fun r hr => ((HO'.out.alloc (Obj.cells #[.int .i64 x, .int .i64 y] 96)).lt r hr).1)
    rw [← pcells_append] at hown''
    have HO'' := Lib.hid hown''
    have HB'' := Lib.hid hb''
    have HL := Lib.hid (show (ps ++ [(x, y)]).length = n + 1 by rw [List.length_append, Hn.out]; rfl)
    clear hown'' hb'' hgrow'
    go_wp2
    go_ret
    exact putsPost_mk rfl HL.out HO''.out HB''.out

def restN (ps : List (Int × Int)) (k : Nat) : List (Int × Int) := (ps.take k).drop 1
theorem restN_one (ps : List (Int × Int)) (k : Nat) (h : k ≤ 1) : restN ps k = [] := by
  rw [restN]; apply List.drop_eq_nil_of_le; rw [List.length_take]; omega
theorem restN_succ (ps : List (Int × Int)) (k : Nat) (hk : 1 ≤ k) (h : k < ps.length) {p : Int × Int} (hp : ps.getD k (0, 0) = p) : restN ps (k + 1) = restN ps k ++ [p] := by
  subst hp
  rw [restN, restN, take_snocP ps k h, List.drop_append_of_le_length (by rw [List.length_take]; omega)]
theorem restN_all (ps : List (Int × Int)) : restN ps ps.length = restP ps := by rw [restN, List.take_length, restP]
theorem restN_len (ps : List (Int × Int)) (k : Nat) (h : k ≤ ps.length) : (restN ps k).length = k - 1 := by rw [restN, List.length_drop, List.length_take]; omega

set_option maxHeartbeats 4000000 in
theorem refRest_any (a : Option Addr) (n c : Nat) (ps : List (Int × Int)) (w : World) (S : Pl w a n ps) (hn : n ≤ 1000) :
    Calls Tryz.prog 84 #[.slice a n c] w (PutsPost (restP ps) w) := by
  obtain ⟨i0, hi, hz0, hz1, hz2⟩ := info_parts Tryz.info96
  have HI := Lib.hid (And.intro hi (And.intro hz0 (And.intro hz1 hz2)))
  have Hn := Lib.hid S.1
  clear hi hz0 hz1 hz2
  go_enter Tryz.func84, Tryz.ntmps84
  go_wp2
  go_loopw [3, 9] (fun v s wr => ∃ k : Nat, k ≤ n ∧ s = .int .i64 k ∧ wr.ownsRow w.heap.size 96 2 v (k - 1) (pcells (restN ps k)) ∧ Below w.heap.size w wr) (fun _ s _ => n - (intOf s).toNat)
  case atStart => exact ⟨0, by omega, rfl, by rw [restN_one ps 0 (by omega)]; exact World.ownsRow_made w #[] 0 (Nat.le_refl _) (by decide) (by simp), (Below.refl _ _).alloc (Nat.le_refl _) _⟩
  case round =>
    obtain ⟨k, hk, rfl, hown, hb⟩ := hrel
    by_cases hlt : k < n
    · obtain ⟨b, o, rfl, R⟩ := S.2.resolve_left (by omega)
      have g := R k (by rw [Hn.out]; exact hlt)
      have g1 := cellB hb g.1
      have g2 := cellB hb g.2
      have hsz := hb.size
      obtain ⟨p, hp⟩ : ∃ p, ps.getD k (0, 0) = p := ⟨_, rfl⟩
      rw [hp] at g1 g2
      have Hp := Lib.hid hp
      have HB := Lib.hid hb
      have HO := Lib.hid hown
      clear g hp hb hown
      by_cases e : 0 < k
      · have HS := Lib.hid (restN_succ ps k e (by rw [Hn.out]; exact hlt) Hp.out)
        have q : decide ((0 : Int) < k) = true := by simp; omega
        have HK := Lib.hid (show k - 1 + 1 = k by omega)
        go_wp2_with (at_builtin; refine wpList_append_own _ rfl _ _ 67 rfl w.heap.size 96 i0 (.agg #[.int .i64 0, .int .i64 0]) 2 16 Tryz.underlying67 HI.out.1 HI.out.2.1 HI.out.2.2.1 HI.out.2.2.2 rfl (by decide) _ _ _ rfl ((HO.out.alloc _).alloc _) ⟨wr.heap.size + 1, 0, none⟩ 1 1 (pcells [p]) rfl rfl ?c1 ?c2 ?c3 ?c4 ?c5 ?_)
        case c1 => obtain ⟨p1, p2⟩ := p; exact put_cells (by simp) (by simp)
        case c2 => exact pcells_one _
        case c3 => unfold maxLen; omega
        case c4 => omega
        case c5 => simp; omega
        intro v' w1 hown' hgrow _
        have hb' := ((HB.out.alloc hsz (.cells #[.int .i64 p.1, .int .i64 p.2] 96)).alloc (by simp; omega) (.cells #[.int .i64 p.1, .int .i64 p.2] 96)).grown hgrow (by simp; omega) (fun r hr => ((HO.out.alloc (.cells #[.int .i64 p.1, .int .i64 p.2] 96)).lt r hr).1)
        rw [← pcells_append, ← HS.out, HK.out] at hown'
        have HO' := Lib.hid hown'
        have HB' := Lib.hid hb'
        clear hown' hb' hgrow
        go_wp2
        go_roundw
        case rel => exact ⟨k + 1, by omega, by go_num, HO'.out, HB'.out⟩
        case measure => simp [intOf]; omega
      · obtain rfl : k = 0 := by omega
        have HS := Lib.hid (restN_one ps 0 (by omega))
        have HS' := Lib.hid (restN_one ps 1 (by omega))
        rw [Nat.zero_mul, Nat.add_zero] at g1 g2
        go_wp2
        go_roundw
        case rel => exact ⟨1, by omega, rfl, by rw [HS'.out, ← HS.out]; exact HO.out.alloc _, HB.out.alloc hsz _⟩
        case measure => simp [intOf]; omega
    · obtain rfl : k = n := by omega
      have HB := Lib.hid hb
      have HO := Lib.hid hown
      have HL := Lib.hid (restN_len ps k (by rw [Hn.out]; omega))
      have HA := Lib.hid (restN_all ps)
      clear hb hown
      go_wp2
      go_ret
      exact putsPost_mk (by rw [← HA.out, Hn.out]) HL.out HO.out HB.out
end Go.Proofs.YtiebaeaomgpicaaGreat
