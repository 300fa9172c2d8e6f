/- BufB, BufC, TsoA, TsoB, TsoC, TsoD, put together. -/
import Derived.Test.YtiebaeaomgpicaaGreatM4
import Derived.Deep.RegionHeld3
import Derived.Deep.DeepCutAuto
import Derived.Test.YtiebaeaomgpicaaGreatM3
/- The contract of buffer.Pop. -/
namespace Go.Proofs.YtiebaeaomgpicaaGreat
open Go.ChangeShapes Go.WideShapes Go.ChangeAt Go.RowKit

theorem prowD {w : World} {b off : Nat} {ps : List (Int × Int)} (h : PRow w b off ps) : PRow w.drew b off ps := h
/-- the oldest, the others, and an error -/
def PopPost (p : Int × Int) (ps : List (Int × Int)) (x : Int) (w : World) (e : Ending) (w' : World) : Prop := ∃ a c, e = .returned (.tuple #[.agg #[.int .i64 p.1, .int .i64 p.2], .slice a ps.length c, .int .i64 x]) ∧ CapOk a ps.length c ∧ PlF w.heap.size w' a ps.length ps ∧ Below w.heap.size w w'
theorem popPost_nil {x : Int} {p : Int × Int} {ps : List (Int × Int)} (hp : p = (0, 0)) (he : ps = []) {w w' : World} (hb : Below w.heap.size w w') : PopPost p ps x w (.returned (.tuple #[.agg #[.int .i64 0, .int .i64 0], .slice none 0 0, .int .i64 x])) w' := by
  subst he; subst hp; exact ⟨none, 0, rfl, capOk_nil, plF_nil _ _, hb⟩
theorem rest_row {w : World} {b o : Nat} {ps : List (Int × Int)} (R : PRow w b o ps) : PRow w b (o + 2) (restP ps) := by
  intro i hi
  simp only [restP, List.length_drop] at hi
  have := R (i + 1) (by omega)
  have e : (restP ps).getD i (0, 0) = ps.getD (i + 1) (0, 0) := by simp [restP]
  rw [e, show o + 2 + i * 2 = o + (i + 1) * 2 by omega]
  exact this

set_option maxHeartbeats 4000000 in
theorem Pop_none (a : Option Addr) (c : Nat) (w : World) :
    Calls Tryz.prog 57 #[.slice a 0 c] w (PopPost (firstP []) (restP []) 8 w) := by
  go_enter Tryz.func57, Tryz.ntmps57
  go_wp2
  refine bp_cell_tmp2 ⟨w.heap.size, 0, none⟩ rfl rfl rfl (load_put _ _ _ _ _ (by simp; rfl) (by simp; rfl)) ?_
  exact popPost_nil rfl rfl (by go_grown)

set_option maxHeartbeats 4000000 in
theorem Pop_some (b o n c : Nat) (ps : List (Int × Int)) (w : World) (hl : ps.length = n) (R : PRow w b o ps) (hn : 1 ≤ n) (hn2 : n ≤ 1000) (hc : n ≤ c) (h3 : c ≤ 9223372036854775807) :
    Calls Tryz.prog 57 #[.slice (some ⟨b, o, none⟩) n c] w (PopPost (firstP ps) (restP ps) 0 w) := by
  have g1 := (R 0 (by omega)).1
  have g2 := (R 0 (by omega)).2
  rw [Nat.zero_mul, Nat.add_zero] at g1 g2
  obtain ⟨x, hx⟩ : ∃ x, firstP ps = x := ⟨_, rfl⟩
  have hx' : ps.getD 0 (0, 0) = x := hx
  rw [hx'] at g1 g2
  rw [hx]
  obtain ⟨x1, x2⟩ := x
  have hr := rest_row R
  have hrl : (restP ps).length = n - 1 := by simp [restP, hl]
  generalize restP ps = rs at hr hrl ⊢
  have Hr := Lib.hid hrl
  have q : ((n : Int) == 0) = false := by simp; omega
  have hb : b < w.heap.size := cell_lt g1
  clear hx hx' R hrl
  dsimp only at g1 g2
  go_enter Tryz.func57, Tryz.ntmps57
  go_wp2
  have hb1 : Below w.heap.size w (w.alloc (Obj.cells #[.int .i64 0, .int .i64 0] 96)) := by go_grown
  have G1 := cellB hb1 g1
  have G2 := cellB hb1 g2
  have G3 : (w.alloc (Obj.cells #[.int .i64 0, .int .i64 0] 96)).cell? ⟨w.heap.size, 0, none⟩ = some (.int .i64 0) := by simp
  have G4 : (w.alloc (Obj.cells #[.int .i64 0, .int .i64 0] 96)).cell? ⟨w.heap.size, 1, none⟩ = some (.int .i64 0) := by simp
  have G5 : (w.alloc (Obj.cells #[.int .i64 0, .int .i64 0] 96)).frozen? ⟨w.heap.size, 0, none⟩ = false := by simp
  have G6 : (w.alloc (Obj.cells #[.int .i64 0, .int .i64 0] 96)).frozen? ⟨w.heap.size, 1, none⟩ = false := by simp
  have R1 := prowB hb1 hr
  have hs : w.heap.size < (w.alloc (Obj.cells #[.int .i64 0, .int .i64 0] 96)).heap.size := by simp
  obtain ⟨W, hW⟩ : ∃ W, W = w.alloc (Obj.cells #[.int .i64 0, .int .i64 0] 96) := ⟨_, rfl⟩
  rw [← hW] at hb1 G1 G2 G3 G4 G5 G6 R1 hs ⊢
  have HB1 := Lib.hid hb1
  have HR1 := Lib.hid R1
  clear hW hb1 R1 g1 g2 hr
  by_cases hc1 : 1 < c
  · go_region_with (go_at_call 89; refine (cloneP_some b (o + 2) (n - 1) (c - 1) rs _ Hr.out (prowD HR1.out) (by omega)).mono ?_; rintro e w2 ⟨p, d, rfl, s1, s2, hb2⟩; have G1' := cellB hb2 G1; have G2' := cellB hb2 G2; have G3' := cellB hb2 G3; have G4' := cellB hb2 G4; have G5' : w2.frozen? ⟨w.heap.size, 0, none⟩ = false := (hb2.frozen (p := ⟨w.heap.size, 0, none⟩) hs).trans G5; have G6' : w2.frozen? ⟨w.heap.size, 1, none⟩ = false := (hb2.frozen (p := ⟨w.heap.size, 1, none⟩) hs).trans G6; have HB2 := Lib.hid hb2; clear hb2)
    all_goals
      have hB := below_from HB1.out.drew HB2.out
      have hs2 := HB2.out.size
      rw [World.size_drew] at hs2
      clear G1 G2 G3 G4 G5 G6
      go_wp2
      refine bp_cell_tmp2 ⟨w.heap.size, 0, none⟩ rfl rfl rfl (load_put _ _ _ _ _ (by go_cell_look) (by go_cell_look)) ?_
      refine ⟨p, d, rfl, s1, plF_mono (Nat.le_of_lt hs) (plF_set (plF_set s2 ⟨w.heap.size, 0, none⟩ hs _) ⟨w.heap.size, 1, none⟩ hs _), (hB.setCell (by simp) _).setCell (by simp) _⟩
  · obtain rfl : c = 1 := by omega
    obtain rfl : n = 1 := by omega
    obtain rfl : rs = [] := List.eq_nil_of_length_eq_zero Hr.out
    go_region_with (go_at_call 89; refine (cloneP_some b o 0 0 [] _ rfl (prow_nil _ _ _) (by omega)).mono ?_; rintro e w2 ⟨p, d, rfl, s1, s2, hb2⟩; have G1' := cellB hb2 G1; have G2' := cellB hb2 G2; have G3' := cellB hb2 G3; have G4' := cellB hb2 G4; have G5' : w2.frozen? ⟨w.heap.size, 0, none⟩ = false := (hb2.frozen (p := ⟨w.heap.size, 0, none⟩) hs).trans G5; have G6' : w2.frozen? ⟨w.heap.size, 1, none⟩ = false := (hb2.frozen (p := ⟨w.heap.size, 1, none⟩) hs).trans G6; have HB2 := Lib.hid hb2; clear hb2)
    all_goals
      have hB := below_from HB1.out.drew HB2.out
      have hs2 := HB2.out.size
      rw [World.size_drew] at hs2
      clear G1 G2 G3 G4 G5 G6
      go_wp2
      refine bp_cell_tmp2 ⟨w.heap.size, 0, none⟩ rfl rfl rfl (load_put _ _ _ _ _ (by go_cell_look) (by go_cell_look)) ?_
      refine ⟨p, d, rfl, s1, plF_mono (Nat.le_of_lt hs) (plF_set (plF_set s2 ⟨w.heap.size, 0, none⟩ hs _) ⟨w.heap.size, 1, none⟩ hs _), (hB.setCell (by simp) _).setCell (by simp) _⟩

theorem Pop_any (a : Option Addr) (n c : Nat) (ps : List (Int × Int)) (w : World) (S : Pl w a n ps) (hcap : CapOk a n c) (hn2 : n ≤ 1000) :
    Calls Tryz.prog 57 #[.slice a n c] w (PopPost (firstP ps) (restP ps) (popE ps) w) := by
  by_cases h0 : n = 0
  · subst h0
    obtain rfl : ps = [] := List.eq_nil_of_length_eq_zero S.1
    exact Pop_none a c w
  · obtain ⟨hl, hp⟩ := S
    obtain ⟨b, o, rfl, R⟩ := hp.resolve_left h0
    have : popE ps = 0 := by rw [popE, if_neg]; rintro rfl; simp at hl; omega
    rw [this]
    exact Pop_some b o n c ps w hl R (by omega) hn2 hcap.1 hcap.2.1
end Go.Proofs.YtiebaeaomgpicaaGreat
/- The contract of buffer.Fold. -/
namespace Go.Proofs.YtiebaeaomgpicaaGreat
open Go.ChangeShapes Go.WideShapes Go.ChangeAt Go.RowKit

/-- a memory, a number and an error -/
def FoldPost (ws ts : List Int) (k x : Int) (w : World) (e : Ending) (w' : World) : Prop :=
  ∃ a n c a' n' c', e = .returned (.tuple #[.agg #[.slice a n c, .slice a' n' c'], .int .i64 k, .int .i64 x]) ∧ SlF w.heap.size w' a n ws ∧ SlF w.heap.size w' a' n' ts ∧ Below w.heap.size w w'
theorem foldPost_nil {ws ts : List Int} {k x : Int} (hw : ws = []) (ht : ts = []) {w w' : World} (hb : Below w.heap.size w w') : FoldPost ws ts k x w (.returned (.tuple #[.agg #[.slice none 0 0, .slice none 0 0], .int .i64 k, .int .i64 x])) w' := by
  subst hw; subst ht; exact ⟨_, _, _, _, _, _, rfl, slF_nil _ _, slF_nil _ _, hb⟩
/-- the memory at work: a variable at block g, its rows not in g, and from F on -/
def MemAt (F g : Nat) (ws ts : List Int) (w : World) : Prop :=
  ∃ p l d p' l' d', w.cell? ⟨g, 0, none⟩ = some (.slice p l d) ∧ w.cell? ⟨g, 1, none⟩ = some (.slice p' l' d') ∧ w.frozen? ⟨g, 0, none⟩ = false ∧ w.frozen? ⟨g, 1, none⟩ = false ∧ SlP (fun b => F ≤ b ∧ b ≠ g) w p l ws ∧ SlP (fun b => F ≤ b ∧ b ≠ g) w p' l' ts
def FoldCut (w w1 : World) (ws ts : List Int) (s7 : Value) (wx : World) : Prop := ∃ g, s7 = .pointer (some ⟨g, 0, none⟩) ∧ w.heap.size + 1 < g ∧ MemAt (w.heap.size + 2) g ws ts wx ∧ Below w1.heap.size w1 wx

theorem slF_P {Q : Nat → Prop} {F : Nat} {w : World} {a : Option Addr} {n : Nat} {zs : List Int} (hQ : ∀ b, Q b → F ≤ b) (h : SlP Q w a n zs) : SlF F w a n zs := ⟨h.1, h.2.imp id fun ⟨b, o, e, hq, r⟩ => ⟨b, o, e, hQ b hq, r⟩⟩
theorem set2_0 {w : World} {g : Nat} (x y : Value) (h : (w.cell? ⟨g, 0, none⟩).isSome = true) : ((w.setCell ⟨g, 0, none⟩ x).setCell ⟨g, 1, none⟩ y).cell? ⟨g, 0, none⟩ = some x := by
  rw [World.cell?_setCell_other]
  · exact World.cell?_setCell_same' _ _ _ h
  · intro h; simp at h
theorem set2_1 {w : World} {g : Nat} (x y : Value) (h : (w.cell? ⟨g, 1, none⟩).isSome = true) : ((w.setCell ⟨g, 0, none⟩ x).setCell ⟨g, 1, none⟩ y).cell? ⟨g, 1, none⟩ = some y := by
  refine World.cell?_setCell_same' _ _ _ ?_
  rw [World.cell?_setCell_other]
  · exact h
  · intro h; simp at h
/-- a row that was there ahead of block g's making, from F on -/
theorem slP_at {F B g : Nat} {w : World} {a : Option Addr} {n : Nat} {zs : List Int} (h : SlF B w a n zs) (hf : F ≤ B) (hg : w.heap.size ≤ g ∨ g < B) : SlP (fun b => F ≤ b ∧ b ≠ g) w a n zs := by
  refine ⟨h.1, ?_⟩
  by_cases h0 : n = 0
  · exact .inl h0
  · obtain ⟨b, o, e, hb, r⟩ := h.2.resolve_left h0
    have := cell_lt (r 0 (by have := h.1; omega))
    dsimp only at this
    exact .inr ⟨b, o, e, ⟨by omega, by omega⟩, r⟩

theorem foldCut_new {w w1 wy : World} {ws ts : List Int} {p p' : Option Addr} {n n' d d' : Nat} (hs1 : w.heap.size + 2 ≤ w1.heap.size) (hb : Below w1.heap.size w1 wy)
    (P1 : SlP (fun b => w.heap.size + 2 ≤ b ∧ b ≠ wy.heap.size) wy p n ws) (P2 : SlP (fun b => w.heap.size + 2 ≤ b ∧ b ≠ wy.heap.size) wy p' n' ts) :
    FoldCut w w1 ws ts (.pointer (some ⟨wy.heap.size, 0, none⟩)) (wy.alloc (.cells #[.slice p n d, .slice p' n' d'] 43)) := by
  have := hb.size
  exact ⟨_, rfl, by omega, ⟨p, n, d, p', n', d', cell_new _ _ _ rfl rfl, cell_new _ _ _ rfl rfl, frozen_new _ _ rfl, frozen_new _ _ rfl, slPA _ P1, slPA _ P2⟩, hb.alloc hb.size _⟩
theorem foldCut_set {w w1 wy : World} {ws ts : List Int} {p p' : Option Addr} {n n' d d' g : Nat} {x y : Value} (hs1 : w.heap.size + 2 ≤ w1.heap.size) (hg : w1.heap.size ≤ g) (hb : Below w1.heap.size w1 wy)
    (Y0 : wy.cell? ⟨g, 0, none⟩ = some x) (Y1 : wy.cell? ⟨g, 1, none⟩ = some y) (Y2 : wy.frozen? ⟨g, 0, none⟩ = false) (Y3 : wy.frozen? ⟨g, 1, none⟩ = false)
    (P1 : SlP (fun b => w.heap.size + 2 ≤ b ∧ b ≠ g) wy p n ws) (P2 : SlP (fun b => w.heap.size + 2 ≤ b ∧ b ≠ g) wy p' n' ts) :
    FoldCut w w1 ws ts (.pointer (some ⟨g, 0, none⟩)) ((wy.setCell ⟨g, 0, none⟩ (.slice p n d)).setCell ⟨g, 1, none⟩ (.slice p' n' d')) :=
  ⟨g, rfl, by omega, ⟨p, n, d, p', n', d', set2_0 _ _ (by rw [Y0]; rfl), set2_1 _ _ (by rw [Y1]; rfl), by rw [World.frozen?_setCell, World.frozen?_setCell]; exact Y2, by rw [World.frozen?_setCell, World.frozen?_setCell]; exact Y3,
    slP_set ⟨g, 1, none⟩ (fun b hb => hb.2) _ (slP_set ⟨g, 0, none⟩ (fun b hb => hb.2) _ P1), slP_set ⟨g, 1, none⟩ (fun b hb => hb.2) _ (slP_set ⟨g, 0, none⟩ (fun b hb => hb.2) _ P2)⟩, (hb.setCell hg _).setCell hg _⟩
theorem frozenB {w w' : World} {a : Addr} {v : Value} (hb : Below w.heap.size w w') (h : w.cell? a = some v) (f : w.frozen? a = false) : w'.frozen? a = false := (hb.frozen (cell_lt h)).trans f

end Go.Proofs.YtiebaeaomgpicaaGreat
/- Contracts of package tso: misses, slices.IndexFunc, ContainsFunc, right, has. -/
namespace Go.Proofs.YtiebaeaomgpicaaGreat
open Go.ChangeShapes Go.WideShapes Go.ChangeAt Go.RowKit

theorem ret_val {a b : Value} (h : a = b) : Ending.returned a = .returned b := by rw [h]

theorem tsoMisses_any (a a' q : Option Addr) (n c n' c' l d : Nat) (D x y : Int) (w : World) :
    Calls Tryz.prog 106 #[.agg #[.slice a n c, .slice a' n' c', .int .i64 D, .slice q l d], .agg #[.int .i64 x, .int .i64 y]] w (BoolPost (!(inP n (x, y))) w) := by
  have H := Lib.hid (show inP n (x, y) = decide (0 ≤ x ∧ x < n) from rfl)
  by_cases h1 : 0 ≤ x
  · have q1 : decide (x < 0) = false := by simp; omega
    go_enter Tryz.func106, Tryz.ntmps106
    go_wp2
    go_ret
    exact boolPost_mk (by rw [H.out, Bool.eq_iff_iff]; simp; omega) (by go_grown)
  · have q1 : decide (x < 0) = true := by simp; omega
    go_enter Tryz.func106, Tryz.ntmps106
    go_wp2
    go_ret
    exact boolPost_mk (by rw [H.out]; simp [h1]) (by go_grown)

def IdxPost (t : Bool) (w : World) (e : Ending) (w' : World) : Prop := ∃ i : Int, e = .returned (.int .i64 i) ∧ decide (0 ≤ i) = t ∧ Below w.heap.size w w'
theorem idxPost_mk {t : Bool} {w w' : World} {i : Int} (h : decide (0 ≤ i) = t) (hb : Below w.heap.size w w') : IdxPost t w (.returned (.int .i64 i)) w' := ⟨i, rfl, h, hb⟩
theorem all_put {N : Nat} {b : List (Int × Int)} {k : Nat} (hk : k < b.length) (h : inP N (b.getD k (0, 0)) = false) : b.all (inP N) = false := by
  have e : b.getD k (0, 0) = b[k] := by simp [hk]
  rw [e] at h
  exact List.all_eq_false.2 ⟨b[k], List.getElem_mem hk, by rw [h]; decide⟩
theorem all_done {N : Nat} {b : List (Int × Int)} (h : PutsTo N b b.length) : b.all (inP N) = true := by
  simp only [List.all_eq_true]
  intro p hp
  obtain ⟨i, hi, rfl⟩ := List.mem_iff_getElem.1 hp
  have := h i hi
  simpa [hi] using this

set_option maxHeartbeats 2000000 in
theorem idxMiss_any (p : Option Addr) (m mc : Nat) (ps : List (Int × Int)) (a a' q : Option Addr) (n c n' c' l d : Nat) (D : Int) (w : World) (S : Pl w p m ps) (hm : m ≤ 9223372036854775807) :
    Calls Tryz.prog 109 #[.slice p m mc, .func (.func 106) #[.agg #[.slice a n c, .slice a' n' c', .int .i64 D, .slice q l d]] #[]] w (IdxPost (!(ps.all (inP n))) w) := by
  have Hn := Lib.hid S.1
  go_enter Tryz.func109, Tryz.ntmps109
  go_wp2
  go_loopw [8] (fun s wr => ∃ k : Nat, k ≤ m ∧ s = .int .i64 k ∧ Hid (PutsTo n ps k) ∧ Below w.heap.size w wr) (fun s _ => m - (intOf s).toNat)
  case atStart => exact ⟨0, by omega, rfl, by intro j hj; omega, Below.refl _ _⟩
  case round =>
    obtain ⟨k, hk, rfl, hs, hb⟩ := hrel
    by_cases hlt : k < m
    · obtain ⟨b, o, rfl, R⟩ := S.2.resolve_left (by omega)
      have g := R k (by rw [Hn.out]; exact hlt)
      have g1 := cellB hb g.1
      have g2 := cellB hb g.2
      obtain ⟨x, hx⟩ : ∃ x, ps.getD k (0, 0) = x := ⟨_, rfl⟩
      rw [hx] at g1 g2
      obtain ⟨x1, x2⟩ := x
      have HX := Lib.hid hx
      have HB := Lib.hid hb
      dsimp only at g1 g2
      have i1 : (0 : Int) ≤ k := by omega
      have i2 : (k : Int) < m := by omega
      clear g hx hb
      cases hin : inP n (x1, x2) with
      | true =>
        have HS := Lib.hid (putsTo_succ hs.out (by rw [HX.out]; exact hin))
        have HI := Lib.hid hin
        clear hin
        go_wp2_with (go_at_call 106; refine (tsoMisses_any a a' q n c n' c' l d D x1 x2 _).mono ?_; rw [HI.out]; rintro e w1 ⟨rfl, hb1⟩; have HB1 := Lib.hid (below_from HB.out hb1); clear hb1)
        go_roundw
        case rel => exact ⟨k + 1, by omega, by go_num, HS.out, HB1.out⟩
        case measure => simp [intOf]; omega
      | false =>
        have HS := Lib.hid (all_put (N := n) (b := ps) (k := k) (by rw [Hn.out]; exact hlt) (by rw [HX.out]; exact hin))
        have HI := Lib.hid hin
        clear hin
        go_wp2_with (go_at_call 106; refine (tsoMisses_any a a' q n c n' c' l d D x1 x2 _).mono ?_; rw [HI.out]; rintro e w1 ⟨rfl, hb1⟩; have HB1 := Lib.hid (below_from HB.out hb1); clear hb1)
        go_ret
        exact idxPost_mk (by rw [HS.out]; simp) HB1.out
    · obtain rfl : k = m := by omega
      have HS := Lib.hid (all_done (N := n) (b := ps) (by rw [Hn.out]; exact hs.out))
      have HB := Lib.hid hb
      clear hb
      go_wp2
      go_ret
      exact idxPost_mk (by rw [HS.out]; rfl) HB.out

set_option maxHeartbeats 2000000 in
theorem containsMiss_any (p : Option Addr) (m mc : Nat) (ps : List (Int × Int)) (a a' q : Option Addr) (n c n' c' l d : Nat) (D : Int) (w : World) (S : Pl w p m ps) (hm : m ≤ 9223372036854775807) :
    Calls Tryz.prog 105 #[.slice p m mc, .func (.func 106) #[.agg #[.slice a n c, .slice a' n' c', .int .i64 D, .slice q l d]] #[]] w (BoolPost (!(ps.all (inP n))) w) := by
  go_enter Tryz.func105, Tryz.ntmps105
  go_wp2_with fail
  refine (idxMiss_any p m mc ps a a' q n c n' c' l d D _ S hm).mono ?_
  rintro e w1 ⟨i, rfl, ht, hb⟩
  have HT := Lib.hid ht
  have HB := Lib.hid hb
  clear ht hb
  go_wp2
  go_ret
  exact boolPost_mk HT.out.symm HB.out

set_option maxHeartbeats 4000000 in
theorem tsoRight_any (a a' q : Option Addr) (n c n' c' l d : Nat) (ws ts : List Int) (D : Int) (bs : List (List (Int × Int))) (w : World) (S1 : Sl w a n ws) (S2 : Sl w a' n' ts) (S : Bl w q l bs) :
    Calls Tryz.prog 88 #[.agg #[.slice a n c, .slice a' n' c', .int .i64 D, .slice q l d]] w (BoolPost (mayT ws ts D bs) w) := by
  have Hn := Lib.hid S1.1
  have Hl := Lib.hid S.1
  have hmf : ∀ (fn : Fn) (first cap : Array Value) (w : World), (Instr.makeFunc fn first cap).run Tryz.prog w = .ok (.func fn first cap) w := fun _ _ _ _ => rfl
  cases hm : mayB ws ts with
  | false =>
    have HM := Lib.hid hm
    have HT := Lib.hid (show mayT ws ts D bs = false by simp [mayT, hm])
    clear hm
    go_enter Tryz.func88, Tryz.ntmps88
    go_wp2_with fail
    refine (Right_any a a' n c n' c' ws ts _ (slA _ S1) (slA _ S2)).mono ?_
    rintro e w1 ⟨rfl, hb⟩
    rw [HM.out]
    have HB := Lib.hid (below_from (by go_grown) hb : Below w.heap.size w w1)
    clear hb
    go_wp2
    go_ret
    exact boolPost_mk HT.out HB.out
  | true =>
    have HM := Lib.hid hm
    clear hm
    by_cases hs : sizesB l D = true
    · have hs' : sizesB bs.length D = true := by rw [Hl.out]; exact hs
      have HS := Lib.hid hs'
      simp only [sizesB, decide_eq_true_eq] at hs
      obtain ⟨s1, s2, s3, s4⟩ := hs
      have s1' : 1 ≤ l := by omega
      have s2' : l ≤ 8 := by omega
      clear hs'
      go_enter Tryz.func88, Tryz.ntmps88
      go_wp2_with fail
      refine (Right_any a a' n c n' c' ws ts _ (slA _ S1) (slA _ S2)).mono ?_
      rintro e w1 ⟨rfl, hb⟩
      rw [HM.out]
      have hb1 : Below w.heap.size w w1 := below_from (by go_grown) hb
      have c0 : w1.cell? ⟨w.heap.size, 0, none⟩ = some (.slice a n c) := cellB hb (by simp)
      have c1 : w1.cell? ⟨w.heap.size, 1, none⟩ = some (.slice a' n' c') := cellB hb (by simp)
      have c2 : w1.cell? ⟨w.heap.size, 2, none⟩ = some (.int .i64 D) := cellB hb (by simp)
      have c3 : w1.cell? ⟨w.heap.size, 3, none⟩ = some (.slice q l d) := cellB hb (by simp)
      have HB1 := Lib.hid hb1
      have S' := blB hb1 S
      clear hb hb1
      go_wp2
      go_loopw [38] (fun s wr => ∃ k : Nat, k ≤ l ∧ s = .int .i64 k ∧ Hid (BufsTo ws.length D bs k) ∧ Below w1.heap.size w1 wr) (fun s _ => l - (intOf s).toNat)
      case atStart => exact ⟨0, by omega, rfl, by intro j hj; omega, Below.refl _ _⟩
      case round =>
        obtain ⟨k, hk, rfl, hr, hb⟩ := hrel
        have c0' := cellB hb c0
        have c1' := cellB hb c1
        have c2' := cellB hb c2
        have c3' := cellB hb c3
        have HB := Lib.hid hb
        by_cases hlt : k < l
        · obtain ⟨b, o, p, pc, rfl, k0, hcap, hp⟩ := bl_at (blB hb S') hlt
          obtain ⟨x, hx⟩ : ∃ x, bs.getD k [] = x := ⟨_, rfl⟩
          rw [hx] at k0 hp hcap
          have HX := Lib.hid hx
          obtain ⟨m, hm⟩ : ∃ m, x.length = m := ⟨_, rfl⟩
          rw [hm] at k0 hp hcap
          have HM := Lib.hid hm
          have hcap1 := hcap.1
          have hcap2 := hcap.2.1
          have i1 : (0 : Int) ≤ k := by omega
          have i2 : (k : Int) < l := by omega
          clear hx hm hb hcap
          by_cases hD : D < m
          · have HF := Lib.hid (mayT_buf (ws := ws) (ts := ts) (D := D) (bs := bs) (k := k) (by rw [Hl.out]; exact hlt) (by rw [HX.out]; simp [bufB, HM.out]; omega))
            go_wp2
            go_ret
            exact boolPost_mk HF.out (HB1.out.trans (HB.out.mono HB1.out.size))
          · have hD' : (m : Int) ≤ D := by omega
            cases hin : x.all (inP n) with
            | false =>
              have HF := Lib.hid (mayT_buf (ws := ws) (ts := ts) (D := D) (bs := bs) (k := k) (by rw [Hl.out]; exact hlt) (by rw [HX.out, Hn.out]; simp only [bufB]; rw [hin]; simp))
              have HI := Lib.hid hin
              clear hin
              go_wp2_with (go_at_call 105; refine (containsMiss_any p m pc x a a' (some ⟨b, o, none⟩) n c n' c' l d D _ hp (by omega)).mono ?_; rw [HI.out]; rintro e w2 ⟨rfl, hb2⟩; have HB2 := Lib.hid (below_from HB.out hb2); clear hb2)
              go_ret
              exact boolPost_mk HF.out (HB1.out.trans (HB2.out.mono HB1.out.size))
            | true =>
              have HF := Lib.hid (bufsTo_succ hr.out (by rw [HX.out, Hn.out]; simp only [bufB, HM.out]; rw [hin]; simpa using hD'))
              have HI := Lib.hid hin
              clear hin
              go_wp2_with (go_at_call 105; refine (containsMiss_any p m pc x a a' (some ⟨b, o, none⟩) n c n' c' l d D _ hp (by omega)).mono ?_; rw [HI.out]; rintro e w2 ⟨rfl, hb2⟩; have HB2 := Lib.hid (below_from HB.out hb2); clear hb2)
              go_roundw
              case rel => exact ⟨k + 1, by omega, by go_num, HF.out, HB2.out⟩
              case measure => simp [intOf]; omega
        · obtain rfl : k = l := by omega
          have HF := Lib.hid (mayT_done HM.out HS.out (by rw [Hl.out]; exact hr.out))
          clear hb
          go_wp2
          go_ret
          exact boolPost_mk HF.out (HB1.out.trans (HB.out.mono HB1.out.size))
    · have HT := Lib.hid (show mayT ws ts D bs = false by
        have : sizesB bs.length D = false := by rw [Hl.out]; simpa using hs
        simp [mayT, this])
      have hs' : ¬ ((1 : Int) ≤ l ∧ (l : Int) ≤ 8 ∧ 0 ≤ D ∧ D ≤ 8) := by simpa [sizesB] using hs
      clear hs
      go_enter Tryz.func88, Tryz.ntmps88
      go_wp2_with fail
      refine (Right_any a a' n c n' c' ws ts _ (slA _ S1) (slA _ S2)).mono ?_
      rintro e w1 ⟨rfl, hb⟩
      rw [HM.out]
      have hb1 : Below w.heap.size w w1 := below_from (by go_grown) hb
      have c2 : w1.cell? ⟨w.heap.size, 2, none⟩ = some (.int .i64 D) := cellB hb (by simp)
      have c3 : w1.cell? ⟨w.heap.size, 3, none⟩ = some (.slice q l d) := cellB hb (by simp)
      have HB1 := Lib.hid hb1
      clear hb hb1
      by_cases d0 : D < 0
      · go_wp2
        go_ret
        exact boolPost_mk HT.out HB1.out
      · by_cases d1 : 8 < D
        · go_wp2
          go_ret
          exact boolPost_mk HT.out HB1.out
        · by_cases d2 : (l : Int) < 1
          · go_wp2
            go_ret
            exact boolPost_mk HT.out HB1.out
          · have d3 : 8 < (l : Int) := by omega
            go_wp2
            go_ret
            exact boolPost_mk HT.out HB1.out

set_option maxHeartbeats 4000000 in
theorem tsoHas_any (a a' q : Option Addr) (n c n' c' l d : Nat) (ws ts : List Int) (D th : Int) (bs : List (List (Int × Int))) (w : World) (S1 : Sl w a n ws) (S2 : Sl w a' n' ts) (S : Bl w q l bs) :
    Calls Tryz.prog 56 #[.agg #[.slice a n c, .slice a' n' c', .int .i64 D, .slice q l d], .int .i64 th] w (BoolPost (mayT ws ts D bs && thB bs th) w) := by
  have Hl := Lib.hid S.1
  have HT := Lib.hid (show thB bs th = decide (0 ≤ th ∧ th < l) by rw [thB, Hl.out])
  cases hm : mayT ws ts D bs with
  | false =>
    have HM := Lib.hid hm
    clear hm
    go_enter Tryz.func56, Tryz.ntmps56
    go_wp2_with fail
    refine (tsoRight_any a a' q n c n' c' l d ws ts D bs _ (slA _ S1) (slA _ S2) (blA _ S)).mono ?_
    rintro e w1 ⟨rfl, hb⟩
    rw [HM.out]
    have HB := Lib.hid (below_from (by go_grown) hb : Below w.heap.size w w1)
    clear hb
    go_wp2
    go_ret
    exact boolPost_mk (by simp) HB.out
  | true =>
    have HM := Lib.hid hm
    clear hm
    by_cases h0 : 0 ≤ th
    all_goals
      have q0 : decide (0 ≤ th) = decide (0 ≤ th) := rfl
      go_enter Tryz.func56, Tryz.ntmps56
      go_wp2_with fail
      refine (tsoRight_any a a' q n c n' c' l d ws ts D bs _ (slA _ S1) (slA _ S2) (blA _ S)).mono ?_
      rintro e w1 ⟨rfl, hb⟩
      rw [HM.out]
      have c3 : w1.cell? ⟨w.heap.size, 3, none⟩ = some (.slice q l d) := cellB hb (by simp)
      have HB := Lib.hid (below_from (by go_grown) hb : Below w.heap.size w w1)
      clear hb q0
      go_wp2
      go_ret
      exact boolPost_mk (by rw [HT.out, Bool.eq_iff_iff]; simp; try omega) HB.out
end Go.Proofs.YtiebaeaomgpicaaGreat
/- Contracts of package tso: slices.Clone of puts at every buffer, copied. -/
namespace Go.Proofs.YtiebaeaomgpicaaGreat
open Go.ChangeShapes Go.WideShapes Go.ChangeAt Go.RowKit

/-! rows of puts and of buffers with a word Q on their blocks -/
def PlQ (Q : Nat → Prop) (w : World) (a : Option Addr) (n : Nat) (ps : List (Int × Int)) : Prop := ps.length = n ∧ (n = 0 ∨ ∃ b o, a = some ⟨b, o, none⟩ ∧ Q b ∧ PRow w b o ps)
theorem PlQ.pl {Q : Nat → Prop} {w : World} {a : Option Addr} {n : Nat} {ps : List (Int × Int)} (h : PlQ Q w a n ps) : Pl w a n ps := ⟨h.1, h.2.imp id fun ⟨b, o, e, _, r⟩ => ⟨b, o, e, r⟩⟩
theorem plQ_F {Q : Nat → Prop} {F : Nat} {w : World} {a : Option Addr} {n : Nat} {ps : List (Int × Int)} (hQ : ∀ b, F ≤ b → b < w.heap.size → Q b) (h : PlF F w a n ps) : PlQ Q w a n ps := by
  refine ⟨h.1, ?_⟩
  by_cases h0 : n = 0
  · exact .inl h0
  · obtain ⟨b, o, e, hf, r⟩ := h.2.resolve_left h0
    have := cell_lt (r 0 (by have := h.1; omega)).1
    exact .inr ⟨b, o, e, hQ b hf this, r⟩
theorem plQ_old {Q : Nat → Prop} {w : World} {a : Option Addr} {n : Nat} {ps : List (Int × Int)} (hQ : ∀ b, b < w.heap.size → Q b) (h : Pl w a n ps) : PlQ Q w a n ps := by
  refine ⟨h.1, ?_⟩
  by_cases h0 : n = 0
  · exact .inl h0
  · obtain ⟨b, o, e, r⟩ := h.2.resolve_left h0
    have := cell_lt (r 0 (by have := h.1; omega)).1
    exact .inr ⟨b, o, e, hQ b this, r⟩
theorem plQ_mono {Q Q' : Nat → Prop} {w : World} {a : Option Addr} {n : Nat} {ps : List (Int × Int)} (hQ : ∀ b, Q b → Q' b) (h : PlQ Q w a n ps) : PlQ Q' w a n ps := ⟨h.1, h.2.imp id fun ⟨b, o, e, hf, r⟩ => ⟨b, o, e, hQ b hf, r⟩⟩
theorem plQ_keep {Q : Nat → Prop} {w w' : World} {a : Option Addr} {n : Nat} {ps : List (Int × Int)} (hk : ∀ (b o : Nat) (v : Value), Q b → w.cell? ⟨b, o, none⟩ = some v → w'.cell? ⟨b, o, none⟩ = some v) (h : PlQ Q w a n ps) : PlQ Q w' a n ps :=
  ⟨h.1, h.2.imp id fun ⟨b, o, e, hq, r⟩ => ⟨b, o, e, hq, fun i hi => ⟨hk _ _ _ hq (r i hi).1, hk _ _ _ hq (r i hi).2⟩⟩⟩
theorem slP_keep {Q : Nat → Prop} {w w' : World} {a : Option Addr} {n : Nat} {zs : List Int} (hk : ∀ (b o : Nat) (v : Value), Q b → w.cell? ⟨b, o, none⟩ = some v → w'.cell? ⟨b, o, none⟩ = some v) (h : SlP Q w a n zs) : SlP Q w' a n zs :=
  ⟨h.1, h.2.imp id fun ⟨b, o, e, hq, r⟩ => ⟨b, o, e, hq, fun i hi => hk _ _ _ hq (r i hi)⟩⟩
theorem plQB {Q : Nat → Prop} {w w' : World} {a : Option Addr} {n : Nat} {ps : List (Int × Int)} (hb : Below w.heap.size w w') (h : PlQ Q w a n ps) : PlQ Q w' a n ps := plQ_keep (fun _ _ _ _ hv => cellB hb hv) h
theorem keep_set {w : World} {p : Addr} {x : Value} {Q : Nat → Prop} (hp : ∀ b, Q b → b ≠ p.block) : ∀ (b o : Nat) (v : Value), Q b → w.cell? ⟨b, o, none⟩ = some v → (w.setCell p x).cell? ⟨b, o, none⟩ = some v := by
  intro b o v hq hv
  rw [World.cell?_setCell_other]
  · exact hv
  · intro e; exact hp b hq (by rw [e])
def BCellQ (Q : Nat → Prop) (w : World) (a : Addr) (b : List (Int × Int)) : Prop := ∃ q c, w.cell? a = some (.slice q b.length c) ∧ CapOk q b.length c ∧ PlQ Q w q b.length b
theorem BCellQ.cell {Q : Nat → Prop} {w : World} {a : Addr} {b : List (Int × Int)} (h : BCellQ Q w a b) : BCell w a b := by
  obtain ⟨q, c, h1, h2, h3⟩ := h
  exact ⟨q, c, h1, h2, h3.pl⟩
theorem bcellQ_keep {Q : Nat → Prop} {w w' : World} {a : Addr} {b : List (Int × Int)} (ha : ∀ v, w.cell? a = some v → w'.cell? a = some v) (hk : ∀ (b o : Nat) (v : Value), Q b → w.cell? ⟨b, o, none⟩ = some v → w'.cell? ⟨b, o, none⟩ = some v) (h : BCellQ Q w a b) : BCellQ Q w' a b := by
  obtain ⟨q, c, h1, h2, h3⟩ := h
  exact ⟨q, c, ha _ h1, h2, plQ_keep hk h3⟩
theorem bcellQ_mono {Q Q' : Nat → Prop} (hQ : ∀ b, Q b → Q' b) {w : World} {a : Addr} {b : List (Int × Int)} (h : BCellQ Q w a b) : BCellQ Q' w a b := by
  obtain ⟨q, c, h1, h2, h3⟩ := h
  exact ⟨q, c, h1, h2, plQ_mono hQ h3⟩
/-- a slice of buffers, of all blocks of which Q holds -/
def BlP (Q : Nat → Prop) (w : World) (a : Option Addr) (n : Nat) (bs : List (List (Int × Int))) : Prop := bs.length = n ∧ (n = 0 ∨ ∃ b o, a = some ⟨b, o, none⟩ ∧ Q b ∧ ∀ i, i < bs.length → BCellQ Q w ⟨b, o + i, none⟩ (bs.getD i []))
theorem BlP.bl {Q : Nat → Prop} {w : World} {a : Option Addr} {n : Nat} {bs : List (List (Int × Int))} (h : BlP Q w a n bs) : Bl w a n bs := ⟨h.1, h.2.imp id fun ⟨b, o, e, _, r⟩ => ⟨b, o, e, fun i hi => (r i hi).cell⟩⟩
theorem blP_nil (Q : Nat → Prop) (w : World) : BlP Q w none 0 [] := ⟨rfl, .inl rfl⟩
theorem blP_keep {Q : Nat → Prop} {w w' : World} {a : Option Addr} {n : Nat} {bs : List (List (Int × Int))} (hk : ∀ (b o : Nat) (v : Value), Q b → w.cell? ⟨b, o, none⟩ = some v → w'.cell? ⟨b, o, none⟩ = some v) (h : BlP Q w a n bs) : BlP Q w' a n bs :=
  ⟨h.1, h.2.imp id fun ⟨b, o, e, hq, r⟩ => ⟨b, o, e, hq, fun i hi => bcellQ_keep (fun _ hv => hk _ _ _ hq hv) hk (r i hi)⟩⟩
theorem blP_mono {Q Q' : Nat → Prop} (hQ : ∀ b, Q b → Q' b) {w : World} {a : Option Addr} {n : Nat} {bs : List (List (Int × Int))} (h : BlP Q w a n bs) : BlP Q' w a n bs :=
  ⟨h.1, h.2.imp id fun ⟨b, o, e, hq, r⟩ => ⟨b, o, e, hQ b hq, fun i hi => bcellQ_mono hQ (r i hi)⟩⟩
theorem blPB {Q : Nat → Prop} {w w' : World} {a : Option Addr} {n : Nat} {bs : List (List (Int × Int))} (hb : Below w.heap.size w w') (h : BlP Q w a n bs) : BlP Q w' a n bs := blP_keep (fun _ _ _ _ hv => cellB hb hv) h
/-- a row of l buffers of one's own, at block g; those from k on are still nil; no block of them lies below F -/
def BOwn (F g k l : Nat) (bs : List (List (Int × Int))) (w : World) : Prop := bs.length = l ∧ F ≤ g ∧ g < w.heap.size ∧ (∀ i, i < k → BCellQ (fun b => F ≤ b ∧ b ≠ g) w ⟨g, i, none⟩ (bs.getD i [])) ∧ (∀ i, k ≤ i → i < l → w.cell? ⟨g, i, none⟩ = some (.slice none 0 0)) ∧ ∀ i, i < l → w.frozen? ⟨g, i, none⟩ = false
theorem bown_cell {F g k l : Nat} {bs : List (List (Int × Int))} {w : World} (h : BOwn F g k l bs w) {i : Nat} (hi : i < l) : (w.cell? ⟨g, i, none⟩).isSome = true := by
  obtain ⟨h1, h2, h3, h4, h5, h6⟩ := h
  by_cases e : i < k
  · obtain ⟨q, c, e, _⟩ := h4 i e; rw [e]; rfl
  · rw [h5 i (by omega) hi]; rfl
theorem bown_B {F g k l : Nat} {bs : List (List (Int × Int))} {w w' : World} (hb : Below w.heap.size w w') (h : BOwn F g k l bs w) : BOwn F g k l bs w' := by
  obtain ⟨h1, h2, h3, h4, h5, h6⟩ := h
  have := hb.size
  exact ⟨h1, h2, by omega, fun i hi => bcellQ_keep (fun _ hv => cellB hb hv) (fun _ _ _ _ hv => cellB hb hv) (h4 i hi), fun i hk hi => cellB hb (h5 i hk hi), fun i hi => (hb.frozen (p := ⟨g, i, none⟩) h3).trans (h6 i hi)⟩
theorem bown_set {F g k l : Nat} {bs : List (List (Int × Int))} {w : World} (h : BOwn F g k l bs w) (j : Nat) (hj : j < l) (hjk : j ≤ k) (b : List (Int × Int)) {p : Option Addr} {m c : Nat} (hp : PlQ (fun b => F ≤ b ∧ b ≠ g) w p m b) (hc : CapOk p m c) (k' : Nat) (hk' : k' = if j = k then k + 1 else k) (bs' : List (List (Int × Int))) (hbs : bs'.length = l) (hb1 : bs'.getD j [] = b) (hb2 : ∀ i, i < k → i ≠ j → bs'.getD i [] = bs.getD i []) :
    BOwn F g k' l bs' (w.setCell ⟨g, j, none⟩ (.slice p m c)) := by
  have hs := bown_cell h hj
  obtain ⟨h1, h2, h3, h4, h5, h6⟩ := h
  have hkp : ∀ (b o : Nat) (v : Value), (F ≤ b ∧ b ≠ g) → w.cell? ⟨b, o, none⟩ = some v → (w.setCell ⟨g, j, none⟩ (.slice p m c)).cell? ⟨b, o, none⟩ = some v := keep_set (Q := fun b => F ≤ b ∧ b ≠ g) (fun b hb => hb.2)
  have hne : ∀ i, i ≠ j → ∀ v, w.cell? ⟨g, i, none⟩ = some v → (w.setCell ⟨g, j, none⟩ (.slice p m c)).cell? ⟨g, i, none⟩ = some v := by
    intro i hi v hv
    rw [World.cell?_setCell_other]
    · exact hv
    · intro e; exact hi (congrArg Addr.off e).symm
  refine ⟨hbs, h2, by simpa using h3, fun i hi => ?_, fun i hk hi => ?_, fun i hi => by rw [World.frozen?_setCell]; exact h6 i hi⟩
  · by_cases e : i = j
    · subst e
      obtain rfl : b.length = m := hp.1
      rw [hb1]
      exact ⟨p, c, World.cell?_setCell_same' _ _ _ hs, hc, plQ_keep hkp hp⟩
    · have hik : i < k := by rw [hk'] at hi; split at hi <;> omega
      rw [hb2 i hik e]
      exact bcellQ_keep (hne i e) hkp (h4 i hik)
  · refine hne i ?_ _ (h5 i ?_ hi)
    · rw [hk'] at hk; split at hk <;> omega
    · rw [hk'] at hk; split at hk <;> omega
theorem bown_bl {F g l : Nat} {bs : List (List (Int × Int))} {w : World} (h : BOwn F g l l bs w) : BlP (fun b => F ≤ b) w (some ⟨g, 0, none⟩) l bs := by
  obtain ⟨h1, h2, h3, h4, h5, h6⟩ := h
  refine ⟨h1, .inr ⟨g, 0, rfl, h2, fun i hi => ?_⟩⟩
  rw [Nat.zero_add]
  exact bcellQ_mono (fun b hb => hb.1) (h4 i (by omega))

/-! making -/
theorem Tryz.info67 : (Tryz.prog.info? 67).map (fun i => (i.zero, i.size, i.bytes)) = some (some (.slice none 0 0), 1, 24) := by kernel_rfl
def Nb (l : Nat) : Array Value := madeCells #[.slice none 0 0] l
theorem Nb_get (l i : Nat) (h : i < l) : (Nb l)[i]? = some (.slice none 0 0) := by
  unfold Nb madeCells
  simp [h, Nat.mod_one]
theorem make_bufs (n : Nat) (h : n ≤ 1000) (w : World) : (Instr.makeSlice 44 (.int .i64 n) (.int .i64 n)).run Tryz.prog w = .ok (.slice (some ⟨w.heap.size, 0, none⟩) n n) (w.alloc (.cells (Nb n) 67)) := by
  obtain ⟨i0, hi, hz0, hz1, hz2⟩ := info_parts Tryz.info67
  have := run_make (P := Tryz.prog) w 44 67 i0 (.slice none 0 0) Tryz.underlying44 hi hz0 .i64 .i64 n n (by omega) (by omega) (by rw [hz2]; omega) (by omega)
  rw [this]
  simp [hz1, Nb, Value.cells]
theorem bown_new (F l : Nat) (bs : List (List (Int × Int))) (w : World) (hl : bs.length = l) (hF : F ≤ w.heap.size) : BOwn F w.heap.size 0 l bs (w.alloc (.cells (Nb l) 67)) :=
  ⟨hl, hF, by simp, fun i hi => by omega, fun i _ hi => cell_new _ _ _ rfl (Nb_get l i hi), fun i hi => frozen_new _ _ rfl⟩

set_option maxHeartbeats 2000000 in
theorem cloneP_any (a : Option Addr) (n c : Nat) (ps : List (Int × Int)) (w : World) (S : Pl w a n ps) (hcap : CapOk a n c) (hn : n ≤ 1000) :
    Calls Tryz.prog 89 #[.slice a n c] w (ClonePPost ps w) := by
  have Hn := Lib.hid S.1
  cases a with
  | none =>
    obtain rfl : c = 0 := hcap.2.2 rfl
    obtain rfl : n = 0 := by have := hcap.1; omega
    obtain rfl : ps = [] := List.eq_nil_of_length_eq_zero Hn.out
    have q := fun w => eql_nil 67 96 none 0 0 Tryz.underlying67 w
    clear hcap
    go_enter Tryz.func89, Tryz.ntmps89
    go_wp2
    go_ret
    exact ⟨none, 0, rfl, capOk_nil, plF_nil _ _, Below.refl _ _⟩
  | some p =>
    have HC : Hid (∀ W, Below w.heap.size w W → ∀ j u, (pcells ps)[j]? = some u → W.cell? (p.add j) = some u) := by
      intro W hW j u hu
      have hj : j < ps.length * 2 := by rw [← pcells_length]; exact (List.getElem?_eq_some_iff.1 hu).1
      obtain ⟨b, o, e, R⟩ := S.2.resolve_left (by rw [← Hn.out]; omega)
      cases e
      rw [add_none]
      exact pcells_cell (prowB hW R) j u hu
    obtain ⟨i0, hi, hz0, hz1, hz2⟩ := info_parts Tryz.info96
    have HI := Lib.hid (And.intro hi (And.intro hz0 (And.intro hz1 hz2)))
    have q := fun w => eql_nil 67 96 (some p) n c Tryz.underlying67 w
    have h1 := hcap.1
    have h2 := hcap.2.1
    clear hi hz0 hz1 hz2 hcap S
    go_enter Tryz.func89, Tryz.ntmps89
    go_wp2_with (at_builtin; refine wpList_append_own _ rfl _ _ 67 rfl w.heap.size 96 i0 (.agg #[.int .i64 0, .int .i64 0]) 2 16 Tryz.underlying67 HI.out.1 HI.out.2.1 HI.out.2.2.1 HI.out.2.2.2 rfl (by decide) _ 0 [] rfl (World.ownsRow_made w #[] 0 (Nat.le_refl _) (by decide) (by simp)) p n c (pcells ps) rfl ?c1 ?c2 ?c3 ?c4 ?c5 ?c6 ?_)
    case c1 => rw [pcells_length, Hn.out]
    case c2 => exact HC.out _ (by go_grown)
    case c3 => exact pcells_one _
    case c4 => unfold maxLen; omega
    case c5 => omega
    case c6 => simp
    intro v' w1 hown' hgrow _
    have hb' := ((Below.refl w.heap.size w).alloc (Nat.le_refl _) (.cells #[] 96)).grown hgrow (by simp) (fun r hr => by cases hr; simp)
    have HO := Lib.hid hown'
    have HB := Lib.hid hb'
    clear hown' hb' hgrow
    go_wp2
    go_ret
    exact clonePPost_mk Hn.out HO.out HB.out

theorem bown_out {F g k l : Nat} {bs : List (List (Int × Int))} {w : World} (h : BOwn F g k l bs w) {p : Addr} (hp : p.block < F) (v : Value) : BOwn F g k l bs (w.setCell p v) := by
  obtain ⟨h1, h2, h3, h4, h5, h6⟩ := h
  have hk : ∀ (b o : Nat) (u : Value), F ≤ b → w.cell? ⟨b, o, none⟩ = some u → (w.setCell p v).cell? ⟨b, o, none⟩ = some u := keep_set (Q := fun b => F ≤ b) (fun b hb => by omega)
  exact ⟨h1, h2, by simpa using h3, fun i hi => bcellQ_keep (hk g i · h2) (fun b o u hq => hk b o u hq.1) (h4 i hi), fun i hi hl => hk _ _ _ h2 (h5 i hi hl), fun i hi => by rw [World.frozen?_setCell]; exact h6 i hi⟩
theorem bown_mono {F F' g k l : Nat} {bs : List (List (Int × Int))} {w : World} (hF : F' ≤ F) (h : BOwn F g k l bs w) : BOwn F' g k l bs w := by
  obtain ⟨h1, h2, h3, h4, h5, h6⟩ := h
  exact ⟨h1, by omega, h3, fun i hi => bcellQ_mono (fun b hb => ⟨by omega, hb.2⟩) (h4 i hi), h5, h6⟩
theorem slF_mono3 {F F' : Nat} {w : World} {a : Option Addr} {n : Nat} {zs : List Int} (hF : F' ≤ F) (h : SlF F w a n zs) : SlF F' w a n zs := ⟨h.1, h.2.imp id fun ⟨b, o, e, hq, r⟩ => ⟨b, o, e, by omega, r⟩⟩
theorem set4 {w : World} {g : Nat} (x y z u : Value) (h0 : (w.cell? ⟨g, 0, none⟩).isSome = true) (h1 : (w.cell? ⟨g, 1, none⟩).isSome = true) (h2 : (w.cell? ⟨g, 2, none⟩).isSome = true) (h3 : (w.cell? ⟨g, 3, none⟩).isSome = true) :
    ((((w.setCell ⟨g, 0, none⟩ x).setCell ⟨g, 1, none⟩ y).setCell ⟨g, 2, none⟩ z).setCell ⟨g, 3, none⟩ u).cell? ⟨g, 0, none⟩ = some x ∧ ((((w.setCell ⟨g, 0, none⟩ x).setCell ⟨g, 1, none⟩ y).setCell ⟨g, 2, none⟩ z).setCell ⟨g, 3, none⟩ u).cell? ⟨g, 1, none⟩ = some y ∧
    ((((w.setCell ⟨g, 0, none⟩ x).setCell ⟨g, 1, none⟩ y).setCell ⟨g, 2, none⟩ z).setCell ⟨g, 3, none⟩ u).cell? ⟨g, 2, none⟩ = some z ∧ ((((w.setCell ⟨g, 0, none⟩ x).setCell ⟨g, 1, none⟩ y).setCell ⟨g, 2, none⟩ z).setCell ⟨g, 3, none⟩ u).cell? ⟨g, 3, none⟩ = some u := by
  have ne : ∀ {i j : Nat}, i ≠ j → (⟨g, j, none⟩ : Addr) ≠ ⟨g, i, none⟩ := fun h e => h (congrArg Addr.off e).symm
  have st : ∀ {W : World} {i j : Nat} {v : Value}, i ≠ j → (W.setCell ⟨g, j, none⟩ v).cell? ⟨g, i, none⟩ = W.cell? ⟨g, i, none⟩ := fun h => World.cell?_setCell_other _ _ _ _ (ne h)
  refine ⟨?_, ?_, ?_, ?_⟩
  · rw [st (by decide), st (by decide), st (by decide)]; exact World.cell?_setCell_same' _ _ _ h0
  · rw [st (by decide), st (by decide)]; exact World.cell?_setCell_same' _ _ _ (by rw [st (by decide)]; exact h1)
  · rw [st (by decide)]; exact World.cell?_setCell_same' _ _ _ (by rw [st (by decide), st (by decide)]; exact h2)
  · exact World.cell?_setCell_same' _ _ _ (by rw [st (by decide), st (by decide), st (by decide)]; exact h3)

def CopyCut (w1 : World) (n n' : Nat) (ws ts : List Int) (s3 s4 : Value) (wx : World) : Prop := ∃ p d p' d', s3 = .slice p n d ∧ s4 = .slice p' n' d' ∧ SlF w1.heap.size wx p n ws ∧ SlF w1.heap.size wx p' n' ts ∧ Below w1.heap.size w1 wx
/-- a machine of one's own: no row lies below F, and the row of buffers is apart -/
def MachPost (ws ts : List Int) (D : Int) (bs : List (List (Int × Int))) (w : World) (e : Ending) (w' : World) : Prop :=
  ∃ p n d p' n' d' g m, e = .returned (.agg #[.slice p n d, .slice p' n' d', .int .i64 D, .slice (some ⟨g, 0, none⟩) m m]) ∧ SlP (fun b => w.heap.size ≤ b ∧ b ≠ g) w' p n ws ∧ SlP (fun b => w.heap.size ≤ b ∧ b ≠ g) w' p' n' ts ∧ BOwn w.heap.size g m m bs w' ∧ Below w.heap.size w w'
theorem load_tso (w : World) (b : Nat) (x y z u : Value) (k0 : w.cell? ⟨b, 0, none⟩ = some x) (k1 : w.cell? ⟨b, 1, none⟩ = some y) (k2 : w.cell? ⟨b, 2, none⟩ = some z) (k3 : w.cell? ⟨b, 3, none⟩ = some u) : (loadVar 103 ⟨b, 0, none⟩).run Tryz.prog w = .ok (.agg #[x, y, z, u]) w := by
  simp [go_sem, k0, k1, k2, k3]
theorem load_tso' (w : World) (b : Nat) (x y z u : Value) (k0 : w.cell? ⟨b, 0, none⟩ = some x) (k1 : w.cell? ⟨b, 1, none⟩ = some y) (k2 : w.cell? ⟨b, 2, none⟩ = some z) (k3 : w.cell? ⟨b, 3, none⟩ = some u) : (loadVar 46 ⟨b, 0, none⟩).run Tryz.prog w = .ok (.agg #[x, y, z, u]) w := by
  simp [go_sem, k0, k1, k2, k3]
end Go.Proofs.YtiebaeaomgpicaaGreat
/- The contract of package tso's copied. -/
namespace Go.Proofs.YtiebaeaomgpicaaGreat
open Go.ChangeShapes Go.WideShapes Go.ChangeAt Go.RowKit

theorem machPost_mk {ws ts : List Int} {D : Int} {bs : List (List (Int × Int))} {w wc wr : World} {p p' : Option Addr} {n n' d d' m : Nat} {x y z u : Value}
    (u1 : SlF (w.heap.size + 2) wc p n ws) (u2 : SlF (w.heap.size + 2) wc p' n' ts) (hb : Below wc.heap.size wc wr) (O : BOwn (w.heap.size + 2) wc.heap.size m m bs wr) (hb0 : Below w.heap.size w wc) :
    MachPost ws ts D bs w (.returned (.agg #[.slice p n d, .slice p' n' d', .int .i64 D, .slice (some ⟨wc.heap.size, 0, none⟩) m m])) ((((wr.setCell ⟨w.heap.size + 1, 0, none⟩ x).setCell ⟨w.heap.size + 1, 1, none⟩ y).setCell ⟨w.heap.size + 1, 2, none⟩ z).setCell ⟨w.heap.size + 1, 3, none⟩ u) := by
  have hz := hb0.size
  have hF : w.heap.size + 2 ≤ wc.heap.size := O.2.1
  have hk : ∀ (b o : Nat) (v : Value), (w.heap.size + 2 ≤ b ∧ b < wc.heap.size) → wc.cell? ⟨b, o, none⟩ = some v → ((((wr.setCell ⟨w.heap.size + 1, 0, none⟩ x).setCell ⟨w.heap.size + 1, 1, none⟩ y).setCell ⟨w.heap.size + 1, 2, none⟩ z).setCell ⟨w.heap.size + 1, 3, none⟩ u).cell? ⟨b, o, none⟩ = some v := by
    intro b o v hq hv
    have ne : ∀ j, (⟨w.heap.size + 1, j, none⟩ : Addr) ≠ ⟨b, o, none⟩ := fun j e => by have h := congrArg Addr.block e; dsimp only at h; omega
    rw [World.cell?_setCell_other _ _ _ _ (ne _), World.cell?_setCell_other _ _ _ _ (ne _), World.cell?_setCell_other _ _ _ _ (ne _), World.cell?_setCell_other _ _ _ _ (ne _)]
    exact cellB hb hv
  have rw' : ∀ {a : Option Addr} {k : Nat} {zs : List Int}, SlF (w.heap.size + 2) wc a k zs → SlP (fun b => w.heap.size + 2 ≤ b ∧ b < wc.heap.size) wc a k zs := by
    intro a k zs h
    refine ⟨h.1, ?_⟩
    by_cases h0 : k = 0
    · exact .inl h0
    · obtain ⟨b, o, e, hf, r⟩ := h.2.resolve_left h0
      exact .inr ⟨b, o, e, ⟨hf, cell_lt (r 0 (by have := h.1; omega))⟩, r⟩
  refine ⟨_, _, _, _, _, _, _, _, rfl, slP_mono (fun b hq => ⟨by omega, by omega⟩) (slP_keep hk (rw' u1)), slP_mono (fun b hq => ⟨by omega, by omega⟩) (slP_keep hk (rw' u2)), ?_, ?_⟩
  · exact bown_mono (by omega) (bown_out (bown_out (bown_out (bown_out O (by simp) _) (by simp) _) (by simp) _) (by simp) _)
  · exact ((((hb0.trans (hb.mono hz)).setCell (by simp) _).setCell (by simp) _).setCell (by simp) _).setCell (by simp) _

set_option maxRecDepth 100000 in
set_option maxHeartbeats 4000000 in
theorem copiedT_any (a a' q : Option Addr) (n c n' c' l d : Nat) (ws ts : List Int) (D : Int) (bs : List (List (Int × Int))) (w : World) (S1 : Sl w a n ws) (S2 : Sl w a' n' ts) (S : Bl w q l bs) (hm : mayT ws ts D bs = true) :
    Calls Tryz.prog 58 #[.agg #[.slice a n c, .slice a' n' c', .int .i64 D, .slice q l d]] w (MachPost ws ts D bs w) := by
  obtain ⟨m0, ⟨m1, m2⟩, ⟨m3, m4⟩, m5⟩ := mayT_parts hm
  obtain ⟨z0, z1, z2⟩ := mayB_size m0
  have Hw := Lib.hid S1.1
  have Ht := Lib.hid S2.1
  have Hl := Lib.hid S.1
  have hn1 : 1 ≤ n := by rw [← Hw.out]; exact z0
  have hn2 : n ≤ 160 := by rw [← Hw.out]; exact z1
  have hn3 : 1 ≤ n' := by rw [← Ht.out, z2]; exact z0
  have hn4 : n' ≤ 160 := by rw [← Ht.out, z2]; exact z1
  have hl1 : 1 ≤ l := by rw [← Hl.out]; exact m1
  have hl2 : l ≤ 8 := by rw [← Hl.out]; exact m2
  have H5 : Hid (∀ i, i < l → (bs.getD i []).length ≤ 8) := fun i hi => by have := (m5 i (by rw [Hl.out]; exact hi)).1; omega
  clear m0 m1 m2 m3 m4 m5 z0 z1 z2 hm
  go_enter Tryz.func58, Tryz.ntmps58
  go_upto_region 1 with fail
  obtain ⟨W, hW⟩ : ∃ W, W = (w.alloc (Obj.cells #[.slice a n c, .slice a' n' c', .int .i64 D, .slice q l d] 103)).alloc (Obj.cells #[.slice none 0 0, .slice none 0 0, .int .i64 0, .slice none 0 0] 103) := ⟨_, rfl⟩
  have b0 : Below w.heap.size w W := by rw [hW]; go_grown
  have hWs : W.heap.size = w.heap.size + 2 := by rw [hW]; simp
  have k0 : W.cell? ⟨w.heap.size, 0, none⟩ = some (.slice a n c) := by rw [hW]; exact cellA _ (by simp)
  have k1 : W.cell? ⟨w.heap.size, 1, none⟩ = some (.slice a' n' c') := by rw [hW]; exact cellA _ (by simp)
  have k2 : W.cell? ⟨w.heap.size, 2, none⟩ = some (.int .i64 D) := by rw [hW]; exact cellA _ (by simp)
  have k3 : W.cell? ⟨w.heap.size, 3, none⟩ = some (.slice q l d) := by rw [hW]; exact cellA _ (by simp)
  have r0 : W.cell? ⟨w.heap.size + 1, 0, none⟩ = some (.slice none 0 0) := by rw [hW]; simp
  have r1 : W.cell? ⟨w.heap.size + 1, 1, none⟩ = some (.slice none 0 0) := by rw [hW]; simp
  have r2 : W.cell? ⟨w.heap.size + 1, 2, none⟩ = some (.int .i64 0) := by rw [hW]; simp
  have r3 : W.cell? ⟨w.heap.size + 1, 3, none⟩ = some (.slice none 0 0) := by rw [hW]; simp
  have f0 : ∀ i, W.frozen? ⟨w.heap.size + 1, i, none⟩ = false := by intro i; rw [hW]; exact free_row (heap_new _ _ _ (by simp))
  rw [← hW]
  have HWs := Lib.hid hWs
  have HF0 := Lib.hid f0
  have T1 := slB b0 S1
  have T2 := slB b0 S2
  have T := blB b0 S
  have HB0 := Lib.hid b0
  clear hW hWs f0 b0 S1 S2 S
  go_cut [3, 4] (fun s3 s4 wx => CopyCut W n n' ws ts s3 s4 wx)
  case first =>
    have hB0 : Below W.heap.size W W.drew := (Below.refl _ _).drew
    go_region_held3 (fun w' => w'.cell? ⟨w.heap.size, 0, none⟩ = some (.slice a n c) ∧ w'.cell? ⟨w.heap.size, 1, none⟩ = some (.slice a' n' c') ∧ Below W.heap.size W w')
      (first | exact ⟨k0, k1, (Below.refl _ _).drew⟩ | (exact ⟨cellB (by assumption) k0, cellB (by assumption) k1, by assumption⟩))
      ((first | (go_at_call 90; refine (cloneI_any a n c ws _ (slB (by assumption) T1) (by omega) (.inl (by omega))).mono ?_; rintro e wx ⟨p, d, rfl, u1, hbx⟩; rw [Hw.out] at u1 ⊢; have hbx' := below_from (by assumption) hbx) | (go_at_call 90; refine (cloneI_any a' n' c' ts _ (slB (by assumption) T2) (by omega) (.inl (by omega))).mono ?_; rintro e wy ⟨p', d', rfl, u2, hby⟩; rw [Ht.out] at u2 ⊢; have hby' := below_from (by assumption) hby)))
    all_goals
      go_wp2_with fail
      go_meet
      first
        | exact ⟨_, _, _, _, rfl, rfl, slF_below hby u1, slF_mono3 (hbx'.size) u2, hby'⟩
        | exact ⟨_, _, _, _, rfl, rfl, slF_mono3 (hby'.size) u1, slF_below hbx u2, hbx'⟩
  case rest =>
    obtain ⟨p, d1, p', d2, rfl, rfl, u1, u2, hbx⟩ := hcut
    replace u1 := slF_mono3 (F' := w.heap.size + 2) (by rw [HWs.out]; exact Nat.le_refl _) u1
    replace u2 := slF_mono3 (F' := w.heap.size + 2) (by rw [HWs.out]; exact Nat.le_refl _) u2
    have hmk := make_bufs l (by omega)
    have hsz : w.heap.size + 2 ≤ wc.heap.size := by have := hbx.size; rw [HWs.out] at this; exact this
    have HBX := Lib.hid (below_from HB0.out hbx)
    replace k0 := cellB hbx k0
    replace k1 := cellB hbx k1
    replace k2 := cellB hbx k2
    replace k3 := cellB hbx k3
    have f0 := frozenB hbx r0 (HF0.out 0)
    have f1 := frozenB hbx r1 (HF0.out 1)
    have f2 := frozenB hbx r2 (HF0.out 2)
    have f3 := frozenB hbx r3 (HF0.out 3)
    replace r0 := cellB hbx r0
    replace r1 := cellB hbx r1
    replace r2 := cellB hbx r2
    replace r3 := cellB hbx r3
    replace T := blB hbx T
    have a3 := cellA (Obj.cells (Nb l) 67) k3
    have U1 := Lib.hid u1
    have U2 := Lib.hid u2
    clear hbx T1 T2 u1 u2 HWs HF0 HB0
    go_wp2_with fail
    go_loopw [27] (fun i wr => ∃ k : Nat, k ≤ l ∧ i = .int .i64 k ∧ Hid (BOwn (w.heap.size + 2) wc.heap.size k l bs wr) ∧ Below wc.heap.size wc wr) (fun i _ => l - (intOf i).toNat)
    case atStart => exact ⟨0, by omega, rfl, bown_new _ _ _ _ Hl.out hsz, (Below.refl _ _).alloc (Nat.le_refl _) _⟩
    case round =>
      obtain ⟨k, hk, rfl, hr, hb⟩ := hrel
      have k0' := cellB hb k0
      have k1' := cellB hb k1
      have k2' := cellB hb k2
      have k3' := cellB hb k3
      have HB := Lib.hid hb
      by_cases hlt : k < l
      · obtain ⟨b, o, y, yc, rfl, g0, hcap, hp⟩ := bl_at (blB hb T) hlt
        have h8 := H5.out k hlt
        obtain ⟨x, hx⟩ : ∃ x, bs.getD k [] = x := ⟨_, rfl⟩
        rw [hx] at g0 hp hcap h8
        have HX := Lib.hid hx
        obtain ⟨m, hm⟩ : ∃ m, x.length = m := ⟨_, rfl⟩
        rw [hm] at g0 hp hcap h8
        have HM := Lib.hid hm
        have i1 : (0 : Int) ≤ k := by omega
        have i2 : (k : Int) < l := by omega
        have HC := Lib.hid hcap
        clear hx hm hb hcap
        go_wp2_with (go_at_call 89; refine (cloneP_any y m yc x _ hp HC.out (by omega)).mono ?_; rintro e w2 ⟨y2, c2, rfl, hc2, hp2, hb2⟩; rw [HM.out] at hc2 hp2 ⊢; have O2 := bown_B hb2 hr.out; have G0 := O2.2.2.2.2.1 k (Nat.le_refl _) hlt; have G1 := O2.2.2.2.2.2 k hlt; have HO2 := Lib.hid O2; have HB2 := Lib.hid hb2; have HP2 := Lib.hid hp2; have HC2 := Lib.hid hc2; clear O2 hb2 hp2 hc2)
        have hsr := hr.out.2.2.1
        go_roundw
        case rel =>
          refine ⟨k + 1, by omega, by go_num, bown_set HO2.out k hlt (Nat.le_refl _) x (plQ_F (F := wr.heap.size) (fun b h1 h2 => ⟨by omega, by omega⟩) HP2.out) HC2.out _ (by simp) bs Hl.out HX.out (fun _ _ _ => rfl), (below_from HB.out HB2.out).setCell (Nat.le_refl _) _⟩
        case measure => simp [intOf]; omega
      · obtain rfl : k = l := by omega
        have r0' := cellB hb r0
        have r1' := cellB hb r1
        have r2' := cellB hb r2
        have r3' := cellB hb r3
        have f0' := frozenB hb r0 f0
        have f1' := frozenB hb r1 f1
        have f2' := frozenB hb r2 f2
        have f3' := frozenB hb r3 f3
        clear hb r0 r1 r2 r3 f0 f1 f2 f3 k0 k1 k2 k3
        go_wp2
        have R4 := set4 (w := wr) (g := w.heap.size + 1) (.slice p n d1) (.slice p' n' d2) (.int .i64 D) (.slice (some ⟨wc.heap.size, 0, none⟩) k k) (by rw [r0']; rfl) (by rw [r1']; rfl) (by rw [r2']; rfl) (by rw [r3']; rfl)
        refine bp_cell ⟨w.heap.size + 1, 0, none⟩ rfl rfl rfl (load_tso _ _ _ _ _ _ R4.1 R4.2.1 R4.2.2.1 R4.2.2.2) ?_
        exact machPost_mk U1.out U2.out HB.out hr.out HBX.out
end Go.Proofs.YtiebaeaomgpicaaGreat
/- Contracts of package tso: holding, stored. -/
namespace Go.Proofs.YtiebaeaomgpicaaGreat
open Go.ChangeShapes Go.WideShapes Go.ChangeAt Go.RowKit

def HoldPost (F g m : Nat) (v : Value) (bs : List (List (Int × Int))) (w : World) (e : Ending) (w' : World) : Prop :=
  e = .returned v ∧ BOwn F g m m bs w' ∧ (∀ (b o : Nat) (u : Value), b ≠ g → w.cell? ⟨b, o, none⟩ = some u → w'.cell? ⟨b, o, none⟩ = some u) ∧ Below F w w'
theorem bown_A {F g k l : Nat} {bs : List (List (Int × Int))} {w : World} (o : Obj) (h : BOwn F g k l bs w) : BOwn F g k l bs (w.alloc o) := bown_B ((Below.refl _ _).alloc (Nat.le_refl _) _) h

theorem bown_upd {F g m th : Nat} {bs : List (List (Int × Int))} {w Z : World} {p : Option Addr} {k kc : Nat} {b : List (Int × Int)} (O : BOwn F g m m bs w) (hth : th < m) (hp : PlQ (fun x => F ≤ x ∧ x ≠ g) w p k b) (hc : CapOk p k kc) (hz : g < Z.heap.size)
    (K1 : ∀ (b o : Nat) (u : Value), b ≠ g → w.cell? ⟨b, o, none⟩ = some u → Z.cell? ⟨b, o, none⟩ = some u) (K2 : ∀ i, i ≠ th → ∀ u, w.cell? ⟨g, i, none⟩ = some u → Z.cell? ⟨g, i, none⟩ = some u) (K3 : Z.cell? ⟨g, th, none⟩ = some (.slice p k kc)) (K4 : ∀ i, i < m → Z.frozen? ⟨g, i, none⟩ = false) :
    BOwn F g m m (bs.set th b) Z := by
  obtain ⟨h1, h2, h3, h4, h5, h6⟩ := O
  refine ⟨by rw [List.length_set]; exact h1, h2, hz, fun i hi => ?_, fun i hk hi => by omega, K4⟩
  have hkp : ∀ (x o : Nat) (v : Value), (F ≤ x ∧ x ≠ g) → w.cell? ⟨x, o, none⟩ = some v → Z.cell? ⟨x, o, none⟩ = some v := fun x o v hq hv => K1 x o v hq.2 hv
  by_cases e : i = th
  · subst e
    obtain rfl : b.length = k := hp.1
    have e2 : (bs.set i b).getD i [] = b := by simp [List.getD_eq_getElem?_getD, h1, hth]
    rw [e2]
    exact ⟨p, kc, K3, hc, plQ_keep hkp hp⟩
  · have e2 : (bs.set th b).getD i [] = bs.getD i [] := by simp only [List.getD_eq_getElem?_getD]; rw [List.getElem?_set_ne (fun h => e h.symm)]
    rw [e2]
    exact bcellQ_keep (K2 i e) hkp (h4 i hi)

set_option maxHeartbeats 4000000 in
theorem hold_any (F g m : Nat) (a a' : Option Addr) (n c n' c' : Nat) (D : Int) (bs : List (List (Int × Int))) (th : Nat) (p : Option Addr) (k kc : Nat) (b : List (Int × Int)) (w : World) (O : BOwn F g m m bs w) (hth : th < m) (hp : PlQ (fun x => F ≤ x ∧ x ≠ g) w p k b) (hc : CapOk p k kc) :
    Calls Tryz.prog 59 #[.agg #[.slice a n c, .slice a' n' c', .int .i64 D, .slice (some ⟨g, 0, none⟩) m m], .int .i64 th, .slice p k kc] w (HoldPost F g m (.agg #[.slice a n c, .slice a' n' c', .int .i64 D, .slice (some ⟨g, 0, none⟩) m m]) (bs.set th b) w) := by
  have i1 : (0 : Int) ≤ th := by omega
  have i2 : (th : Int) < m := by omega
  obtain ⟨W, hW⟩ : ∃ W, W = (w.alloc (Obj.cells #[.slice a n c, .slice a' n' c', .int .i64 D, .slice (some ⟨g, 0, none⟩) m m] 103)).alloc (Obj.cells #[.slice none 0 0, .slice none 0 0, .int .i64 0, .slice none 0 0] 103) := ⟨_, rfl⟩
  have hgw : g < w.heap.size := O.2.2.1
  have hFg : F ≤ g := O.2.1
  have b0 : Below w.heap.size w W := by rw [hW]; go_grown
  have O1 := bown_B b0 O
  have c0 := bown_cell O1 hth
  have c1 := O1.2.2.2.2.2 th hth
  obtain ⟨X, hX⟩ : ∃ X, X = W.setCell ⟨g, th, none⟩ (.slice p k kc) := ⟨_, rfl⟩
  have ne : ∀ {b o : Nat}, b ≠ g → (⟨g, th, none⟩ : Addr) ≠ ⟨b, o, none⟩ := fun h e => h (congrArg Addr.block e).symm
  have keepX : ∀ (b o : Nat) (u : Value), b ≠ g → W.cell? ⟨b, o, none⟩ = some u → X.cell? ⟨b, o, none⟩ = some u := by
    intro b o u hb hu; rw [hX, World.cell?_setCell_other _ _ _ _ (ne hb)]; exact hu
  have k3' : W.cell? ⟨w.heap.size, 3, none⟩ = some (.slice (some ⟨g, 0, none⟩) m m) := by rw [hW]; exact cellA _ (by simp)
  have k0 : X.cell? ⟨w.heap.size, 0, none⟩ = some (.slice a n c) := keepX _ _ _ (by omega) (by rw [hW]; exact cellA _ (by simp))
  have k1 : X.cell? ⟨w.heap.size, 1, none⟩ = some (.slice a' n' c') := keepX _ _ _ (by omega) (by rw [hW]; exact cellA _ (by simp))
  have k2 : X.cell? ⟨w.heap.size, 2, none⟩ = some (.int .i64 D) := keepX _ _ _ (by omega) (by rw [hW]; exact cellA _ (by simp))
  have k3 : X.cell? ⟨w.heap.size, 3, none⟩ = some (.slice (some ⟨g, 0, none⟩) m m) := keepX _ _ _ (by omega) k3'
  have r0 : X.cell? ⟨w.heap.size + 1, 0, none⟩ = some (.slice none 0 0) := keepX _ _ _ (by omega) (by rw [hW]; simp)
  have r1 : X.cell? ⟨w.heap.size + 1, 1, none⟩ = some (.slice none 0 0) := keepX _ _ _ (by omega) (by rw [hW]; simp)
  have r2 : X.cell? ⟨w.heap.size + 1, 2, none⟩ = some (.int .i64 0) := keepX _ _ _ (by omega) (by rw [hW]; simp)
  have r3 : X.cell? ⟨w.heap.size + 1, 3, none⟩ = some (.slice none 0 0) := keepX _ _ _ (by omega) (by rw [hW]; simp)
  have ff : ∀ i, X.frozen? ⟨w.heap.size + 1, i, none⟩ = false := by intro i; rw [hX, World.frozen?_setCell, hW]; exact free_row (heap_new _ _ _ (by simp))
  have f0 := ff 0
  have f1 := ff 1
  have f2 := ff 2
  have f3 := ff 3
  have R4 := set4 (w := X) (g := w.heap.size + 1) (.slice a n c) (.slice a' n' c') (.int .i64 D) (.slice (some ⟨g, 0, none⟩) m m) (by rw [r0]; rfl) (by rw [r1]; rfl) (by rw [r2]; rfl) (by rw [r3]; rfl)
  have HP : Hid (HoldPost F g m (.agg #[.slice a n c, .slice a' n' c', .int .i64 D, .slice (some ⟨g, 0, none⟩) m m]) (bs.set th b) w (.returned (.agg #[.slice a n c, .slice a' n' c', .int .i64 D, .slice (some ⟨g, 0, none⟩) m m])) ((((X.setCell ⟨w.heap.size + 1, 0, none⟩ (.slice a n c)).setCell ⟨w.heap.size + 1, 1, none⟩ (.slice a' n' c')).setCell ⟨w.heap.size + 1, 2, none⟩ (.int .i64 D)).setCell ⟨w.heap.size + 1, 3, none⟩ (.slice (some ⟨g, 0, none⟩) m m))) := by
    have ne2 : ∀ (j b o : Nat), b ≠ w.heap.size + 1 → (⟨w.heap.size + 1, j, none⟩ : Addr) ≠ ⟨b, o, none⟩ := fun j b o h e => h (congrArg Addr.block e).symm
    have keepZ : ∀ (b o : Nat) (u : Value), b ≠ g → w.cell? ⟨b, o, none⟩ = some u → ((((X.setCell ⟨w.heap.size + 1, 0, none⟩ (.slice a n c)).setCell ⟨w.heap.size + 1, 1, none⟩ (.slice a' n' c')).setCell ⟨w.heap.size + 1, 2, none⟩ (.int .i64 D)).setCell ⟨w.heap.size + 1, 3, none⟩ (.slice (some ⟨g, 0, none⟩) m m)).cell? ⟨b, o, none⟩ = some u := by
      intro b o u hb hu
      have hlt : b < w.heap.size := cell_lt hu
      rw [World.cell?_setCell_other _ _ _ _ (ne2 _ _ _ (by omega)), World.cell?_setCell_other _ _ _ _ (ne2 _ _ _ (by omega)), World.cell?_setCell_other _ _ _ _ (ne2 _ _ _ (by omega)), World.cell?_setCell_other _ _ _ _ (ne2 _ _ _ (by omega))]
      exact keepX _ _ _ hb (cellB b0 hu)
    have keepG : ∀ (i : Nat) (u : Value), X.cell? ⟨g, i, none⟩ = some u → ((((X.setCell ⟨w.heap.size + 1, 0, none⟩ (.slice a n c)).setCell ⟨w.heap.size + 1, 1, none⟩ (.slice a' n' c')).setCell ⟨w.heap.size + 1, 2, none⟩ (.int .i64 D)).setCell ⟨w.heap.size + 1, 3, none⟩ (.slice (some ⟨g, 0, none⟩) m m)).cell? ⟨g, i, none⟩ = some u := by
      intro i u hu
      rw [World.cell?_setCell_other _ _ _ _ (ne2 _ _ _ (by omega)), World.cell?_setCell_other _ _ _ _ (ne2 _ _ _ (by omega)), World.cell?_setCell_other _ _ _ _ (ne2 _ _ _ (by omega)), World.cell?_setCell_other _ _ _ _ (ne2 _ _ _ (by omega))]
      exact hu
    have hx : Below F w X := by rw [hX]; exact (b0.mono (by omega)).setCell (by simpa using hFg) _
    have hB : Below F w ((((X.setCell ⟨w.heap.size + 1, 0, none⟩ (.slice a n c)).setCell ⟨w.heap.size + 1, 1, none⟩ (.slice a' n' c')).setCell ⟨w.heap.size + 1, 2, none⟩ (.int .i64 D)).setCell ⟨w.heap.size + 1, 3, none⟩ (.slice (some ⟨g, 0, none⟩) m m)) :=
      (((hx.setCell (by simp; omega) _).setCell (by simp; omega) _).setCell (by simp; omega) _).setCell (by simp; omega) _
    refine ⟨rfl, bown_upd O hth hp hc ?_ keepZ ?_ ?_ ?_, keepZ, hB⟩
    · have := hB.size; omega
    · intro i hi u hu
      refine keepG i u ?_
      rw [hX, World.cell?_setCell_other]
      · exact cellB b0 hu
      · intro e; exact hi (congrArg Addr.off e).symm
    · refine keepG th _ ?_
      rw [hX]; exact World.cell?_setCell_same' _ _ _ c0
    · intro i hi
      rw [World.frozen?_setCell, World.frozen?_setCell, World.frozen?_setCell, World.frozen?_setCell, hX, World.frozen?_setCell]
      exact O1.2.2.2.2.2 i hi
  have HR := Lib.hid R4
  clear ff keepX ne O1 b0 O hp hc R4
  have HW := Lib.hid hW
  clear hW
  obtain ⟨cv, hcv⟩ := Option.isSome_iff_exists.1 c0
  clear c0
  subst hX
  go_enter Tryz.func59, Tryz.ntmps59
  go_upto_region 1 with fail
  rw [← HW.out]
  go_wp2
  refine bp_cell ⟨w.heap.size + 1, 0, none⟩ rfl rfl rfl (load_tso _ _ _ _ _ _ HR.out.1 HR.out.2.1 HR.out.2.2.1 HR.out.2.2.2) ?_
  exact HP.out

theorem below_set4 {k g : Nat} {w W : World} (hb : Below k w W) (hg : k ≤ g) (x y z u : Value) : Below k w ((((W.setCell ⟨g, 0, none⟩ x).setCell ⟨g, 1, none⟩ y).setCell ⟨g, 2, none⟩ z).setCell ⟨g, 3, none⟩ u) :=
  (((hb.setCell (p := ⟨g, 0, none⟩) hg _).setCell (p := ⟨g, 1, none⟩) hg _).setCell (p := ⟨g, 2, none⟩) hg _).setCell (p := ⟨g, 3, none⟩) hg _
/-- a machine and an error: the machine reads as the lists, no row lies below F -/
def TsoPost (ws ts : List Int) (D : Int) (bs : List (List (Int × Int))) (x : Int) (w : World) (e : Ending) (w' : World) : Prop :=
  ∃ a n c a' n' c' q l d, e = .returned (.tuple #[.agg #[.slice a n c, .slice a' n' c', .int .i64 D, .slice q l d], .int .i64 x]) ∧ SlF w.heap.size w' a n ws ∧ SlF w.heap.size w' a' n' ts ∧ BlP (fun b => w.heap.size ≤ b) w' q l bs ∧ Below w.heap.size w w'
theorem tsoPost_nil {x : Int} {w w' : World} (hb : Below w.heap.size w w') : TsoPost [] [] 0 [] x w (.returned (.tuple #[.agg #[.slice none 0 0, .slice none 0 0, .int .i64 0, .slice none 0 0], .int .i64 x])) w' :=
  ⟨_, _, _, _, _, _, _, _, _, rfl, slF_nil _ _, slF_nil _ _, blP_nil _ _, hb⟩
/-- a store's: the row of buffers is the one that came in -/
def StoredPost (ws ts : List Int) (D : Int) (q : Option Addr) (l d : Nat) (w : World) (e : Ending) (w' : World) : Prop :=
  ∃ a n c a' n' c', e = .returned (.tuple #[.agg #[.slice a n c, .slice a' n' c', .int .i64 D, .slice q l d], .int .i64 0]) ∧ SlF w.heap.size w' a n ws ∧ SlF w.heap.size w' a' n' ts ∧ Below w.heap.size w w'
def NoPost (x : Int) (w : World) (e : Ending) (w' : World) : Prop := e = .returned (.tuple #[.agg #[.slice none 0 0, .slice none 0 0, .int .i64 0, .slice none 0 0], .int .i64 x]) ∧ Below w.heap.size w w'

set_option maxHeartbeats 4000000 in
theorem storedT_no (a a' q : Option Addr) (n c n' c' l d : Nat) (ws ts : List Int) (D x v : Int) (w : World) (S1 : Sl w a n ws) (S2 : Sl w a' n' ts) (hx : (Lit.int .i64 x).wf = true) (hu : usableZ ws ts x ≠ 0) :
    Calls Tryz.prog 60 #[.agg #[.slice a n c, .slice a' n' c', .int .i64 D, .slice q l d], .agg #[.int .i64 x, .int .i64 v]] w (NoPost (usableZ ws ts x) w) := by
  obtain ⟨ev, hev⟩ : ∃ z, usableZ ws ts x = z := ⟨_, rfl⟩
  rw [hev] at hu ⊢
  have HE := Lib.hid hev
  have HX := Lib.hid hx
  clear hev hx
  have q1 : (ev != 0) = true := by simpa using hu
  go_enter Tryz.func60, Tryz.ntmps60
  go_wp2_with fail
  refine (Store_any a a' n c n' c' ws ts x v _ (slA _ (slA _ (slA _ S1))) (slA _ (slA _ (slA _ S2))) HX.out).mono ?_
  rintro e w1 ⟨p, m, e1, p', m', e2, rfl, u1, u2, hb⟩
  rw [HE.out]
  have hb1 : Below w.heap.size w w1 := below_from (by go_grown) hb
  have r0 : w1.cell? ⟨w.heap.size + 1 + 1, 0, none⟩ = some (.slice none 0 0) := cellB hb (cell_new _ _ _ (by simp) rfl)
  have r1 : w1.cell? ⟨w.heap.size + 1 + 1, 1, none⟩ = some (.slice none 0 0) := cellB hb (cell_new _ _ _ (by simp) rfl)
  have r2 : w1.cell? ⟨w.heap.size + 1 + 1, 2, none⟩ = some (.int .i64 0) := cellB hb (cell_new _ _ _ (by simp) rfl)
  have r3 : w1.cell? ⟨w.heap.size + 1 + 1, 3, none⟩ = some (.slice none 0 0) := cellB hb (cell_new _ _ _ (by simp) rfl)
  have ff : ∀ i, w1.frozen? ⟨w.heap.size + 1 + 1, i, none⟩ = false := by intro i; rw [hb.frozen (p := ⟨w.heap.size + 1 + 1, i, none⟩) (by simp)]; exact free_row (heap_new _ _ _ (by simp))
  have hs : w.heap.size + 1 + 1 < w1.heap.size := cell_lt r0
  obtain ⟨W, hW⟩ : ∃ W, W = w1.alloc (Obj.cells #[.slice p m e1, .slice p' m' e2] 43) := ⟨_, rfl⟩
  have b2 : Below w.heap.size w W := by rw [hW]; exact hb1.alloc hb1.size _
  replace r0 : W.cell? ⟨w.heap.size + 1 + 1, 0, none⟩ = some (.slice none 0 0) := by rw [hW]; exact cellA _ r0
  replace r1 : W.cell? ⟨w.heap.size + 1 + 1, 1, none⟩ = some (.slice none 0 0) := by rw [hW]; exact cellA _ r1
  replace r2 : W.cell? ⟨w.heap.size + 1 + 1, 2, none⟩ = some (.int .i64 0) := by rw [hW]; exact cellA _ r2
  replace r3 : W.cell? ⟨w.heap.size + 1 + 1, 3, none⟩ = some (.slice none 0 0) := by rw [hW]; exact cellA _ r3
  have f0 : W.frozen? ⟨w.heap.size + 1 + 1, 0, none⟩ = false := by rw [hW]; exact (frozen_old _ hs).trans (ff 0)
  have f1 : W.frozen? ⟨w.heap.size + 1 + 1, 1, none⟩ = false := by rw [hW]; exact (frozen_old _ hs).trans (ff 1)
  have f2 : W.frozen? ⟨w.heap.size + 1 + 1, 2, none⟩ = false := by rw [hW]; exact (frozen_old _ hs).trans (ff 2)
  have f3 : W.frozen? ⟨w.heap.size + 1 + 1, 3, none⟩ = false := by rw [hW]; exact (frozen_old _ hs).trans (ff 3)
  have HW := Lib.hid hW
  have HB := Lib.hid b2
  have HR := Lib.hid (set4 (w := W) (g := w.heap.size + 1 + 1) (.slice none 0 0) (.slice none 0 0) (.int .i64 0) (.slice none 0 0) (by rw [r0]; rfl) (by rw [r1]; rfl) (by rw [r2]; rfl) (by rw [r3]; rfl))
  clear hb hb1 hW b2 ff u1 u2 S1 S2 hu
  go_upto_region 2 with fail
  rw [← HW.out]
  go_wp2
  refine bp_cell_tmp ⟨w.heap.size + 1 + 1, 0, none⟩ rfl rfl rfl (load_tso' _ _ _ _ _ _ HR.out.1 HR.out.2.1 HR.out.2.2.1 HR.out.2.2.2) ?_
  exact ⟨rfl, below_set4 (g := w.heap.size + 1 + 1) HB.out (by omega) _ _ _ _⟩

set_option maxHeartbeats 4000000 in
theorem storedT_ok (a a' q : Option Addr) (n c n' c' l d : Nat) (ws ts : List Int) (D x v : Int) (w : World) (S1 : Sl w a n ws) (S2 : Sl w a' n' ts) (hx : (Lit.int .i64 x).wf = true) (hu : usableZ ws ts x = 0) :
    Calls Tryz.prog 60 #[.agg #[.slice a n c, .slice a' n' c', .int .i64 D, .slice q l d], .agg #[.int .i64 x, .int .i64 v]] w (StoredPost (ws.set x.toNat v) ts D q l d w) := by
  have HE := Lib.hid hu
  have HX := Lib.hid hx
  have H1 := Lib.hid (show storeW ws ts x v = ws.set x.toNat v by rw [storeW, if_pos hu])
  have H2 := Lib.hid (show storeT ws ts x = ts by rw [storeT, if_pos hu])
  clear hx hu
  go_enter Tryz.func60, Tryz.ntmps60
  go_wp2_with fail
  refine (Store_any a a' n c n' c' ws ts x v _ (slA _ (slA _ (slA _ S1))) (slA _ (slA _ (slA _ S2))) HX.out).mono ?_
  rintro e w1 ⟨p, m, e1, p', m', e2, rfl, u1, u2, hb⟩
  rw [HE.out]
  rw [H1.out] at u1
  rw [H2.out] at u2
  have hb1 : Below w.heap.size w w1 := below_from (by go_grown) hb
  have k2 : w1.cell? ⟨w.heap.size, 2, none⟩ = some (.int .i64 D) := cellB hb (cellA _ (cellA _ (by simp)))
  have k0 : w1.cell? ⟨w.heap.size, 0, none⟩ = some (.slice a n c) := cellB hb (cellA _ (cellA _ (by simp)))
  have k1 : w1.cell? ⟨w.heap.size, 1, none⟩ = some (.slice a' n' c') := cellB hb (cellA _ (cellA _ (by simp)))
  have k3 : w1.cell? ⟨w.heap.size, 3, none⟩ = some (.slice q l d) := cellB hb (cellA _ (cellA _ (by simp)))
  have fk : ∀ i, w1.frozen? ⟨w.heap.size, i, none⟩ = false := by intro i; rw [hb.frozen (p := ⟨w.heap.size, i, none⟩) (by simp; omega)]; exact free_row ((heap_old _ _ _ (by simp; omega)).trans ((heap_old _ _ _ (by simp)).trans (heap_new _ _ _ rfl)))
  have r0 : w1.cell? ⟨w.heap.size + 1 + 1, 0, none⟩ = some (.slice none 0 0) := cellB hb (cell_new _ _ _ (by simp) rfl)
  have r1 : w1.cell? ⟨w.heap.size + 1 + 1, 1, none⟩ = some (.slice none 0 0) := cellB hb (cell_new _ _ _ (by simp) rfl)
  have r2 : w1.cell? ⟨w.heap.size + 1 + 1, 2, none⟩ = some (.int .i64 0) := cellB hb (cell_new _ _ _ (by simp) rfl)
  have r3 : w1.cell? ⟨w.heap.size + 1 + 1, 3, none⟩ = some (.slice none 0 0) := cellB hb (cell_new _ _ _ (by simp) rfl)
  have ff : ∀ i, w1.frozen? ⟨w.heap.size + 1 + 1, i, none⟩ = false := by intro i; rw [hb.frozen (p := ⟨w.heap.size + 1 + 1, i, none⟩) (by simp)]; exact free_row (heap_new _ _ _ (by simp))
  have hs : w.heap.size + 1 + 1 < w1.heap.size := cell_lt r0
  have hsz : w.heap.size + 3 ≤ w1.heap.size := by omega
  obtain ⟨W, hW⟩ : ∃ W, W = ((w1.alloc (Obj.cells #[.slice p m e1, .slice p' m' e2] 43)).setCell ⟨w.heap.size, 0, none⟩ (.slice p m e1)).setCell ⟨w.heap.size, 1, none⟩ (.slice p' m' e2) := ⟨_, rfl⟩
  have b2 : Below w.heap.size w W := by rw [hW]; exact ((hb1.alloc hb1.size _).setCell (by simp) _).setCell (by simp) _
  have ne : ∀ j i, (⟨w.heap.size, j, none⟩ : Addr) ≠ ⟨w.heap.size + 1 + 1, i, none⟩ := fun j i e => by have h := congrArg Addr.block e; dsimp only at h; omega
  have keep : ∀ (b o : Nat) (u : Value), b ≠ w.heap.size → w1.cell? ⟨b, o, none⟩ = some u → W.cell? ⟨b, o, none⟩ = some u := by
    intro b o u hne hu
    have ne2 : ∀ j, (⟨w.heap.size, j, none⟩ : Addr) ≠ ⟨b, o, none⟩ := fun j e => hne (congrArg Addr.block e).symm
    rw [hW, World.cell?_setCell_other _ _ _ _ (ne2 _), World.cell?_setCell_other _ _ _ _ (ne2 _)]
    exact cellA _ hu
  have a0 := cellA (Obj.cells #[.slice p m e1, .slice p' m' e2] 43) k0
  have a1 := cellA (Obj.cells #[.slice p m e1, .slice p' m' e2] 43) k1
  have a2 := cellA (Obj.cells #[.slice p m e1, .slice p' m' e2] 43) k2
  have a3 := cellA (Obj.cells #[.slice p m e1, .slice p' m' e2] 43) k3
  have g0 := (frozen_old (k := 0) (Obj.cells #[.slice p m e1, .slice p' m' e2] 43) (show w.heap.size < w1.heap.size by omega)).trans (fk 0)
  have g1 := (frozen_old (k := 1) (Obj.cells #[.slice p m e1, .slice p' m' e2] 43) (show w.heap.size < w1.heap.size by omega)).trans (fk 1)
  have K0 : W.cell? ⟨w.heap.size, 0, none⟩ = some (.slice p m e1) := by rw [hW]; exact set2_0 _ _ (by rw [a0]; rfl)
  have K1 : W.cell? ⟨w.heap.size, 1, none⟩ = some (.slice p' m' e2) := by rw [hW]; exact set2_1 _ _ (by rw [a1]; rfl)
  have ne3 : ∀ j i, j ≠ i → (⟨w.heap.size, j, none⟩ : Addr) ≠ ⟨w.heap.size, i, none⟩ := fun j i h e => h (congrArg Addr.off e)
  have K2 : W.cell? ⟨w.heap.size, 2, none⟩ = some (.int .i64 D) := by rw [hW, World.cell?_setCell_other _ _ _ _ (ne3 _ _ (by decide)), World.cell?_setCell_other _ _ _ _ (ne3 _ _ (by decide))]; exact a2
  have K3 : W.cell? ⟨w.heap.size, 3, none⟩ = some (.slice q l d) := by rw [hW, World.cell?_setCell_other _ _ _ _ (ne3 _ _ (by decide)), World.cell?_setCell_other _ _ _ _ (ne3 _ _ (by decide))]; exact a3
  have R0 := keep _ _ _ (by omega) r0
  have R1 := keep _ _ _ (by omega) r1
  have R2 := keep _ _ _ (by omega) r2
  have R3 := keep _ _ _ (by omega) r3
  have fr : ∀ i, W.frozen? ⟨w.heap.size + 1 + 1, i, none⟩ = false := by intro i; rw [hW, World.frozen?_setCell, World.frozen?_setCell]; exact (frozen_old _ hs).trans (ff i)
  have f0 := fr 0
  have f1 := fr 1
  have f2 := fr 2
  have f3 := fr 3
  have HW := Lib.hid hW
  have HB := Lib.hid b2
  have HR := Lib.hid (set4 (w := W) (g := w.heap.size + 1 + 1) (.slice p m e1) (.slice p' m' e2) (.int .i64 D) (.slice q l d) (by rw [R0]; rfl) (by rw [R1]; rfl) (by rw [R2]; rfl) (by rw [R3]; rfl))
  have U1 := Lib.hid (slP_keep (Q := fun b => w.heap.size + 3 ≤ b) (fun b o u hq hu => keep b o u (by omega) hu) (show SlP (fun b => w.heap.size + 3 ≤ b) w1 p m (ws.set x.toNat v) from slP_slF (fun b hb => by simp at hb; omega) u1))
  have U2 := Lib.hid (slP_keep (Q := fun b => w.heap.size + 3 ≤ b) (fun b o u hq hu => keep b o u (by omega) hu) (show SlP (fun b => w.heap.size + 3 ≤ b) w1 p' m' ts from slP_slF (fun b hb => by simp at hb; omega) u2))
  clear hb hb1 hW b2 ff u1 u2 S1 S2 ne ne3 keep fr fk k0 k1 k2 k3 r0 r1 r2 r3
  go_upto_region 5 with fail
  rw [← HW.out]
  clear a0 a1 a2 a3 g0 g1
  go_wp2
  refine bp_cell_tmp ⟨w.heap.size + 1 + 1, 0, none⟩ rfl rfl rfl (load_tso' _ _ _ _ _ _ HR.out.1 HR.out.2.1 HR.out.2.2.1 HR.out.2.2.2) ?_
  have hk : ∀ (b : Nat), w.heap.size + 3 ≤ b → b ≠ w.heap.size + 1 + 1 := fun b h => by omega
  refine ⟨_, _, _, _, _, _, rfl, ?_, ?_, below_set4 (g := w.heap.size + 1 + 1) HB.out (by omega) _ _ _ _⟩
  · exact slF_P (fun b hb => by omega) (slP_set _ hk _ (slP_set _ hk _ (slP_set _ hk _ (slP_set _ hk _ U1.out))))
  · exact slF_P (fun b hb => by omega) (slP_set _ hk _ (slP_set _ hk _ (slP_set _ hk _ (slP_set _ hk _ U2.out))))
end Go.Proofs.YtiebaeaomgpicaaGreat
