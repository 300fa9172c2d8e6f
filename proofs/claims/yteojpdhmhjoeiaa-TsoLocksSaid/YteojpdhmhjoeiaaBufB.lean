/- The contract of buffer.Pop. -/
import Derived.Test.YteojpdhmhjoeiaaBufA
namespace Go.Proofs.Yteojpdhmhjoeiaa
open Go.ChangeShapes Go.WideShapes Go.ChangeAt Go.RowKit

theorem prowD {w : World} {b off : Nat} {ps : List (Int × Int)} (h : PRow w b off ps) : PRow w.drew b off ps := h
/-- the oldest, the others, and an error -/
def PopPost (p : Int × Int) (ps : List (Int × Int)) (x : Int) (w : World) (e : Ending) (w' : World) : Prop := ∃ a c, e = .returned (.tuple #[.agg #[.int .i64 p.1, .int .i64 p.2], .slice a ps.length c, .int .i64 x]) ∧ CapOk a ps.length c ∧ PlF w.heap.size w' a ps.length ps ∧ Below w.heap.size w w'
theorem popPost_nil {x : Int} {p : Int × Int} {ps : List (Int × Int)} (hp : p = (0, 0)) (he : ps = []) {w w' : World} (hb : Below w.heap.size w w') : PopPost p ps x w (.returned (.tuple #[.agg #[.int .i64 0, .int .i64 0], .slice none 0 0, .int .i64 x])) w' := by
  subst he; subst hp; exact ⟨none, 0, rfl, capOk_nil, plF_nil _ _, hb⟩
theorem bp_cell_tmp2 {fn : Func} {R : Ending → World → Prop} {a : Act} {w : World} {p u v : Tmp} {ty : TypeId} {X : Value} (ad : Addr) (hr : fn.results = #[.cell p ty, .tmp u, .tmp v]) (hd : a.defers = [])
    (hp : a.tmps.getD p undef = .pointer (some ad)) (hl : (loadVar ty ad).run Try.prog w = .ok X w) (h : R (.returned (.tuple #[X, a.tmps.getD u undef, a.tmps.getD v undef])) w) : bodyPost Try.prog fn R .ret a w := by
  refine bodyPost_ret (v := .tuple #[X, a.tmps.getD u undef, a.tmps.getD v undef]) ?_ hd h
  have hp' : a.tmps[p]?.getD undef = .pointer (some ad) := by simpa using hp
  simp [results, hr, asAddr, hp', hl]

theorem rest_row {w : World} {b o : Nat} {ps : List (Int × Int)} (R : PRow w b o ps) : PRow w b (o + 2) (restP ps) := by
  intro i hi
  simp only [restP, List.length_drop] at hi
  have := R (i + 1) (by omega)
  have e : (restP ps).getD i (0, 0) = ps.getD (i + 1) (0, 0) := by simp [restP]
  rw [e, show o + 2 + i * 2 = o + (i + 1) * 2 by omega]
  exact this

set_option maxHeartbeats 4000000 in
theorem Pop_none (a : Option Addr) (c : Nat) (w : World) :
    Calls Try.prog 78 #[.slice a 0 c] w (PopPost (firstP []) (restP []) 8 w) := by
  go_enter Try.func78, Try.ntmps78
  go_wp2
  refine bp_cell_tmp2 ⟨w.heap.size, 0, none⟩ rfl rfl rfl (load_put _ _ _ _ _ (by simp; rfl) (by simp; rfl)) ?_
  exact popPost_nil rfl rfl (by go_grown)

set_option maxHeartbeats 4000000 in
theorem Pop_some (b o n c : Nat) (ps : List (Int × Int)) (w : World) (hl : ps.length = n) (R : PRow w b o ps) (hn : 1 ≤ n) (hn2 : n ≤ 1000) (hc : n ≤ c) (h3 : c ≤ 9223372036854775807) :
    Calls Try.prog 78 #[.slice (some ⟨b, o, none⟩) n c] w (PopPost (firstP ps) (restP ps) 0 w) := by
  have g1 := (R 0 (by omega)).1
  have g2 := (R 0 (by omega)).2
  rw [Nat.zero_mul, Nat.add_zero] at g1 g2
  obtain ⟨x, hx⟩ : ∃ x, firstP ps = x := ⟨_, rfl⟩
  have hx' : ps.getD 0 (0, 0) = x := hx
  rw [hx'] at g1 g2
  rw [hx]
  obtain ⟨x1, x2⟩ := x
  have hr := rest_row R
  have hrl : (restP ps).length = n - 1 := by simp [restP, hl]
  generalize restP ps = rs at hr hrl ⊢
  have Hr := Lib.hid hrl
  have q : ((n : Int) == 0) = false := by simp; omega
  have hb : b < w.heap.size := cell_lt g1
  clear hx hx' R hrl
  dsimp only at g1 g2
  go_enter Try.func78, Try.ntmps78
  go_wp2
  have hb1 : Below w.heap.size w (w.alloc (Obj.cells #[.int .i64 0, .int .i64 0] 69)) := by go_grown
  have G1 := cellB hb1 g1
  have G2 := cellB hb1 g2
  have G3 : (w.alloc (Obj.cells #[.int .i64 0, .int .i64 0] 69)).cell? ⟨w.heap.size, 0, none⟩ = some (.int .i64 0) := by simp
  have G4 : (w.alloc (Obj.cells #[.int .i64 0, .int .i64 0] 69)).cell? ⟨w.heap.size, 1, none⟩ = some (.int .i64 0) := by simp
  have G5 : (w.alloc (Obj.cells #[.int .i64 0, .int .i64 0] 69)).frozen? ⟨w.heap.size, 0, none⟩ = false := by simp
  have G6 : (w.alloc (Obj.cells #[.int .i64 0, .int .i64 0] 69)).frozen? ⟨w.heap.size, 1, none⟩ = false := by simp
  have R1 := prowB hb1 hr
  have hs : w.heap.size < (w.alloc (Obj.cells #[.int .i64 0, .int .i64 0] 69)).heap.size := by simp
  obtain ⟨W, hW⟩ : ∃ W, W = w.alloc (Obj.cells #[.int .i64 0, .int .i64 0] 69) := ⟨_, rfl⟩
  rw [← hW] at hb1 G1 G2 G3 G4 G5 G6 R1 hs ⊢
  have HB1 := Lib.hid hb1
  have HR1 := Lib.hid R1
  clear hW hb1 R1 g1 g2 hr
  by_cases hc1 : 1 < c
  · go_region_with (go_at_call 53; refine (cloneP_some b (o + 2) (n - 1) (c - 1) rs _ Hr.out (prowD HR1.out) (by omega)).mono ?_; rintro e w2 ⟨p, d, rfl, s1, s2, hb2⟩; have G1' := cellB hb2 G1; have G2' := cellB hb2 G2; have G3' := cellB hb2 G3; have G4' := cellB hb2 G4; have G5' : w2.frozen? ⟨w.heap.size, 0, none⟩ = false := (hb2.frozen (p := ⟨w.heap.size, 0, none⟩) hs).trans G5; have G6' : w2.frozen? ⟨w.heap.size, 1, none⟩ = false := (hb2.frozen (p := ⟨w.heap.size, 1, none⟩) hs).trans G6; have HB2 := Lib.hid hb2; clear hb2)
    all_goals
      have hB := below_from HB1.out.drew HB2.out
      have hs2 := HB2.out.size
      rw [World.size_drew] at hs2
      clear G1 G2 G3 G4 G5 G6
      go_wp2
      refine bp_cell_tmp2 ⟨w.heap.size, 0, none⟩ rfl rfl rfl (load_put _ _ _ _ _ (by go_cell_look) (by go_cell_look)) ?_
      refine ⟨p, d, rfl, s1, plF_mono (Nat.le_of_lt hs) (plF_set (plF_set s2 ⟨w.heap.size, 0, none⟩ hs _) ⟨w.heap.size, 1, none⟩ hs _), (hB.setCell (by simp) _).setCell (by simp) _⟩
  · obtain rfl : c = 1 := by omega
    obtain rfl : n = 1 := by omega
    obtain rfl : rs = [] := List.eq_nil_of_length_eq_zero Hr.out
    go_region_with (go_at_call 53; refine (cloneP_some b o 0 0 [] _ rfl (prow_nil _ _ _) (by omega)).mono ?_; rintro e w2 ⟨p, d, rfl, s1, s2, hb2⟩; have G1' := cellB hb2 G1; have G2' := cellB hb2 G2; have G3' := cellB hb2 G3; have G4' := cellB hb2 G4; have G5' : w2.frozen? ⟨w.heap.size, 0, none⟩ = false := (hb2.frozen (p := ⟨w.heap.size, 0, none⟩) hs).trans G5; have G6' : w2.frozen? ⟨w.heap.size, 1, none⟩ = false := (hb2.frozen (p := ⟨w.heap.size, 1, none⟩) hs).trans G6; have HB2 := Lib.hid hb2; clear hb2)
    all_goals
      have hB := below_from HB1.out.drew HB2.out
      have hs2 := HB2.out.size
      rw [World.size_drew] at hs2
      clear G1 G2 G3 G4 G5 G6
      go_wp2
      refine bp_cell_tmp2 ⟨w.heap.size, 0, none⟩ rfl rfl rfl (load_put _ _ _ _ _ (by go_cell_look) (by go_cell_look)) ?_
      refine ⟨p, d, rfl, s1, plF_mono (Nat.le_of_lt hs) (plF_set (plF_set s2 ⟨w.heap.size, 0, none⟩ hs _) ⟨w.heap.size, 1, none⟩ hs _), (hB.setCell (by simp) _).setCell (by simp) _⟩

theorem Pop_any (a : Option Addr) (n c : Nat) (ps : List (Int × Int)) (w : World) (S : Pl w a n ps) (hcap : CapOk a n c) (hn2 : n ≤ 1000) :
    Calls Try.prog 78 #[.slice a n c] w (PopPost (firstP ps) (restP ps) (popE ps) w) := by
  by_cases h0 : n = 0
  · subst h0
    obtain rfl : ps = [] := List.eq_nil_of_length_eq_zero S.1
    exact Pop_none a c w
  · obtain ⟨hl, hp⟩ := S
    obtain ⟨b, o, rfl, R⟩ := hp.resolve_left h0
    have : popE ps = 0 := by rw [popE, if_neg]; rintro rfl; simp at hl; omega
    rw [this]
    exact Pop_some b o n c ps w hl R (by omega) hn2 hcap.1 hcap.2.1
end Go.Proofs.Yteojpdhmhjoeiaa
