/- Package litmus: moved. -/
import Derived.Test.YtiebaeaomgpicaaGreatN1
import Derived.Test.YtiebaeaomgpicaaGreatM7
import Derived.Test.YtiebaeaomgpicaaGreatM8
namespace Go.Proofs.YtiebaeaomgpicaaGreat
open Go.ChangeShapes Go.WideShapes Go.ChangeAt Go.RowKit
open Gen

theorem noting_any (a a' q : Option Addr) (n c n' c' l d : Nat) (p : Nat → Option Addr) (pl pc : Nat → Nat) (r : Nat → Option Addr) (rl rc : Nat → Nat) (s : St) (j : Nat) (v : Int) (w : World) (Q : Nat → Prop) (F : StQ Q w a a' q n n' l p pl pc r rl rc s) (hj : j < 3) (hk : rl j ≤ 1000) :
    Calls Tryz.prog 35 #[.agg #[.slice a n c, .slice a' n' c', .int .i64 s.D, .slice q l d, .slice (p 0) (pl 0) (pc 0), .slice (p 1) (pl 1) (pc 1), .slice (p 2) (pl 2) (pc 2), .slice (r 0) (rl 0) (rc 0), .slice (r 1) (rl 1) (rc 1), .slice (r 2) (rl 2) (rc 2)], .int .i64 (j : Nat), .int .i64 v] w (SgPost Q (noteS s j v) w) := by
  rcases (show j = 0 ∨ j = 1 ∨ j = 2 by omega) with rfl | rfl | rfl
  · exact noting_0 a a' q n c n' c' l d p pl pc r rl rc s v w Q F hk
  · exact noting_1 a a' q n c n' c' l d p pl pc r rl rc s v w Q F hk
  · exact noting_2 a a' q n c n' c' l d p pl pc r rl rc s v w Q F hk
/-- what a move's way through the code starts from: the stage, with the move taken off, in its variable -/
def Ready (QQ : Nat → Prop) (w0 : World) (g1 gm : Nat) (a a' q : Option Addr) (n c n' c' l d : Nat) (p : Nat → Option Addr) (pl pc : Nat → Nat) (r : Nat → Option Addr) (rl rc : Nat → Nat) (s : St) (m : Mv) (Z : World) : Prop :=
  VarN Z w0.heap.size [.slice a n c, .slice a' n' c', .int .i64 s.D, .slice q l d, .slice (p 0) (pl 0) (pc 0), .slice (p 1) (pl 1) (pc 1), .slice (p 2) (pl 2) (pc 2), .slice (r 0) (rl 0) (rc 0), .slice (r 1) (rl 1) (rc 1), .slice (r 2) (rl 2) (rc 2)] ∧ VarN Z g1 [.slice none 0 0, .slice none 0 0, .int .i64 0, .slice none 0 0, .slice none 0 0, .slice none 0 0, .slice none 0 0, .slice none 0 0, .slice none 0 0, .slice none 0 0] ∧ VarN Z gm [.int .i64 m.1, .int .i64 m.2.1, .int .i64 m.2.2] ∧ StQ (fun b => (QQ b ∧ b < w0.heap.size) ∨ w0.heap.size + 2 ≤ b) Z a a' q n n' l p pl pc r rl rc s ∧ Below w0.heap.size w0 Z ∧ g1 = w0.heap.size + 1
theorem set_left (L0 L1 L2 L3 : Value) (p : Nat → Option Addr) (pl pc : Nat → Nat) (R0 R1 R2 : Value) (j : Nat) (hj : j < 3) (b : Option Addr) (k e : Nat) :
    [L0, L1, L2, L3, .slice (p 0) (pl 0) (pc 0), .slice (p 1) (pl 1) (pc 1), .slice (p 2) (pl 2) (pc 2), R0, R1, R2].set (4 + j) (.slice b k e) = [L0, L1, L2, L3, .slice (upd p j b 0) (upd pl j k 0) (upd pc j e 0), .slice (upd p j b 1) (upd pl j k 1) (upd pc j e 1), .slice (upd p j b 2) (upd pl j k 2) (upd pc j e 2), R0, R1, R2] := by
  rcases (show j = 0 ∨ j = 1 ∨ j = 2 by omega) with rfl | rfl | rfl <;> rfl
theorem get_left (L0 L1 L2 L3 : Value) (p : Nat → Option Addr) (pl pc : Nat → Nat) (R0 R1 R2 : Value) (j : Nat) (hj : j < 3) :
    [L0, L1, L2, L3, .slice (p 0) (pl 0) (pc 0), .slice (p 1) (pl 1) (pc 1), .slice (p 2) (pl 2) (pc 2), R0, R1, R2][4 + j]? = some (.slice (p j) (pl j) (pc j)) := by
  rcases (show j = 0 ∨ j = 1 ∨ j = 2 by omega) with rfl | rfl | rfl <;> rfl

set_option maxRecDepth 100000 in
set_option maxHeartbeats 4000000 in
theorem moved_none (a a' q : Option Addr) (n c n' c' l d : Nat) (p : Nat → Option Addr) (pl pc : Nat → Nat) (r : Nat → Option Addr) (rl rc : Nat → Nat) (s : St) (j : Nat) (w : World) (QQ : Nat → Prop) (F : StQ QQ w a a' q n n' l p pl pc r rl rc s) (hj : j < 3) (hl : s.l j = []) :
    Calls Tryz.prog 18 #[.agg #[.slice a n c, .slice a' n' c', .int .i64 s.D, .slice q l d, .slice (p 0) (pl 0) (pc 0), .slice (p 1) (pl 1) (pc 1), .slice (p 2) (pl 2) (pc 2), .slice (r 0) (rl 0) (rc 0), .slice (r 1) (rl 1) (rc 1), .slice (r 2) (rl 2) (rc 2)], .int .i64 (j : Nat)] w (StPost QQ noSt false w) := by
  obtain ⟨ws, ts, D, bs, f, h⟩ := s
  have h0 : pl j = 0 := by have := (F.2.2.2.1 j hj).2.1; rw [← this]; show (f j).length = 0; rw [show f j = [] from hl]; rfl
  obtain ⟨W, hW⟩ : ∃ W, W = (w.alloc (Obj.cells #[.slice a n c, .slice a' n' c', .int .i64 D, .slice q l d, .slice (p 0) (pl 0) (pc 0), .slice (p 1) (pl 1) (pc 1), .slice (p 2) (pl 2) (pc 2), .slice (r 0) (rl 0) (rc 0), .slice (r 1) (rl 1) (rc 1), .slice (r 2) (rl 2) (rc 2)] 50)).alloc (Obj.cells #[.slice none 0 0, .slice none 0 0, .int .i64 0, .slice none 0 0, .slice none 0 0, .slice none 0 0, .slice none 0 0, .slice none 0 0, .slice none 0 0, .slice none 0 0] 50) := ⟨_, rfl⟩
  have hbW : Below w.heap.size w W := by rw [hW]; go_grown
  have X : VarN W w.heap.size [.slice a n c, .slice a' n' c', .int .i64 D, .slice q l d, .slice (p 0) (pl 0) (pc 0), .slice (p 1) (pl 1) (pc 1), .slice (p 2) (pl 2) (pc 2), .slice (r 0) (rl 0) (rc 0), .slice (r 1) (rl 1) (rc 1), .slice (r 2) (rl 2) (rc 2)] := by rw [hW]; exact varN_A _ (varN_new [.slice a n c, .slice a' n' c', .int .i64 D, .slice q l d, .slice (p 0) (pl 0) (pc 0), .slice (p 1) (pl 1) (pc 1), .slice (p 2) (pl 2) (pc 2), .slice (r 0) (rl 0) (rc 0), .slice (r 1) (rl 1) (rc 1), .slice (r 2) (rl 2) (rc 2)] _ rfl)
  have R : VarN W (w.heap.size + 1) [.slice none 0 0, .slice none 0 0, .int .i64 0, .slice none 0 0, .slice none 0 0, .slice none 0 0, .slice none 0 0, .slice none 0 0, .slice none 0 0, .slice none 0 0] := by rw [hW]; exact varN_new [.slice none 0 0, .slice none 0 0, .int .i64 0, .slice none 0 0, .slice none 0 0, .slice none 0 0, .slice none 0 0, .slice none 0 0, .slice none 0 0, .slice none 0 0] _ (by simp)
  have hz := varN_lt R (by decide)
  have HB := Lib.hid hbW
  have HR := Lib.hid R
  have HX := Lib.hid X
  have HW := Lib.hid hW
  have i1 : (0 : Int) ≤ j := by omega
  have i2 : (j : Int) < 3 := by omega
  obtain ⟨y, fy⟩ := X (4 + j) _ (get_left _ _ _ _ p pl pc _ _ _ j hj)
  rw [h0] at y
  clear hW hbW R X hl F h0
  go_enter Tryz.func18, Tryz.ntmps18
  go_upto_region 1 with fail
  rw [← HW.out]
  obtain ⟨z0, f0⟩ := HR.out 0 _ rfl
  obtain ⟨z1, f1⟩ := HR.out 1 _ rfl
  obtain ⟨z2, f2⟩ := HR.out 2 _ rfl
  obtain ⟨z3, f3⟩ := HR.out 3 _ rfl
  obtain ⟨z4, f4⟩ := HR.out 4 _ rfl
  obtain ⟨z5, f5⟩ := HR.out 5 _ rfl
  obtain ⟨z6, f6⟩ := HR.out 6 _ rfl
  obtain ⟨z7, f7⟩ := HR.out 7 _ rfl
  obtain ⟨z8, f8⟩ := HR.out 8 _ rfl
  obtain ⟨z9, f9⟩ := HR.out 9 _ rfl
  go_wp2
  refine bp_cell_tmp ⟨w.heap.size + 1, 0, none⟩ rfl rfl rfl (load_stage _ _ _ _ _ _ _ _ _ _ _ _ (varN_all (xs := [.slice none 0 0, .slice none 0 0, .int .i64 0, .slice none 0 0, .slice none 0 0, .slice none 0 0, .slice none 0 0, .slice none 0 0, .slice none 0 0, .slice none 0 0]) HR.out rfl)) ?_
  exact ⟨none, none, none, 0, 0, 0, 0, 0, 0, fun _ => none, fun _ => 0, fun _ => 0, fun _ => none, fun _ => 0, fun _ => 0, rfl, ⟨slP_nil _ _, slP_nil _ _, blP_nil _ _, fun _ _ => ⟨⟨Nat.le_refl _, Nat.zero_le _, fun _ => rfl⟩, vs_nil⟩, fun _ _ => ⟨⟨Nat.le_refl _, Nat.zero_le _, fun _ => rfl⟩, vs_nil⟩⟩, below_setN (g := w.heap.size + 1) (xs := [.slice none 0 0, .slice none 0 0, .int .i64 0, .slice none 0 0, .slice none 0 0, .slice none 0 0, .slice none 0 0, .slice none 0 0, .slice none 0 0, .slice none 0 0]) (k := 0) (by omega) HB.out⟩

inductive FenceInv (QQ : Nat → Prop) (wB : World) (g1 : Nat) (a a' q : Option Addr) (n c n' c' l d : Nat) (P : Nat → Option Addr) (PL PC : Nat → Nat) (r : Nat → Option Addr) (rl rc : Nat → Nat) (D : Int) (s : St) (j : Nat) (wb : Bool) (a0 : Act) (w0 : World) (listed : Array Bool) (act' : Act) (w' : World) : Prop
  | mk (p63 p64 p65 p66 p67 p5 : Value) (x0 : Value) (x1 : Value) (x2 : Value) (x3 : Value) (x4 : Value) (x5 : Value) (x6 : Value) (x7 : Value) (x8 : Value) (x9 : Value) (ea : act' = ((((((a0.put (some 63) p63).put (some 64) p64).put (some 65) p65).put (some 66) p66).put (some 67) p67).put (some 5) p5)) (hb : Below wB.heap.size wB w' ∧ VarN w' wB.heap.size [.slice a n c, .slice a' n' c', .int .i64 D, .slice q l d, .slice (P 0) (PL 0) (PC 0), .slice (P 1) (PL 1) (PC 1), .slice (P 2) (PL 2) (PC 2), .slice (r 0) (rl 0) (rc 0), .slice (r 1) (rl 1) (rc 1), .slice (r 2) (rl 2) (rc 2)] ∧ VarN w' g1 [x0, x1, x2, x3, x4, x5, x6, x7, x8, x9] ∧ StQ (fun b => (QQ b ∧ b < wB.heap.size) ∨ wB.heap.size + 2 ≤ b) w' a a' q n n' l P PL PC r rl rc s) (hf0 : Up listed 0 → p63 = .agg #[.slice a n c, .slice a' n' c', .int .i64 D, .slice q l d, .slice (P 0) (PL 0) (PC 0), .slice (P 1) (PL 1) (PC 1), .slice (P 2) (PL 2) (PC 2), .slice (r 0) (rl 0) (rc 0), .slice (r 1) (rl 1) (rc 1), .slice (r 2) (rl 2) (rc 2)]) (hf1 : Up listed 1 → p64 = .agg #[.slice a n c, .slice a' n' c', .int .i64 D, .slice q l d, .slice (P 0) (PL 0) (PC 0), .slice (P 1) (PL 1) (PC 1), .slice (P 2) (PL 2) (PC 2), .slice (r 0) (rl 0) (rc 0), .slice (r 1) (rl 1) (rc 1), .slice (r 2) (rl 2) (rc 2)]) (hf2 : Up listed 2 → p65 = .int .i64 (j : Int)) (hf3 : Up listed 3 → p66 = .bool wb) (hf4 : Up listed 4 → p67 = .bool (!wb)) (hX : Up listed 5 → [x0, x1, x2, x3, x4, x5, x6, x7, x8, x9] = [.slice a n c, .slice a' n' c', .int .i64 D, .slice q l d, .slice (P 0) (PL 0) (PC 0), .slice (P 1) (PL 1) (PC 1), .slice (P 2) (PL 2) (PC 2), .slice (r 0) (rl 0) (rc 0), .slice (r 1) (rl 1) (rc 1), .slice (r 2) (rl 2) (rc 2)]) (hf6 : Up listed 6 → p5 = .bool (!wb)) : FenceInv QQ wB g1 a a' q n c n' c' l d P PL PC r rl rc D s j wb a0 w0 listed act' w'

set_option maxRecDepth 100000 in
set_option maxHeartbeats 12000000 in
theorem moved_some (a a' q : Option Addr) (n c n' c' l d : Nat) (p : Nat → Option Addr) (pl pc : Nat → Nat) (r : Nat → Option Addr) (rl rc : Nat → Nat) (s : St) (j : Nat) (w : World) (QQ : Nat → Prop) (F : StQ QQ w a a' q n n' l p pl pc r rl rc s) (hj : j < 3) (hjl : j < l) (hrl : rl j ≤ 1000) (m : Mv) (rest : List Mv) (hl : s.l j = m :: rest) (hwf : (Lit.int .i64 m.2.1).wf = true) (hm : m.1 = 0 ∨ m.1 = 1 ∨ m.1 = 2 ∨ m.1 = 3) :
    Calls Tryz.prog 18 #[.agg #[.slice a n c, .slice a' n' c', .int .i64 s.D, .slice q l d, .slice (p 0) (pl 0) (pc 0), .slice (p 1) (pl 1) (pc 1), .slice (p 2) (pl 2) (pc 2), .slice (r 0) (rl 0) (rc 0), .slice (r 1) (rl 1) (rc 1), .slice (r 2) (rl 2) (rc 2)], .int .i64 (j : Nat)] w (StPost QQ (moveS (leftS s j rest) j m).1 (moveS (leftS s j rest) j m).2 w) := by
  obtain ⟨ws, ts, D, bs, f, h⟩ := s
  obtain ⟨mk, ma, mv⟩ := m
  obtain ⟨⟨e1, e2, e3⟩, V⟩ := F.2.2.2.1 j hj
  rw [hl] at V
  dsimp only at hwf hm hl ⊢
  obtain ⟨k, hk⟩ : ∃ k, pl j = k := ⟨_, rfl⟩
  rw [hk] at V e1
  have hk1 : 1 ≤ k := by have := V.1; simp at this; omega
  obtain ⟨b, o, x0, x1, x2, hp, hx, m0, m1, m2⟩ := move_at (vs_any V) (show 0 < k by omega)
  rw [hp] at V e3
  obtain ⟨rfl, rfl, rfl⟩ : mk = x0 ∧ ma = x1 ∧ mv = x2 := by simpa using hx
  rw [Nat.zero_mul, Nat.add_zero] at m0 m1 m2
  have V2 := vs_drop V 1 hk1
  rw [show repInt3.k = 3 from rfl, Nat.one_mul] at V2
  have HF := Lib.hid (stQ_mono (Q' := fun b => (QQ b ∧ b < w.heap.size) ∨ w.heap.size + 2 ≤ b) (fun _ h => .inl h) (stQ_und F))
  have HWF := Lib.hid hwf
  obtain ⟨W, hW⟩ : ∃ W, W = (w.alloc (Obj.cells #[.slice a n c, .slice a' n' c', .int .i64 D, .slice q l d, .slice (p 0) (pl 0) (pc 0), .slice (p 1) (pl 1) (pc 1), .slice (p 2) (pl 2) (pc 2), .slice (r 0) (rl 0) (rc 0), .slice (r 1) (rl 1) (rc 1), .slice (r 2) (rl 2) (rc 2)] 50)).alloc (Obj.cells #[.slice none 0 0, .slice none 0 0, .int .i64 0, .slice none 0 0, .slice none 0 0, .slice none 0 0, .slice none 0 0, .slice none 0 0, .slice none 0 0, .slice none 0 0] 50) := ⟨_, rfl⟩
  have hbW : Below w.heap.size w W := by rw [hW]; go_grown
  have X : VarN W w.heap.size [.slice a n c, .slice a' n' c', .int .i64 D, .slice q l d, .slice (p 0) (pl 0) (pc 0), .slice (p 1) (pl 1) (pc 1), .slice (p 2) (pl 2) (pc 2), .slice (r 0) (rl 0) (rc 0), .slice (r 1) (rl 1) (rc 1), .slice (r 2) (rl 2) (rc 2)] := by rw [hW]; exact varN_A _ (varN_new [.slice a n c, .slice a' n' c', .int .i64 D, .slice q l d, .slice (p 0) (pl 0) (pc 0), .slice (p 1) (pl 1) (pc 1), .slice (p 2) (pl 2) (pc 2), .slice (r 0) (rl 0) (rc 0), .slice (r 1) (rl 1) (rc 1), .slice (r 2) (rl 2) (rc 2)] _ rfl)
  have R : VarN W (w.heap.size + 1) [.slice none 0 0, .slice none 0 0, .int .i64 0, .slice none 0 0, .slice none 0 0, .slice none 0 0, .slice none 0 0, .slice none 0 0, .slice none 0 0, .slice none 0 0] := by rw [hW]; exact varN_new [.slice none 0 0, .slice none 0 0, .int .i64 0, .slice none 0 0, .slice none 0 0, .slice none 0 0, .slice none 0 0, .slice none 0 0, .slice none 0 0, .slice none 0 0] _ (by simp)
  have hz := varN_lt R (by decide)
  have HB := Lib.hid hbW
  have HR := Lib.hid R
  have HX := Lib.hid X
  have HW := Lib.hid hW
  have i1 : (0 : Int) ≤ j := by omega
  have i2 : (j : Int) < 3 := by omega
  obtain ⟨y, fy⟩ := X (4 + j) _ (get_left _ _ _ _ p pl pc _ _ _ j hj)
  rw [hp, hk] at y
  have HV2 := Lib.hid (vs_B hbW (vs_und V2))
  replace m0 := (kept_B (Q := fun _ => True) hbW) _ _ _ trivial m0
  replace m1 := (kept_B (Q := fun _ => True) hbW) _ _ _ trivial m1
  replace m2 := (kept_B (Q := fun _ => True) hbW) _ _ _ trivial m2
  obtain ⟨cc, hcc⟩ : ∃ cc, pc j = cc := ⟨_, rfl⟩
  rw [hcc] at y e1 e2
  have HP := Lib.hid (And.intro hp (And.intro hk hcc))
  have ik : (1 : Int) ≤ k := by omega
  have ic : (k : Int) ≤ cc := by omega
  clear hW hbW R X hl F hx V V2 hp hk hcc e3 hwf
  go_enter Tryz.func18, Tryz.ntmps18
  go_upto_region 1 with fail
  rw [← HW.out]
  obtain ⟨Z0, hZ0⟩ : ∃ Z, Z = W.alloc (Obj.cells #[.int .i64 mk, .int .i64 ma, .int .i64 mv] 61) := ⟨_, rfl⟩
  have bZ0 : Below W.heap.size W Z0 := by rw [hZ0]; exact (Below.refl _ _).alloc (Nat.le_refl _) _
  have M0 : VarN Z0 W.heap.size [.int .i64 mk, .int .i64 ma, .int .i64 mv] := by rw [hZ0]; exact varN_new [.int .i64 mk, .int .i64 ma, .int .i64 mv] _ rfl
  have HZ0 := Lib.hid hZ0
  have HBZ := Lib.hid bZ0
  have HM0 := Lib.hid M0
  have hzZ := bZ0.size
  clear hZ0 bZ0 M0
  go_upto_region 4 with fail
  rw [← HZ0.out]
  clear y fy m0 m1 m2
  obtain ⟨y, fy⟩ := (varN_B HBZ.out HX.out) (4 + j) _ (get_left _ _ _ _ p pl pc _ _ _ j hj)
  rw [HP.out.1, HP.out.2.1, HP.out.2.2] at y
  go_cut [6] (fun s6 wx => s6 = .pointer (some ⟨W.heap.size, 0, none⟩) ∧ ∃ P PL PC, Ready QQ w (w.heap.size + 1) W.heap.size a a' q n c n' c' l d P PL PC r rl rc (leftS ⟨ws, ts, D, bs, f, h⟩ j rest) (mk, ma, mv) wx)
  case first =>
    have hready : ∀ (ad : Option Addr) (k' c2 : Nat), (k' ≤ c2 ∧ c2 ≤ 9223372036854775807 ∧ (ad = none → c2 = 0)) → Vs repInt3 (fun b => QQ b ∧ b < w.heap.size) Z0 ad k' rest → Ready QQ w (w.heap.size + 1) W.heap.size a a' q n c n' c' l d (upd p j ad) (upd pl j k') (upd pc j c2) r rl rc (leftS ⟨ws, ts, D, bs, f, h⟩ j rest) (mk, ma, mv) (Z0.setCell ⟨w.heap.size, 4 + j, none⟩ (.slice ad k' c2)) := by
      intro ad k' c2 hc hv
      have hX := varN_set (varN_B HBZ.out HX.out) (4 + j) (by simp; omega) (.slice ad k' c2)
      rw [set_left _ _ _ _ p pl pc _ _ _ j hj] at hX
      have hB : Below w.heap.size w (Z0.setCell ⟨w.heap.size, 4 + j, none⟩ (.slice ad k' c2)) := (below_from HB.out HBZ.out).setCell (p := ⟨w.heap.size, 4 + j, none⟩) (Nat.le_refl _) _
      have hF := stQ_B hB HF.out
      have hv2 := vs_keep (kept_set Z0 ⟨w.heap.size, 4 + j, none⟩ (.slice ad k' c2) (fun b hb => by show b ≠ w.heap.size; omega)) hv
      exact ⟨hX, varN_other (varN_B HBZ.out HR.out) (by omega) _, varN_other HM0.out (by omega) _, ⟨hF.1, hF.2.1, hF.2.2.1, three_upd hF.2.2.2.1 j hc (vs_mono (fun _ h => .inl h) hv2), hF.2.2.2.2⟩, hB, rfl⟩
    have HRD := Lib.hid hready
    clear hready
    by_cases hc1 : 1 < cc
    · go_wp2_with fail
      go_meet
      exact ⟨rfl, _, _, _, HRD.out (some ⟨b, o + 3, none⟩) (k - 1) (cc - 1) ⟨by omega, by omega, fun e => by cases e⟩ (vs_B HBZ.out HV2.out)⟩
    · obtain rfl : cc = 1 := by omega
      obtain rfl : k = 1 := by omega
      have hr0 : rest = [] := List.eq_nil_of_length_eq_zero HV2.out.1
      subst hr0
      go_wp2_with fail
      go_meet
      exact ⟨rfl, _, _, _, HRD.out (some ⟨b, o, none⟩) 0 0 ⟨by omega, by omega, fun e => by cases e⟩ vs_empty⟩
  case rest =>
    obtain ⟨rfl, P, PL, PC, hX, hR, hM, hF, hB, -⟩ := hcut
    obtain ⟨f1, hf1⟩ : ∃ f1, upd f j rest = f1 := ⟨_, rfl⟩
    have hs1 : leftS ⟨ws, ts, D, bs, f, h⟩ j rest = ⟨ws, ts, D, bs, f1, h⟩ := by rw [← hf1]; rfl
    rw [hs1] at hF hX
    dsimp only at hX hM
    have hzc : W.heap.size < wc.heap.size := varN_lt hM (by simp)
    obtain ⟨T1, T2, T, -, -⟩ := hF.stF
    dsimp only at T1 T2 T
    have HXc := Lib.hid hX
    have HRc := Lib.hid hR
    have HFc := Lib.hid hF
    have HBc := Lib.hid hB
    have n0 := (hM 0 _ rfl).1
    have n1 := (hM 1 _ rfl).1
    have n2 := (hM 2 _ rfl).1
    have k0 := (hX 0 _ rfl).1
    have k1 := (hX 1 _ rfl).1
    have k2 := (hX 2 _ rfl).1
    have k3 := (hX 3 _ rfl).1
    have HS1 := Lib.hid hs1
    clear hf1 hs1 hX hR hM hF hB y fy HF HP HV2 HM0 HBZ HZ0 HX HR HW HB
    rcases hm with rfl | rfl | rfl | rfl
    · obtain ⟨E, hE⟩ : ∃ E, storeTE ws ts D bs j ma = E := ⟨_, rfl⟩
      have HE := Lib.hid hE
      clear hE
      go_wp2_with fail
      have h0 := tsoStore_any a a' q n c n' c' l d ws ts D bs j ma mv wc T1 T2 T HWF.out
      with_reducible refine h0.mono ?_
      clear h0
      rw [HE.out]
      rintro e w2 ⟨a2, n2', c2, a3, n3, c3, q2, l2, d2, rfl, u1, u2, u3, hb2⟩
      obtain ⟨D2, hD2⟩ : ∃ D2, okZ E D = D2 := ⟨_, rfl⟩
      rw [hD2]
      have HD2 := Lib.hid hD2
      have hz2 := hb2.size
      have X2 := varN_B hb2 HXc.out
      have R2 := varN_B hb2 HRc.out
      have hF2 := stQ_B hb2 HFc.out
      obtain ⟨Z1, hZ1⟩ : ∃ Z, Z = setN w2 w.heap.size 0 [.slice a2 n2' c2, .slice a3 n3 c3, .int .i64 D2, .slice q2 l2 d2] := ⟨_, rfl⟩
      have X3 : VarN Z1 w.heap.size [.slice a2 n2' c2, .slice a3 n3 c3, .int .i64 D2, .slice q2 l2 d2, .slice (P 0) (PL 0) (PC 0), .slice (P 1) (PL 1) (PC 1), .slice (P 2) (PL 2) (PC 2), .slice (r 0) (rl 0) (rc 0), .slice (r 1) (rl 1) (rc 1), .slice (r 2) (rl 2) (rc 2)] := by rw [hZ1]; exact varN_setN (xs := [.slice a2 n2' c2, .slice a3 n3 c3, .int .i64 D2, .slice q2 l2 d2]) 0 X2 (by simp)
      have R3 : VarN Z1 (w.heap.size + 1) [.slice none 0 0, .slice none 0 0, .int .i64 0, .slice none 0 0, .slice none 0 0, .slice none 0 0, .slice none 0 0, .slice none 0 0, .slice none 0 0, .slice none 0 0] := by rw [hZ1]; exact varN_others (by omega) R2
      have B3 : Below w.heap.size w Z1 := by rw [hZ1]; exact below_setN (Nat.le_refl _) (below_from HBc.out hb2)
      have hK : Kept (fun b => (QQ b ∧ b < w.heap.size) ∨ w.heap.size + 2 ≤ b) w2 Z1 := by rw [hZ1]; exact kept_setN (fun b hb => by omega)
      have S3 : StQ (fun b => (QQ b ∧ b < w.heap.size) ∨ w.heap.size + 2 ≤ b) Z1 a2 a3 q2 n2' n3 l2 P PL PC r rl rc (withM ⟨ws, ts, D, bs, f1, h⟩ (okL E (storeTW ws D ma mv)) (okL E ts) D2 (okL E (storeTB D bs j ma mv))) :=
        ⟨slP_keep hK (slP_slF (fun b hb => .inr (by omega)) u1), slP_keep hK (slP_slF (fun b hb => .inr (by omega)) u2), blP_keep hK (blP_mono (fun b hb => .inr (by omega)) u3), three_keep hK hF2.2.2.2.1, three_keep hK hF2.2.2.2.2⟩
      have HZ1 : Hid (Z1 = (((w2.setCell ⟨w.heap.size, 0, none⟩ (.slice a2 n2' c2)).setCell ⟨w.heap.size, 1, none⟩ (.slice a3 n3 c3)).setCell ⟨w.heap.size, 2, none⟩ (.int .i64 D2)).setCell ⟨w.heap.size, 3, none⟩ (.slice q2 l2 d2)) := hZ1
      obtain ⟨y0, g0⟩ := X2 0 _ rfl
      obtain ⟨y1, g1⟩ := X2 1 _ rfl
      obtain ⟨y2, g2⟩ := X2 2 _ rfl
      obtain ⟨y3, g3⟩ := X2 3 _ rfl
      have HX3 := Lib.hid X3
      have HR3 := Lib.hid R3
      have HB3 := Lib.hid B3
      have HS3 := Lib.hid S3
      clear hZ1 X2 R2 hF2 X3 R3 B3 hK S3 u1 u2 u3 hb2 k0 k1 k2 k3 n0 n1 n2 T1 T2 T hD2
      go_upto_region 18 with fail
      rw [← HZ1.out]
      clear y0 y1 y2 y3 g0 g1 g2 g3
      have y0 := (HX3.out 0 _ rfl).1
      have y1 := (HX3.out 1 _ rfl).1
      have y2 := (HX3.out 2 _ rfl).1
      have y3 := (HX3.out 3 _ rfl).1
      have y4 := (HX3.out 4 _ rfl).1
      have y5 := (HX3.out 5 _ rfl).1
      have y6 := (HX3.out 6 _ rfl).1
      have y7 := (HX3.out 7 _ rfl).1
      have y8 := (HX3.out 8 _ rfl).1
      have y9 := (HX3.out 9 _ rfl).1
      obtain ⟨z0, f0⟩ := HR3.out 0 _ rfl
      obtain ⟨z1, f1⟩ := HR3.out 1 _ rfl
      obtain ⟨z2, f2⟩ := HR3.out 2 _ rfl
      obtain ⟨z3, f3⟩ := HR3.out 3 _ rfl
      obtain ⟨z4, f4⟩ := HR3.out 4 _ rfl
      obtain ⟨z5, f5⟩ := HR3.out 5 _ rfl
      obtain ⟨z6, f6⟩ := HR3.out 6 _ rfl
      obtain ⟨z7, f7⟩ := HR3.out 7 _ rfl
      obtain ⟨z8, f8⟩ := HR3.out 8 _ rfl
      obtain ⟨z9, f9⟩ := HR3.out 9 _ rfl
      go_wp2
      have hR4 := varN_all (xs := [.slice a2 n2' c2, .slice a3 n3 c3, .int .i64 D2, .slice q2 l2 d2, .slice (P 0) (PL 0) (PC 0), .slice (P 1) (PL 1) (PC 1), .slice (P 2) (PL 2) (PC 2), .slice (r 0) (rl 0) (rc 0), .slice (r 1) (rl 1) (rc 1), .slice (r 2) (rl 2) (rc 2)]) HR3.out rfl
      have hBf := below_setN (g := w.heap.size + 1) (xs := [.slice a2 n2' c2, .slice a3 n3 c3, .int .i64 D2, .slice q2 l2 d2, .slice (P 0) (PL 0) (PC 0), .slice (P 1) (PL 1) (PC 1), .slice (P 2) (PL 2) (PC 2), .slice (r 0) (rl 0) (rc 0), .slice (r 1) (rl 1) (rc 1), .slice (r 2) (rl 2) (rc 2)]) (k := 0) (by omega) HB3.out
      have hKf : Kept (fun b => (QQ b ∧ b < w.heap.size) ∨ w.heap.size + 2 ≤ b) Z1 (setN Z1 (w.heap.size + 1) 0 [.slice a2 n2' c2, .slice a3 n3 c3, .int .i64 D2, .slice q2 l2 d2, .slice (P 0) (PL 0) (PC 0), .slice (P 1) (PL 1) (PC 1), .slice (P 2) (PL 2) (PC 2), .slice (r 0) (rl 0) (rc 0), .slice (r 1) (rl 1) (rc 1), .slice (r 2) (rl 2) (rc 2)]) := kept_setN (fun b hb => by omega)
      refine bp_cell_tmp ⟨w.heap.size + 1, 0, none⟩ rfl rfl rfl (load_stage _ _ _ _ _ _ _ _ _ _ _ _ hR4) ?_
      rw [HS1.out, move0]
      dsimp only
      rw [HE.out, HD2.out]
      exact ⟨_, _, _, _, _, _, _, _, _, P, PL, PC, r, rl, rc, rfl, (stQ_mono (fun b hb => hb.elim (fun h => .inl h.1) (fun h => .inr (by omega))) (stQ_keep hKf HS3.out)), hBf⟩
    · obtain ⟨E, hE⟩ : ∃ E, loadTE ws ts D bs j ma = E := ⟨_, rfl⟩
      obtain ⟨v, hv⟩ : ∃ v, loadT ws ts D bs j ma = v := ⟨_, rfl⟩
      have HE := Lib.hid hE
      have HV := Lib.hid hv
      clear hE hv
      go_wp2_with fail
      have h0 := tsoLoad_any a a' q n c n' c' l d ws ts D bs j ma wc T1 T2 T HWF.out
      with_reducible refine h0.mono ?_
      clear h0
      rw [HE.out, HV.out]
      rintro e w2 ⟨rfl, hb2⟩
      have hz2 := hb2.size
      have HX2 := Lib.hid (varN_B hb2 HXc.out)
      have HR2 := Lib.hid (varN_B hb2 HRc.out)
      have HF2 := Lib.hid (stQ_B hb2 HFc.out)
      have HB2 := Lib.hid (below_from HBc.out hb2)
      clear hb2 k0 k1 k2 k3 n0 n1 n2 T1 T2 T
      have y0 := (HX2.out 0 _ rfl).1
      have y1 := (HX2.out 1 _ rfl).1
      have y2 := (HX2.out 2 _ rfl).1
      have y3 := (HX2.out 3 _ rfl).1
      have y4 := (HX2.out 4 _ rfl).1
      have y5 := (HX2.out 5 _ rfl).1
      have y6 := (HX2.out 6 _ rfl).1
      have y7 := (HX2.out 7 _ rfl).1
      have y8 := (HX2.out 8 _ rfl).1
      have y9 := (HX2.out 9 _ rfl).1
      go_wp2_with fail
      have h0 := noting_any a a' q n c n' c' l d P PL PC r rl rc ⟨ws, ts, D, bs, f1, h⟩ j v w2 _ HF2.out hj hrl
      dsimp only at h0
      with_reducible refine h0.mono ?_
      clear h0
      rintro e w3 ⟨a6, a7, q6, n6, c6, n7, c7, l6, d6, p2, pl2, pc2, r2, rl2, rc2, rfl, S4, hb4⟩
      rw [show (noteS ⟨ws, ts, D, bs, f1, h⟩ j v).D = D from rfl]
      dsimp only [withM, noteS] at S4
      have hz4 := hb4.size
      have hX2 := varN_B hb4 HX2.out
      have hR2 := varN_B hb4 HR2.out
      obtain ⟨Z3, hZ3⟩ : ∃ Z, Z = setN w3 w.heap.size 0 [.slice a6 n6 c6, .slice a7 n7 c7, .int .i64 D, .slice q6 l6 d6, .slice (p2 0) (pl2 0) (pc2 0), .slice (p2 1) (pl2 1) (pc2 1), .slice (p2 2) (pl2 2) (pc2 2), .slice (r2 0) (rl2 0) (rc2 0), .slice (r2 1) (rl2 1) (rc2 1), .slice (r2 2) (rl2 2) (rc2 2)] := ⟨_, rfl⟩
      have X3 : VarN Z3 w.heap.size [.slice a6 n6 c6, .slice a7 n7 c7, .int .i64 D, .slice q6 l6 d6, .slice (p2 0) (pl2 0) (pc2 0), .slice (p2 1) (pl2 1) (pc2 1), .slice (p2 2) (pl2 2) (pc2 2), .slice (r2 0) (rl2 0) (rc2 0), .slice (r2 1) (rl2 1) (rc2 1), .slice (r2 2) (rl2 2) (rc2 2)] := by rw [hZ3]; exact varN_all hX2 rfl
      have R3 : VarN Z3 (w.heap.size + 1) [.slice none 0 0, .slice none 0 0, .int .i64 0, .slice none 0 0, .slice none 0 0, .slice none 0 0, .slice none 0 0, .slice none 0 0, .slice none 0 0, .slice none 0 0] := by rw [hZ3]; exact varN_others (by omega) hR2
      have B3 : Below w.heap.size w Z3 := by rw [hZ3]; exact below_setN (Nat.le_refl _) (below_from HB2.out hb4)
      have hK : Kept (fun b => (QQ b ∧ b < w.heap.size) ∨ w.heap.size + 2 ≤ b) w3 Z3 := by rw [hZ3]; exact kept_setN (fun b hb => by omega)
      have S5 := stQ_keep hK (stQ_mono (Q' := fun b => (QQ b ∧ b < w.heap.size) ∨ w.heap.size + 2 ≤ b) (fun b hb => by rcases hb with hb | hb; exact hb; exact .inr (by omega)) S4)
      have HZ3 := Lib.hid hZ3
      clear y0 y1 y2 y3 y4 y5 y6 y7 y8 y9
      obtain ⟨y0, g0⟩ := hX2 0 _ rfl
      obtain ⟨y1, g1⟩ := hX2 1 _ rfl
      obtain ⟨y2, g2⟩ := hX2 2 _ rfl
      obtain ⟨y3, g3⟩ := hX2 3 _ rfl
      obtain ⟨y4, g4⟩ := hX2 4 _ rfl
      obtain ⟨y5, g5⟩ := hX2 5 _ rfl
      obtain ⟨y6, g6⟩ := hX2 6 _ rfl
      obtain ⟨y7, g7⟩ := hX2 7 _ rfl
      obtain ⟨y8, g8⟩ := hX2 8 _ rfl
      obtain ⟨y9, g9⟩ := hX2 9 _ rfl
      have HX3 := Lib.hid X3
      have HR3 := Lib.hid R3
      have HB3 := Lib.hid B3
      have HS3 := Lib.hid S5
      clear hZ3 hX2 hR2 X3 R3 B3 hK S4 S5 hb4
      go_upto_region 18 with fail
      have HZ3' : Hid (Z3 = (((((((((w3.setCell ⟨w.heap.size, 0, none⟩ (.slice a6 n6 c6)).setCell ⟨w.heap.size, 1, none⟩ (.slice a7 n7 c7)).setCell ⟨w.heap.size, 2, none⟩ (.int .i64 D)).setCell ⟨w.heap.size, 3, none⟩ (.slice q6 l6 d6)).setCell ⟨w.heap.size, 4, none⟩ (.slice (p2 0) (pl2 0) (pc2 0))).setCell ⟨w.heap.size, 5, none⟩ (.slice (p2 1) (pl2 1) (pc2 1))).setCell ⟨w.heap.size, 6, none⟩ (.slice (p2 2) (pl2 2) (pc2 2))).setCell ⟨w.heap.size, 7, none⟩ (.slice (r2 0) (rl2 0) (rc2 0))).setCell ⟨w.heap.size, 8, none⟩ (.slice (r2 1) (rl2 1) (rc2 1))).setCell ⟨w.heap.size, 9, none⟩ (.slice (r2 2) (rl2 2) (rc2 2))) := HZ3.out
      rw [← HZ3'.out]
      clear y0 y1 y2 y3 y4 y5 y6 y7 y8 y9 g0 g1 g2 g3 g4 g5 g6 g7 g8 g9
      have y0 := (HX3.out 0 _ rfl).1
      have y1 := (HX3.out 1 _ rfl).1
      have y2 := (HX3.out 2 _ rfl).1
      have y3 := (HX3.out 3 _ rfl).1
      have y4 := (HX3.out 4 _ rfl).1
      have y5 := (HX3.out 5 _ rfl).1
      have y6 := (HX3.out 6 _ rfl).1
      have y7 := (HX3.out 7 _ rfl).1
      have y8 := (HX3.out 8 _ rfl).1
      have y9 := (HX3.out 9 _ rfl).1
      obtain ⟨z0, f0⟩ := HR3.out 0 _ rfl
      obtain ⟨z1, f1⟩ := HR3.out 1 _ rfl
      obtain ⟨z2, f2⟩ := HR3.out 2 _ rfl
      obtain ⟨z3, f3⟩ := HR3.out 3 _ rfl
      obtain ⟨z4, f4⟩ := HR3.out 4 _ rfl
      obtain ⟨z5, f5⟩ := HR3.out 5 _ rfl
      obtain ⟨z6, f6⟩ := HR3.out 6 _ rfl
      obtain ⟨z7, f7⟩ := HR3.out 7 _ rfl
      obtain ⟨z8, f8⟩ := HR3.out 8 _ rfl
      obtain ⟨z9, f9⟩ := HR3.out 9 _ rfl
      go_wp2
      have hR4 := varN_all (xs := [.slice a6 n6 c6, .slice a7 n7 c7, .int .i64 D, .slice q6 l6 d6, .slice (p2 0) (pl2 0) (pc2 0), .slice (p2 1) (pl2 1) (pc2 1), .slice (p2 2) (pl2 2) (pc2 2), .slice (r2 0) (rl2 0) (rc2 0), .slice (r2 1) (rl2 1) (rc2 1), .slice (r2 2) (rl2 2) (rc2 2)]) HR3.out rfl
      have hBf := below_setN (g := w.heap.size + 1) (xs := [.slice a6 n6 c6, .slice a7 n7 c7, .int .i64 D, .slice q6 l6 d6, .slice (p2 0) (pl2 0) (pc2 0), .slice (p2 1) (pl2 1) (pc2 1), .slice (p2 2) (pl2 2) (pc2 2), .slice (r2 0) (rl2 0) (rc2 0), .slice (r2 1) (rl2 1) (rc2 1), .slice (r2 2) (rl2 2) (rc2 2)]) (k := 0) (by omega) HB3.out
      have hKf : Kept (fun b => (QQ b ∧ b < w.heap.size) ∨ w.heap.size + 2 ≤ b) Z3 (setN Z3 (w.heap.size + 1) 0 [.slice a6 n6 c6, .slice a7 n7 c7, .int .i64 D, .slice q6 l6 d6, .slice (p2 0) (pl2 0) (pc2 0), .slice (p2 1) (pl2 1) (pc2 1), .slice (p2 2) (pl2 2) (pc2 2), .slice (r2 0) (rl2 0) (rc2 0), .slice (r2 1) (rl2 1) (rc2 1), .slice (r2 2) (rl2 2) (rc2 2)]) := kept_setN (fun b hb => by omega)
      refine bp_cell_tmp ⟨w.heap.size + 1, 0, none⟩ rfl rfl rfl (load_stage _ _ _ _ _ _ _ _ _ _ _ _ hR4) ?_
      rw [HS1.out, move1]
      dsimp only
      rw [HE.out, HV.out]
      exact ⟨_, _, _, _, _, _, _, _, _, p2, pl2, pc2, r2, rl2, rc2, rfl, (stQ_mono (fun b hb => hb.elim (fun h => .inl h.1) (fun h => .inr (by omega))) (stQ_keep hKf HS3.out)), hBf⟩
    · obtain ⟨wb, hwb⟩ : ∃ wb, decide (0 < (bs.getD j []).length) = wb := ⟨_, rfl⟩
      have HWB := Lib.hid hwb
      obtain ⟨W2, hW2⟩ : ∃ W2 : World, W2 = wc := ⟨_, rfl⟩
      subst hW2
      clear hwb k0 k1 k2 k3 T1 T2 T
      go_upto_region 14 with fail
      clear n0 n1 n2
      refine wp_region_inv (FenceInv QQ w (w.heap.size + 1) a a' q n c n' c' l d P PL PC r rl rc D ⟨ws, ts, D, bs, f1, h⟩ j wb) (by kernel_rfl) (by kernel_rfl) ?_ ?_ ?_
      · intro listed hl
        exact .mk _ _ _ _ _ _ _ _ _ _ _ _ _ _ _ _ rfl (⟨HBc.out.drew, varN_D HXc.out, varN_D HRc.out, stQ_B (Below.refl _ _).drew HFc.out⟩) (fun h => absurd h (hl 0 (by decide))) (fun h => absurd h (hl 1 (by decide))) (fun h => absurd h (hl 2 (by decide))) (fun h => absurd h (hl 3 (by decide))) (fun h => absurd h (hl 4 (by decide))) (fun h => absurd h (hl 5 (by decide))) (fun h => absurd h (hl 6 (by decide)))
      · show StepsL _ _ _ _ _ _ _
        refine StepsL.cons (k := 0) rfl (fun listed a1 w1 hI hn hw K hK => ?_) ?_
        · cases hI with | mk p63 p64 p65 p66 p67 p5 x0 x1 x2 x3 x4 x5 x6 x7 x8 x9 ea hb hf0 hf1 hf2 hf3 hf4 hX hf6 =>
            have y0 := (hb.2.1 0 _ rfl).1
            have y1 := (hb.2.1 1 _ rfl).1
            have y2 := (hb.2.1 2 _ rfl).1
            have y3 := (hb.2.1 3 _ rfl).1
            have y4 := (hb.2.1 4 _ rfl).1
            have y5 := (hb.2.1 5 _ rfl).1
            have y6 := (hb.2.1 6 _ rfl).1
            have y7 := (hb.2.1 7 _ rfl).1
            have y8 := (hb.2.1 8 _ rfl).1
            have y9 := (hb.2.1 9 _ rfl).1
            have Hhf0 := Lib.hid hf0
            have Hhf1 := Lib.hid hf1
            have Hhf2 := Lib.hid hf2
            have Hhf3 := Lib.hid hf3
            have Hhf4 := Lib.hid hf4
            have HhX := Lib.hid hX
            have Hhf6 := Lib.hid hf6
            have Hhb := Lib.hid hb
            have Hhw := Lib.hid hw
            clear hf0 hf1 hf2 hf3 hf4 hX hf6 hb hw
            rw [ea]
            clear ea
            simp only [Act.put, List.setIfInBounds_toArray, List.set_cons_zero, List.set_cons_succ]
            go_simp
            have hf0 := Hhf0.out
            have hf1 := Hhf1.out
            have hf2 := Hhf2.out
            have hf3 := Hhf3.out
            have hf4 := Hhf4.out
            have hX := HhX.out
            have hf6 := Hhf6.out
            have hb := Hhb.out
            have hw := Hhw.out
            refine hK.out _ _ ?_
            exact .mk (.agg #[.slice a n c, .slice a' n' c', .int .i64 D, .slice q l d, .slice (P 0) (PL 0) (PC 0), .slice (P 1) (PL 1) (PC 1), .slice (P 2) (PL 2) (PC 2), .slice (r 0) (rl 0) (rc 0), .slice (r 1) (rl 1) (rc 1), .slice (r 2) (rl 2) (rc 2)]) p64 p65 p66 p67 p5 x0 x1 x2 x3 x4 x5 x6 x7 x8 x9 (by simp only [Act.put, List.setIfInBounds_toArray, List.set_cons_zero, List.set_cons_succ]) (hb) (fun _ => rfl) (fun h => hf1 (up_back h (by decide))) (fun h => hf2 (up_back h (by decide))) (fun h => hf3 (up_back h (by decide))) (fun h => hf4 (up_back h (by decide))) (fun h => hX (up_back h (by decide))) (fun h => hf6 (up_back h (by decide)))
        refine StepsL.cons (k := 1) rfl (fun listed a1 w1 hI hn hw K hK => ?_) ?_
        · cases hI with | mk p63 p64 p65 p66 p67 p5 x0 x1 x2 x3 x4 x5 x6 x7 x8 x9 ea hb hf0 hf1 hf2 hf3 hf4 hX hf6 =>
            have y0 := (hb.2.1 0 _ rfl).1
            have y1 := (hb.2.1 1 _ rfl).1
            have y2 := (hb.2.1 2 _ rfl).1
            have y3 := (hb.2.1 3 _ rfl).1
            have y4 := (hb.2.1 4 _ rfl).1
            have y5 := (hb.2.1 5 _ rfl).1
            have y6 := (hb.2.1 6 _ rfl).1
            have y7 := (hb.2.1 7 _ rfl).1
            have y8 := (hb.2.1 8 _ rfl).1
            have y9 := (hb.2.1 9 _ rfl).1
            have Hhf0 := Lib.hid hf0
            have Hhf1 := Lib.hid hf1
            have Hhf2 := Lib.hid hf2
            have Hhf3 := Lib.hid hf3
            have Hhf4 := Lib.hid hf4
            have HhX := Lib.hid hX
            have Hhf6 := Lib.hid hf6
            have Hhb := Lib.hid hb
            have Hhw := Lib.hid hw
            clear hf0 hf1 hf2 hf3 hf4 hX hf6 hb hw
            rw [ea]
            clear ea
            simp only [Act.put, List.setIfInBounds_toArray, List.set_cons_zero, List.set_cons_succ]
            go_simp
            have hf0 := Hhf0.out
            have hf1 := Hhf1.out
            have hf2 := Hhf2.out
            have hf3 := Hhf3.out
            have hf4 := Hhf4.out
            have hX := HhX.out
            have hf6 := Hhf6.out
            have hb := Hhb.out
            have hw := Hhw.out
            refine hK.out _ _ ?_
            exact .mk p63 (.agg #[.slice a n c, .slice a' n' c', .int .i64 D, .slice q l d, .slice (P 0) (PL 0) (PC 0), .slice (P 1) (PL 1) (PC 1), .slice (P 2) (PL 2) (PC 2), .slice (r 0) (rl 0) (rc 0), .slice (r 1) (rl 1) (rc 1), .slice (r 2) (rl 2) (rc 2)]) p65 p66 p67 p5 x0 x1 x2 x3 x4 x5 x6 x7 x8 x9 (by simp only [Act.put, List.setIfInBounds_toArray, List.set_cons_zero, List.set_cons_succ]) (hb) (fun h => hf0 (up_back h (by decide))) (fun _ => rfl) (fun h => hf2 (up_back h (by decide))) (fun h => hf3 (up_back h (by decide))) (fun h => hf4 (up_back h (by decide))) (fun h => hX (up_back h (by decide))) (fun h => hf6 (up_back h (by decide)))
        refine StepsL.cons (k := 2) rfl (fun listed a1 w1 hI hn hw K hK => ?_) ?_
        · cases hI with | mk p63 p64 p65 p66 p67 p5 x0 x1 x2 x3 x4 x5 x6 x7 x8 x9 ea hb hf0 hf1 hf2 hf3 hf4 hX hf6 =>
            have Hhf0 := Lib.hid hf0
            have Hhf1 := Lib.hid hf1
            have Hhf2 := Lib.hid hf2
            have Hhf3 := Lib.hid hf3
            have Hhf4 := Lib.hid hf4
            have HhX := Lib.hid hX
            have Hhf6 := Lib.hid hf6
            have Hhb := Lib.hid hb
            have Hhw := Lib.hid hw
            clear hf0 hf1 hf2 hf3 hf4 hX hf6 hb hw
            rw [ea]
            clear ea
            simp only [Act.put, List.setIfInBounds_toArray, List.set_cons_zero, List.set_cons_succ]
            go_simp
            have hf0 := Hhf0.out
            have hf1 := Hhf1.out
            have hf2 := Hhf2.out
            have hf3 := Hhf3.out
            have hf4 := Hhf4.out
            have hX := HhX.out
            have hf6 := Hhf6.out
            have hb := Hhb.out
            have hw := Hhw.out
            refine hK.out _ _ ?_
            exact .mk p63 p64 (.int .i64 (j : Int)) p66 p67 p5 x0 x1 x2 x3 x4 x5 x6 x7 x8 x9 (by simp only [Act.put, List.setIfInBounds_toArray, List.set_cons_zero, List.set_cons_succ]) (hb) (fun h => hf0 (up_back h (by decide))) (fun h => hf1 (up_back h (by decide))) (fun _ => rfl) (fun h => hf3 (up_back h (by decide))) (fun h => hf4 (up_back h (by decide))) (fun h => hX (up_back h (by decide))) (fun h => hf6 (up_back h (by decide)))
        refine StepsL.cons (k := 3) rfl (fun listed a1 w1 hI hn hw K hK => ?_) ?_
        · cases hI with | mk p63 p64 p65 p66 p67 p5 x0 x1 x2 x3 x4 x5 x6 x7 x8 x9 ea hb hf0 hf1 hf2 hf3 hf4 hX hf6 =>
            have e_f1 := hf1 (hw 1 (by decide))
            have e_f2 := hf2 (hw 2 (by decide))
            subst e_f1 e_f2
            have Hhf0 := Lib.hid hf0
            have Hhf1 := Lib.hid hf1
            have Hhf2 := Lib.hid hf2
            have Hhf3 := Lib.hid hf3
            have Hhf4 := Lib.hid hf4
            have HhX := Lib.hid hX
            have Hhf6 := Lib.hid hf6
            have Hhb := Lib.hid hb
            have Hhw := Lib.hid hw
            clear hf0 hf1 hf2 hf3 hf4 hX hf6 hb hw
            rw [ea]
            clear ea
            simp only [Act.put, List.setIfInBounds_toArray, List.set_cons_zero, List.set_cons_succ]
            go_simp
            have h0 := waits_any a a' q n c n' c' l d P PL PC r rl rc ⟨ws, ts, D, bs, f1, h⟩ j _ Hhb.out.2.2.2.stF hjl
            dsimp only at h0
            with_reducible refine h0.mono ?_
            clear h0
            rintro e w2 ⟨rfl, hb2⟩
            rw [HWB.out]
            have hf0 := Hhf0.out
            have hf1 := Hhf1.out
            have hf2 := Hhf2.out
            have hf3 := Hhf3.out
            have hf4 := Hhf4.out
            have hX := HhX.out
            have hf6 := Hhf6.out
            have hb := Hhb.out
            have hw := Hhw.out
            refine hK.out _ _ ?_
            exact .mk p63 (.agg #[.slice a n c, .slice a' n' c', .int .i64 D, .slice q l d, .slice (P 0) (PL 0) (PC 0), .slice (P 1) (PL 1) (PC 1), .slice (P 2) (PL 2) (PC 2), .slice (r 0) (rl 0) (rc 0), .slice (r 1) (rl 1) (rc 1), .slice (r 2) (rl 2) (rc 2)]) (.int .i64 (j : Int)) (.bool wb) p67 p5 x0 x1 x2 x3 x4 x5 x6 x7 x8 x9 (by simp only [Act.put, List.setIfInBounds_toArray, List.set_cons_zero, List.set_cons_succ]) (⟨below_from hb.1 hb2, varN_B hb2 hb.2.1, varN_B hb2 hb.2.2.1, stQ_B hb2 hb.2.2.2⟩) (fun h => hf0 (up_back h (by decide))) (fun _ => rfl) (fun _ => rfl) (fun _ => rfl) (fun h => hf4 (up_back h (by decide))) (fun h => hX (up_back h (by decide))) (fun h => hf6 (up_back h (by decide)))
        refine StepsL.cons (k := 4) rfl (fun listed a1 w1 hI hn hw K hK => ?_) ?_
        · cases hI with | mk p63 p64 p65 p66 p67 p5 x0 x1 x2 x3 x4 x5 x6 x7 x8 x9 ea hb hf0 hf1 hf2 hf3 hf4 hX hf6 =>
            have e_f3 := hf3 (hw 3 (by decide))
            subst e_f3
            have Hhf0 := Lib.hid hf0
            have Hhf1 := Lib.hid hf1
            have Hhf2 := Lib.hid hf2
            have Hhf3 := Lib.hid hf3
            have Hhf4 := Lib.hid hf4
            have HhX := Lib.hid hX
            have Hhf6 := Lib.hid hf6
            have Hhb := Lib.hid hb
            have Hhw := Lib.hid hw
            clear hf0 hf1 hf2 hf3 hf4 hX hf6 hb hw
            rw [ea]
            clear ea
            simp only [Act.put, List.setIfInBounds_toArray, List.set_cons_zero, List.set_cons_succ]
            go_simp
            have hf0 := Hhf0.out
            have hf1 := Hhf1.out
            have hf2 := Hhf2.out
            have hf3 := Hhf3.out
            have hf4 := Hhf4.out
            have hX := HhX.out
            have hf6 := Hhf6.out
            have hb := Hhb.out
            have hw := Hhw.out
            refine hK.out _ _ ?_
            exact .mk p63 p64 p65 (.bool wb) (.bool (!wb)) p5 x0 x1 x2 x3 x4 x5 x6 x7 x8 x9 (by simp only [Act.put, List.setIfInBounds_toArray, List.set_cons_zero, List.set_cons_succ]) (hb) (fun h => hf0 (up_back h (by decide))) (fun h => hf1 (up_back h (by decide))) (fun h => hf2 (up_back h (by decide))) (fun _ => rfl) (fun _ => rfl) (fun h => hX (up_back h (by decide))) (fun h => hf6 (up_back h (by decide)))
        refine StepsL.cons (k := 5) rfl (fun listed a1 w1 hI hn hw K hK => ?_) ?_
        · cases hI with | mk p63 p64 p65 p66 p67 p5 x0 x1 x2 x3 x4 x5 x6 x7 x8 x9 ea hb hf0 hf1 hf2 hf3 hf4 hX hf6 =>
            have e_f0 := hf0 (hw 0 (by decide))
            subst e_f0
            obtain ⟨z0, f0⟩ := hb.2.2.1 0 _ rfl
            obtain ⟨z1, f1⟩ := hb.2.2.1 1 _ rfl
            obtain ⟨z2, f2⟩ := hb.2.2.1 2 _ rfl
            obtain ⟨z3, f3⟩ := hb.2.2.1 3 _ rfl
            obtain ⟨z4, f4⟩ := hb.2.2.1 4 _ rfl
            obtain ⟨z5, f5⟩ := hb.2.2.1 5 _ rfl
            obtain ⟨z6, f6⟩ := hb.2.2.1 6 _ rfl
            obtain ⟨z7, f7⟩ := hb.2.2.1 7 _ rfl
            obtain ⟨z8, f8⟩ := hb.2.2.1 8 _ rfl
            obtain ⟨z9, f9⟩ := hb.2.2.1 9 _ rfl
            have Hhf0 := Lib.hid hf0
            have Hhf1 := Lib.hid hf1
            have Hhf2 := Lib.hid hf2
            have Hhf3 := Lib.hid hf3
            have Hhf4 := Lib.hid hf4
            have HhX := Lib.hid hX
            have Hhf6 := Lib.hid hf6
            have Hhb := Lib.hid hb
            have Hhw := Lib.hid hw
            clear hf0 hf1 hf2 hf3 hf4 hX hf6 hb hw
            rw [ea]
            clear ea
            simp only [Act.put, List.setIfInBounds_toArray, List.set_cons_zero, List.set_cons_succ]
            go_simp
            have hf0 := Hhf0.out
            have hf1 := Hhf1.out
            have hf2 := Hhf2.out
            have hf3 := Hhf3.out
            have hf4 := Hhf4.out
            have hX := HhX.out
            have hf6 := Hhf6.out
            have hb := Hhb.out
            have hw := Hhw.out
            refine hK.out _ _ ?_
            exact .mk (.agg #[.slice a n c, .slice a' n' c', .int .i64 D, .slice q l d, .slice (P 0) (PL 0) (PC 0), .slice (P 1) (PL 1) (PC 1), .slice (P 2) (PL 2) (PC 2), .slice (r 0) (rl 0) (rc 0), .slice (r 1) (rl 1) (rc 1), .slice (r 2) (rl 2) (rc 2)]) p64 p65 p66 p67 p5 (.slice a n c) (.slice a' n' c') (.int .i64 D) (.slice q l d) (.slice (P 0) (PL 0) (PC 0)) (.slice (P 1) (PL 1) (PC 1)) (.slice (P 2) (PL 2) (PC 2)) (.slice (r 0) (rl 0) (rc 0)) (.slice (r 1) (rl 1) (rc 1)) (.slice (r 2) (rl 2) (rc 2)) (by simp only [Act.put, List.setIfInBounds_toArray, List.set_cons_zero, List.set_cons_succ]) (⟨below_setN (g := w.heap.size + 1) (xs := [.slice a n c, .slice a' n' c', .int .i64 D, .slice q l d, .slice (P 0) (PL 0) (PC 0), .slice (P 1) (PL 1) (PC 1), .slice (P 2) (PL 2) (PC 2), .slice (r 0) (rl 0) (rc 0), .slice (r 1) (rl 1) (rc 1), .slice (r 2) (rl 2) (rc 2)]) (k := 0) (by omega) hb.1, varN_others (g' := w.heap.size + 1) (xs := [.slice a n c, .slice a' n' c', .int .i64 D, .slice q l d, .slice (P 0) (PL 0) (PC 0), .slice (P 1) (PL 1) (PC 1), .slice (P 2) (PL 2) (PC 2), .slice (r 0) (rl 0) (rc 0), .slice (r 1) (rl 1) (rc 1), .slice (r 2) (rl 2) (rc 2)]) (k := 0) (by omega) hb.2.1, varN_all (xs := [.slice a n c, .slice a' n' c', .int .i64 D, .slice q l d, .slice (P 0) (PL 0) (PC 0), .slice (P 1) (PL 1) (PC 1), .slice (P 2) (PL 2) (PC 2), .slice (r 0) (rl 0) (rc 0), .slice (r 1) (rl 1) (rc 1), .slice (r 2) (rl 2) (rc 2)]) hb.2.2.1 rfl, stQ_keep (kept_setN (g := w.heap.size + 1) (xs := [.slice a n c, .slice a' n' c', .int .i64 D, .slice q l d, .slice (P 0) (PL 0) (PC 0), .slice (P 1) (PL 1) (PC 1), .slice (P 2) (PL 2) (PC 2), .slice (r 0) (rl 0) (rc 0), .slice (r 1) (rl 1) (rc 1), .slice (r 2) (rl 2) (rc 2)]) (k := 0) (fun b hb => by omega)) hb.2.2.2⟩) (fun _ => rfl) (fun h => hf1 (up_back h (by decide))) (fun h => hf2 (up_back h (by decide))) (fun h => hf3 (up_back h (by decide))) (fun h => hf4 (up_back h (by decide))) (fun _ => rfl) (fun h => hf6 (up_back h (by decide)))
        refine StepsL.cons (k := 6) rfl (fun listed a1 w1 hI hn hw K hK => ?_) ?_
        · cases hI with | mk p63 p64 p65 p66 p67 p5 x0 x1 x2 x3 x4 x5 x6 x7 x8 x9 ea hb hf0 hf1 hf2 hf3 hf4 hX hf6 =>
            have e_f4 := hf4 (hw 4 (by decide))
            subst e_f4
            have Hhf0 := Lib.hid hf0
            have Hhf1 := Lib.hid hf1
            have Hhf2 := Lib.hid hf2
            have Hhf3 := Lib.hid hf3
            have Hhf4 := Lib.hid hf4
            have HhX := Lib.hid hX
            have Hhf6 := Lib.hid hf6
            have Hhb := Lib.hid hb
            have Hhw := Lib.hid hw
            clear hf0 hf1 hf2 hf3 hf4 hX hf6 hb hw
            rw [ea]
            clear ea
            simp only [Act.put, List.setIfInBounds_toArray, List.set_cons_zero, List.set_cons_succ]
            go_simp
            have hf0 := Hhf0.out
            have hf1 := Hhf1.out
            have hf2 := Hhf2.out
            have hf3 := Hhf3.out
            have hf4 := Hhf4.out
            have hX := HhX.out
            have hf6 := Hhf6.out
            have hb := Hhb.out
            have hw := Hhw.out
            refine hK.out _ _ ?_
            exact .mk p63 p64 p65 p66 (.bool (!wb)) (.bool (!wb)) x0 x1 x2 x3 x4 x5 x6 x7 x8 x9 (by simp only [Act.put, List.setIfInBounds_toArray, List.set_cons_zero, List.set_cons_succ]) (hb) (fun h => hf0 (up_back h (by decide))) (fun h => hf1 (up_back h (by decide))) (fun h => hf2 (up_back h (by decide))) (fun h => hf3 (up_back h (by decide))) (fun _ => rfl) (fun h => hX (up_back h (by decide))) (fun _ => rfl)
        exact StepsL.nil
      · intro listed a1 w1 hI hu
        cases hI with | mk p63 p64 p65 p66 p67 p5 x0 x1 x2 x3 x4 x5 x6 x7 x8 x9 ea hb hf0 hf1 hf2 hf3 hf4 hX hf6 =>
          have eX := hX (hu 5)
          have e5 := hf6 (hu 6)
          rw [eX] at hb
          subst e5
          have HBB := Lib.hid hb
          clear hf0 hf1 hf2 hf3 hf4 hX hf6 hb eX
          rw [ea]
          clear ea
          simp only [Act.put, List.setIfInBounds_toArray, List.set_cons_zero, List.set_cons_succ]
          go_wp2
          refine bp_cell_tmp ⟨w.heap.size + 1, 0, none⟩ rfl rfl rfl (load_stage _ _ _ _ _ _ _ _ _ _ _ _ HBB.out.2.2.1) ?_
          rw [HS1.out, move2]
          dsimp only
          rw [HWB.out]
          exact ⟨_, _, _, _, _, _, _, _, _, P, PL, PC, r, rl, rc, rfl, (stQ_mono (fun b hb => hb.elim (fun h => .inl h.1) (fun h => .inr (by omega))) HBB.out.2.2.2), HBB.out.1⟩
    · obtain ⟨E, hE⟩ : ∃ E, lockTE ws ts D bs j 1 ma = E := ⟨_, rfl⟩
      obtain ⟨v, hv⟩ : ∃ v, okZ E (loadZ ws ts ma) = v := ⟨_, rfl⟩
      obtain ⟨D2, hD2⟩ : ∃ D2, okZ E D = D2 := ⟨_, rfl⟩
      have HE := Lib.hid hE
      have HV := Lib.hid hv
      have HD2 := Lib.hid hD2
      clear hE hv hD2
      go_wp2_with fail
      have h0 := tsoLockedF_any a a' q n c n' c' l d ws ts D bs j 1 ma mv 0 wc T1 T2 T HWF.out
      with_reducible refine h0.mono ?_
      clear h0
      rw [HE.out, HV.out, HD2.out]
      rintro e w2 ⟨a2, n2', c2, a3, n3, c3, q2, l2, d2, rfl, u1, u2, u3, hb2⟩
      have hz2 := hb2.size
      have X2 := varN_B hb2 HXc.out
      have R2 := varN_B hb2 HRc.out
      have hF2 := stQ_B hb2 HFc.out
      obtain ⟨Z1, hZ1⟩ : ∃ Z, Z = setN w2 w.heap.size 0 [.slice a2 n2' c2, .slice a3 n3 c3, .int .i64 D2, .slice q2 l2 d2] := ⟨_, rfl⟩
      have X3 : VarN Z1 w.heap.size [.slice a2 n2' c2, .slice a3 n3 c3, .int .i64 D2, .slice q2 l2 d2, .slice (P 0) (PL 0) (PC 0), .slice (P 1) (PL 1) (PC 1), .slice (P 2) (PL 2) (PC 2), .slice (r 0) (rl 0) (rc 0), .slice (r 1) (rl 1) (rc 1), .slice (r 2) (rl 2) (rc 2)] := by rw [hZ1]; exact varN_setN (xs := [.slice a2 n2' c2, .slice a3 n3 c3, .int .i64 D2, .slice q2 l2 d2]) 0 X2 (by simp)
      have R3 : VarN Z1 (w.heap.size + 1) [.slice none 0 0, .slice none 0 0, .int .i64 0, .slice none 0 0, .slice none 0 0, .slice none 0 0, .slice none 0 0, .slice none 0 0, .slice none 0 0, .slice none 0 0] := by rw [hZ1]; exact varN_others (by omega) R2
      have B3 : Below w.heap.size w Z1 := by rw [hZ1]; exact below_setN (Nat.le_refl _) (below_from HBc.out hb2)
      have hK : Kept (fun b => (QQ b ∧ b < w.heap.size) ∨ w.heap.size + 2 ≤ b) w2 Z1 := by rw [hZ1]; exact kept_setN (fun b hb => by omega)
      have S3 : StQ (fun b => (QQ b ∧ b < w.heap.size) ∨ w.heap.size + 2 ≤ b) Z1 a2 a3 q2 n2' n3 l2 P PL PC r rl rc (withM ⟨ws, ts, D, bs, f1, h⟩ (okL E (lockTW ws ts 1 ma mv 0)) (okL E ts) D2 (okL E bs)) :=
        ⟨slP_keep hK (slP_mono (fun b hb => .inr (by omega)) u1), slP_keep hK (slP_mono (fun b hb => .inr (by omega)) u2), blP_keep hK (blP_mono (fun b hb => .inr (by omega)) u3), three_keep hK hF2.2.2.2.1, three_keep hK hF2.2.2.2.2⟩
      have hzZ1 : w.heap.size + 1 < Z1.heap.size := varN_lt R3 (by simp)
      have HZ1 : Hid (Z1 = (((w2.setCell ⟨w.heap.size, 0, none⟩ (.slice a2 n2' c2)).setCell ⟨w.heap.size, 1, none⟩ (.slice a3 n3 c3)).setCell ⟨w.heap.size, 2, none⟩ (.int .i64 D2)).setCell ⟨w.heap.size, 3, none⟩ (.slice q2 l2 d2)) := hZ1
      obtain ⟨y0, g0⟩ := X2 0 _ rfl
      obtain ⟨y1, g1⟩ := X2 1 _ rfl
      obtain ⟨y2, g2⟩ := X2 2 _ rfl
      obtain ⟨y3, g3⟩ := X2 3 _ rfl
      have HX2 := Lib.hid X3
      have HR2 := Lib.hid R3
      have HB2 := Lib.hid B3
      have HF2 := Lib.hid S3
      clear hZ1 X2 R2 hF2 X3 R3 B3 hK S3 u1 u2 u3 hb2 k0 k1 k2 k3 n0 n1 n2 T1 T2 T
      go_upto_region 17 with fail
      rw [← HZ1.out]
      clear y0 y1 y2 y3 g0 g1 g2 g3
      have y0 := (HX2.out 0 _ rfl).1
      have y1 := (HX2.out 1 _ rfl).1
      have y2 := (HX2.out 2 _ rfl).1
      have y3 := (HX2.out 3 _ rfl).1
      have y4 := (HX2.out 4 _ rfl).1
      have y5 := (HX2.out 5 _ rfl).1
      have y6 := (HX2.out 6 _ rfl).1
      have y7 := (HX2.out 7 _ rfl).1
      have y8 := (HX2.out 8 _ rfl).1
      have y9 := (HX2.out 9 _ rfl).1
      go_wp2_with fail
      have h0 := noting_any a2 a3 q2 n2' c2 n3 c3 l2 d2 P PL PC r rl rc (withM ⟨ws, ts, D, bs, f1, h⟩ (okL E (lockTW ws ts 1 ma mv 0)) (okL E ts) D2 (okL E bs)) j v Z1 _ HF2.out hj hrl
      dsimp only [withM] at h0
      with_reducible refine h0.mono ?_
      clear h0
      rintro e w3 ⟨a6, a7, q6, n6, c6, n7, c7, l6, d6, p2, pl2, pc2, r2, rl2, rc2, rfl, S4, hb4⟩
      rw [show (noteS ⟨okL E (lockTW ws ts 1 ma mv 0), okL E ts, D2, okL E bs, f1, h⟩ j v).D = D2 from rfl]
      dsimp only [withM, noteS] at S4
      have hz4 := hb4.size
      have hX2 := varN_B hb4 HX2.out
      have hR2 := varN_B hb4 HR2.out
      obtain ⟨Z3, hZ3⟩ : ∃ Z, Z = setN w3 w.heap.size 0 [.slice a6 n6 c6, .slice a7 n7 c7, .int .i64 D2, .slice q6 l6 d6, .slice (p2 0) (pl2 0) (pc2 0), .slice (p2 1) (pl2 1) (pc2 1), .slice (p2 2) (pl2 2) (pc2 2), .slice (r2 0) (rl2 0) (rc2 0), .slice (r2 1) (rl2 1) (rc2 1), .slice (r2 2) (rl2 2) (rc2 2)] := ⟨_, rfl⟩
      have X3 : VarN Z3 w.heap.size [.slice a6 n6 c6, .slice a7 n7 c7, .int .i64 D2, .slice q6 l6 d6, .slice (p2 0) (pl2 0) (pc2 0), .slice (p2 1) (pl2 1) (pc2 1), .slice (p2 2) (pl2 2) (pc2 2), .slice (r2 0) (rl2 0) (rc2 0), .slice (r2 1) (rl2 1) (rc2 1), .slice (r2 2) (rl2 2) (rc2 2)] := by rw [hZ3]; exact varN_all hX2 rfl
      have R3 : VarN Z3 (w.heap.size + 1) [.slice none 0 0, .slice none 0 0, .int .i64 0, .slice none 0 0, .slice none 0 0, .slice none 0 0, .slice none 0 0, .slice none 0 0, .slice none 0 0, .slice none 0 0] := by rw [hZ3]; exact varN_others (by omega) hR2
      have B3 : Below w.heap.size w Z3 := by rw [hZ3]; exact below_setN (Nat.le_refl _) (below_from HB2.out hb4)
      have hK : Kept (fun b => (QQ b ∧ b < w.heap.size) ∨ w.heap.size + 2 ≤ b) w3 Z3 := by rw [hZ3]; exact kept_setN (fun b hb => by omega)
      have S5 := stQ_keep hK (stQ_mono (Q' := fun b => (QQ b ∧ b < w.heap.size) ∨ w.heap.size + 2 ≤ b) (fun b hb => by rcases hb with hb | hb; exact hb; exact .inr (by omega)) S4)
      have HZ3 := Lib.hid hZ3
      clear y0 y1 y2 y3 y4 y5 y6 y7 y8 y9
      obtain ⟨y0, g0⟩ := hX2 0 _ rfl
      obtain ⟨y1, g1⟩ := hX2 1 _ rfl
      obtain ⟨y2, g2⟩ := hX2 2 _ rfl
      obtain ⟨y3, g3⟩ := hX2 3 _ rfl
      obtain ⟨y4, g4⟩ := hX2 4 _ rfl
      obtain ⟨y5, g5⟩ := hX2 5 _ rfl
      obtain ⟨y6, g6⟩ := hX2 6 _ rfl
      obtain ⟨y7, g7⟩ := hX2 7 _ rfl
      obtain ⟨y8, g8⟩ := hX2 8 _ rfl
      obtain ⟨y9, g9⟩ := hX2 9 _ rfl
      have HX3 := Lib.hid X3
      have HR3 := Lib.hid R3
      have HB3 := Lib.hid B3
      have HS3 := Lib.hid S5
      clear hZ3 hX2 hR2 X3 R3 B3 hK S4 S5 hb4
      go_upto_region 18 with fail
      have HZ3' : Hid (Z3 = (((((((((w3.setCell ⟨w.heap.size, 0, none⟩ (.slice a6 n6 c6)).setCell ⟨w.heap.size, 1, none⟩ (.slice a7 n7 c7)).setCell ⟨w.heap.size, 2, none⟩ (.int .i64 D2)).setCell ⟨w.heap.size, 3, none⟩ (.slice q6 l6 d6)).setCell ⟨w.heap.size, 4, none⟩ (.slice (p2 0) (pl2 0) (pc2 0))).setCell ⟨w.heap.size, 5, none⟩ (.slice (p2 1) (pl2 1) (pc2 1))).setCell ⟨w.heap.size, 6, none⟩ (.slice (p2 2) (pl2 2) (pc2 2))).setCell ⟨w.heap.size, 7, none⟩ (.slice (r2 0) (rl2 0) (rc2 0))).setCell ⟨w.heap.size, 8, none⟩ (.slice (r2 1) (rl2 1) (rc2 1))).setCell ⟨w.heap.size, 9, none⟩ (.slice (r2 2) (rl2 2) (rc2 2))) := HZ3.out
      rw [← HZ3'.out]
      clear y0 y1 y2 y3 y4 y5 y6 y7 y8 y9 g0 g1 g2 g3 g4 g5 g6 g7 g8 g9
      have y0 := (HX3.out 0 _ rfl).1
      have y1 := (HX3.out 1 _ rfl).1
      have y2 := (HX3.out 2 _ rfl).1
      have y3 := (HX3.out 3 _ rfl).1
      have y4 := (HX3.out 4 _ rfl).1
      have y5 := (HX3.out 5 _ rfl).1
      have y6 := (HX3.out 6 _ rfl).1
      have y7 := (HX3.out 7 _ rfl).1
      have y8 := (HX3.out 8 _ rfl).1
      have y9 := (HX3.out 9 _ rfl).1
      obtain ⟨z0, f0⟩ := HR3.out 0 _ rfl
      obtain ⟨z1, f1⟩ := HR3.out 1 _ rfl
      obtain ⟨z2, f2⟩ := HR3.out 2 _ rfl
      obtain ⟨z3, f3⟩ := HR3.out 3 _ rfl
      obtain ⟨z4, f4⟩ := HR3.out 4 _ rfl
      obtain ⟨z5, f5⟩ := HR3.out 5 _ rfl
      obtain ⟨z6, f6⟩ := HR3.out 6 _ rfl
      obtain ⟨z7, f7⟩ := HR3.out 7 _ rfl
      obtain ⟨z8, f8⟩ := HR3.out 8 _ rfl
      obtain ⟨z9, f9⟩ := HR3.out 9 _ rfl
      go_wp2
      have hR4 := varN_all (xs := [.slice a6 n6 c6, .slice a7 n7 c7, .int .i64 D2, .slice q6 l6 d6, .slice (p2 0) (pl2 0) (pc2 0), .slice (p2 1) (pl2 1) (pc2 1), .slice (p2 2) (pl2 2) (pc2 2), .slice (r2 0) (rl2 0) (rc2 0), .slice (r2 1) (rl2 1) (rc2 1), .slice (r2 2) (rl2 2) (rc2 2)]) HR3.out rfl
      have hBf := below_setN (g := w.heap.size + 1) (xs := [.slice a6 n6 c6, .slice a7 n7 c7, .int .i64 D2, .slice q6 l6 d6, .slice (p2 0) (pl2 0) (pc2 0), .slice (p2 1) (pl2 1) (pc2 1), .slice (p2 2) (pl2 2) (pc2 2), .slice (r2 0) (rl2 0) (rc2 0), .slice (r2 1) (rl2 1) (rc2 1), .slice (r2 2) (rl2 2) (rc2 2)]) (k := 0) (by omega) HB3.out
      have hKf : Kept (fun b => (QQ b ∧ b < w.heap.size) ∨ w.heap.size + 2 ≤ b) Z3 (setN Z3 (w.heap.size + 1) 0 [.slice a6 n6 c6, .slice a7 n7 c7, .int .i64 D2, .slice q6 l6 d6, .slice (p2 0) (pl2 0) (pc2 0), .slice (p2 1) (pl2 1) (pc2 1), .slice (p2 2) (pl2 2) (pc2 2), .slice (r2 0) (rl2 0) (rc2 0), .slice (r2 1) (rl2 1) (rc2 1), .slice (r2 2) (rl2 2) (rc2 2)]) := kept_setN (fun b hb => by omega)
      refine bp_cell_tmp ⟨w.heap.size + 1, 0, none⟩ rfl rfl rfl (load_stage _ _ _ _ _ _ _ _ _ _ _ _ hR4) ?_
      rw [HS1.out, move3]
      dsimp only
      rw [HE.out, HV.out, HD2.out]
      exact ⟨_, _, _, _, _, _, _, _, _, p2, pl2, pc2, r2, rl2, rc2, rfl, (stQ_mono (fun b hb => hb.elim (fun h => .inl h.1) (fun h => .inr (by omega))) (stQ_keep hKf HS3.out)), hBf⟩
end Go.Proofs.YtiebaeaomgpicaaGreat
