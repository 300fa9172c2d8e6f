/- LitA, LitB, LitC, LitD, put together. -/
import Derived.Test.YtiebaeaomgpicaaGreatM1
import Derived.Test.YtiebaeaomgpicaaGreatM4
import Derived.Test.YtiebaeaomgpicaaGreatGen
import Derived.Deep.DeepCutAuto
import Derived.Test.YtiebaeaomgpicaaGreatTsoK
import Derived.Test.YtiebaeaomgpicaaGreatM7
import Derived.ArgAppend
/- Contracts of package litmus: fits, Right. -/
namespace Go.Proofs.YtiebaeaomgpicaaGreat
open Go.ChangeShapes Go.WideShapes Go.ChangeAt Go.RowKit
open Gen

set_option maxRecDepth 100000 in
set_option maxHeartbeats 2000000 in
theorem fits_any (k x v W : Int) (w : World) : Calls Tryz.prog 23 #[.agg #[.int .i64 k, .int .i64 x, .int .i64 v], .int .i64 W] w (BoolPost (fitsB W (k, x, v)) w) := by
  go_enter Tryz.func23, Tryz.ntmps23
  go_wp2
  all_goals
    go_ret
    refine boolPost_mk ?_ (by go_grown)
    try simp only [beq_iff_eq, beq_eq_false_iff_ne] at *
    rw [Bool.eq_iff_iff]
    simp [fitsB]
    try omega

/-- the row of moves of that number, and a move of one -/
theorem moves_at {w : World} {q : Option Addr} {l : Nat} {ts : List (List Mv)} (S : Vs (repSlice repInt3) Any w q l ts) {k : Nat} (hk : k < l) :
    ∃ b o t p c, q = some ⟨b, o, none⟩ ∧ ts[k]? = some t ∧ w.cell? ⟨b, o + k, none⟩ = some (.slice p t.length c) ∧ t.length ≤ c ∧ c ≤ 9223372036854775807 ∧ (p = none → c = 0) ∧ Vs repInt3 Any w p t.length t := by
  obtain ⟨b, o, t, e, ht, _, h⟩ := vs_at S hk
  obtain ⟨p, c, h1, h2, h3, h4, h5⟩ := at_slice h
  rw [show (repSlice repInt3).k = 1 from rfl, Nat.mul_one] at h1
  exact ⟨b, o, t, p, c, e, ht, h1, h2, h3, h4, h5⟩
theorem move_at {w : World} {p : Option Addr} {n : Nat} {t : List Mv} (S : Vs repInt3 Any w p n t) {k : Nat} (hk : k < n) :
    ∃ b o x y z, p = some ⟨b, o, none⟩ ∧ t[k]? = some (x, y, z) ∧ w.cell? ⟨b, o + k * 3, none⟩ = some (.int .i64 x) ∧ w.cell? ⟨b, o + k * 3 + 1, none⟩ = some (.int .i64 y) ∧ w.cell? ⟨b, o + k * 3 + 2, none⟩ = some (.int .i64 z) := by
  obtain ⟨b, o, ⟨x, y, z⟩, e, ht, _, h⟩ := vs_at S hk
  have h := at_int3 h
  rw [show repInt3.k = 3 from rfl] at h
  exact ⟨b, o, x, y, z, e, ht, h⟩

set_option maxRecDepth 100000 in
set_option maxHeartbeats 4000000 in
theorem litRight_any (W D : Int) (q : Option Addr) (l d : Nat) (ts : List (List Mv)) (w : World) (S : Vs (repSlice repInt3) Any w q l ts) (hlen : ∀ t ∈ ts, t.length ≤ 100) (hl : l ≤ 1000) :
    Calls Tryz.prog 7 #[.agg #[.int .i64 W, .int .i64 D, .slice q l d]] w (BoolPost (mayL W D ts) w) := by
  have Hl := Lib.hid S.1
  have HL := Lib.hid hlen
  clear hlen
  by_cases hs : (1 ≤ W ∧ W ≤ 3 ∧ 0 ≤ D ∧ D ≤ 3) ∧ 1 ≤ l ∧ l ≤ 3
  · obtain ⟨⟨s1, s2, s3, s4⟩, s5, s6⟩ := hs
    go_enter Tryz.func7, Tryz.ntmps7
    obtain ⟨W0, hW0⟩ : ∃ W0, W0 = w.alloc (Obj.cells #[.int .i64 W, .int .i64 D, .slice q l d] 25) := ⟨_, rfl⟩
    have k0 : W0.cell? ⟨w.heap.size, 0, none⟩ = some (.int .i64 W) := by rw [hW0]; exact cell_new _ _ _ rfl rfl
    have k1 : W0.cell? ⟨w.heap.size, 1, none⟩ = some (.int .i64 D) := by rw [hW0]; exact cell_new _ _ _ rfl rfl
    have k2 : W0.cell? ⟨w.heap.size, 2, none⟩ = some (.slice q l d) := by rw [hW0]; exact cell_new _ _ _ rfl rfl
    have T : Vs (repSlice repInt3) Any W0 q l ts := by rw [hW0]; exact vs_A _ S
    have HB := Lib.hid (show Below w.heap.size w W0 by rw [hW0]; go_grown)
    go_upto_region 1 with fail
    rw [← hW0]
    clear hW0 S
    go_wp2
    go_loop [3, 41] (fun m i => ∃ k : Nat, k ≤ l ∧ i = .int .i64 k ∧ m = .int .i64 ((total (ts.take k) : Nat) : Int)) (fun _ i => l - (intOf i).toNat)
    case atStart => exact ⟨0, by omega, rfl, rfl⟩
    case round =>
      obtain ⟨k, hk, rfl, rfl⟩ := hrel
      have hbd := total_bound HL.out k
      by_cases hlt : k < l
      · obtain ⟨b, o, t, p, c, rfl, ht, g0, -, -, -, -⟩ := moves_at T hlt
        have HT := Lib.hid (total_succ ht)
        have hl100 := HL.out t (List.mem_of_getElem? ht)
        have i1 : (0 : Int) ≤ k := by omega
        have i2 : (k : Int) < l := by omega
        clear ht
        go_wp2
        go_round
        case rel => exact ⟨k + 1, by omega, by go_num, by rw [HT.out]; go_num⟩
        case measure => simp [intOf]; omega
      · obtain rfl : k = l := by omega
        rw [List.take_of_length_le (by rw [Hl.out]; exact Nat.le_refl _)]
        have hbd' : total ts ≤ 100 * k := by rw [List.take_of_length_le (by rw [Hl.out]; exact Nat.le_refl _)] at hbd; exact hbd
        clear hbd
        by_cases h6 : total ts ≤ 6
        · have h6' : ¬ (6 : Int) < (total ts : Nat) := by omega
          go_wp2_with fail
          go_loopw [55] (fun i wr => ∃ j : Nat, j ≤ k ∧ i = .int .i64 j ∧ Hid (FitsTo W ts j) ∧ Below W0.heap.size W0 wr) (fun i _ => k - (intOf i).toNat)
          case atStart => exact ⟨0, by omega, rfl, (show FitsTo W ts 0 from fun i t hi => by omega), Below.refl _ _⟩
          case round =>
            obtain ⟨j, hj, rfl, hf, hb⟩ := hrel
            obtain ⟨wo, hwo⟩ : ∃ wo : World, wo = wr := ⟨_, rfl⟩
            subst hwo
            by_cases hlt : j < k
            · obtain ⟨b, o, t, p, c, rfl, ht, g0, -, -, -, T2⟩ := moves_at (vs_B hb T) hlt
              have HT := Lib.hid ht
              have HB2 := Lib.hid hb
              have hl100 := HL.out t (List.mem_of_getElem? ht)
              obtain ⟨n, hn⟩ : ∃ n, t.length = n := ⟨_, rfl⟩
              rw [hn] at g0 T2 hl100
              have HN := Lib.hid hn
              have i1 : (0 : Int) ≤ j := by omega
              have i2 : (j : Int) < k := by omega
              clear ht hb hn
              go_wp2_with fail
              go_loopw [61, 9] (fun i _ wr => ∃ x : Nat, x ≤ n ∧ i = .int .i64 x ∧ Hid (FitTo W t x) ∧ Below wo.heap.size wo wr) (fun i _ _ => n - (intOf i).toNat)
              case atStart => exact ⟨0, by omega, rfl, (show FitTo W t 0 from fun i m hi => by omega), Below.refl _ _⟩
              case round =>
                obtain ⟨x, hx, rfl, hfx, hbx⟩ := hrel
                obtain ⟨wi, hwi⟩ : ∃ wi : World, wi = wr := ⟨_, rfl⟩
                subst hwi
                by_cases hlx : x < n
                · obtain ⟨b2, o2, mk, ma, mv, rfl, hm, m0, m1, m2⟩ := move_at (vs_B hbx T2) hlx
                  have HMM := Lib.hid hm
                  have HBX := Lib.hid hbx
                  have HBW := Lib.hid (below_from HB2.out hbx)
                  have k0' := cellA (Obj.cells #[.int .i64 mk, .int .i64 ma, .int .i64 mv] 61) (cellB HBW.out k0)
                  have i3 : (0 : Int) ≤ x := by omega
                  have i4 : (x : Int) < n := by omega
                  clear hm hbx
                  cases hfit : fitsB W (mk, ma, mv) with
                  | true =>
                    have HF := Lib.hid hfit
                    clear hfit
                    go_wp2_with fail
                    refine (fits_any mk ma mv W _).mono ?_
                    rintro e w3 ⟨rfl, hb3⟩
                    rw [HF.out]
                    have HB3 := Lib.hid (below_from (HBX.out.alloc HBX.out.size (Obj.cells #[.int .i64 mk, .int .i64 ma, .int .i64 mv] 61)) hb3)
                    clear hb3
                    go_wp2
                    go_roundw
                    case rel => exact ⟨x + 1, by omega, by go_num, fitTo_succ hfx.out HMM.out HF.out, HB3.out⟩
                    case measure => simp [intOf]; omega
                  | false =>
                    have HF := Lib.hid hfit
                    clear hfit
                    go_wp2_with fail
                    refine (fits_any mk ma mv W _).mono ?_
                    rintro e w3 ⟨rfl, hb3⟩
                    rw [HF.out]
                    have HB3 := Lib.hid (below_from (HBX.out.alloc HBX.out.size (Obj.cells #[.int .i64 mk, .int .i64 ma, .int .i64 mv] 61)) hb3)
                    clear hb3
                    go_wp2
                    go_ret
                    exact boolPost_mk (mayL_no (.inr (.inr (.inr ⟨t, List.mem_of_getElem? HT.out, _, List.mem_of_getElem? HMM.out, HF.out⟩)))) (below_from HB.out (below_from HB2.out HB3.out))
                · obtain rfl : x = n := by omega
                  have HBX := Lib.hid hbx
                  clear hbx
                  go_wp2
                  go_roundw
                  case rel => exact ⟨j + 1, by omega, by go_num, fitsTo_succ hf.out HT.out (by rw [HN.out]; exact hfx.out), below_from HB2.out HBX.out⟩
                  case measure => simp [intOf]; omega
            · obtain rfl : j = k := by omega
              have HB2 := Lib.hid hb
              clear hb
              go_wp2
              go_ret
              exact boolPost_mk (mayL_mk ⟨s1, s2, s3, s4⟩ (by rw [Hl.out]; exact ⟨s5, s6⟩) h6 (fitsTo_all (by rw [Hl.out]; exact hf.out))) (below_from HB.out HB2.out)
        · have h6' : (6 : Int) < (total ts : Nat) := by omega
          go_wp2
          go_ret
          exact boolPost_mk (mayL_no (.inr (.inr (.inl h6)))) HB.out
  · have hno : mayL W D ts = false := by
      apply mayL_no
      rw [Hl.out]
      by_cases h1 : 1 ≤ W ∧ W ≤ 3 ∧ 0 ≤ D ∧ D ≤ 3
      · exact .inr (.inl (fun h2 => hs ⟨h1, h2⟩))
      · exact .inl h1
    rw [hno]
    have hcase : W < 1 ∨ (¬ W < 1 ∧ 3 < W) ∨ (¬ W < 1 ∧ ¬ 3 < W ∧ D < 0) ∨ (¬ W < 1 ∧ ¬ 3 < W ∧ ¬ D < 0 ∧ 3 < D) ∨ (¬ W < 1 ∧ ¬ 3 < W ∧ ¬ D < 0 ∧ ¬ 3 < D ∧ l = 0) ∨ (¬ W < 1 ∧ ¬ 3 < W ∧ ¬ D < 0 ∧ ¬ 3 < D ∧ (1 : Int) ≤ l ∧ (3 : Int) < l) := by omega
    clear hs hno
    rcases hcase with h | ⟨h, h2⟩ | ⟨h, h2, h3⟩ | ⟨h, h2, h3, h4⟩ | ⟨h, h2, h3, h4, rfl⟩ | ⟨h, h2, h3, h4, h5, h6⟩
    all_goals
      go_enter Tryz.func7, Tryz.ntmps7
      go_wp2
      go_ret
      exact boolPost_mk rfl (by go_grown)
end Go.Proofs.YtiebaeaomgpicaaGreat
/- Package litmus: stages, in plain mathematics and as they lie in memory. -/
namespace Go.Proofs.YtiebaeaomgpicaaGreat
open Go.ChangeShapes Go.WideShapes Go.ChangeAt Go.RowKit
open Gen

/-- three slices, one for each thread -/
def Three {α : Type} (r : Rep α) (Q : Nat → Prop) (w : World) (p : Nat → Option Addr) (pl pc : Nat → Nat) (f : Nat → List α) : Prop :=
  ∀ i, i < 3 → (pl i ≤ pc i ∧ pc i ≤ 9223372036854775807 ∧ (p i = none → pc i = 0)) ∧ Vs r Q w (p i) (pl i) (f i)
theorem three_B {α : Type} {r : Rep α} {Q : Nat → Prop} {w w' : World} {p : Nat → Option Addr} {pl pc : Nat → Nat} {f : Nat → List α} (hb : Below w.heap.size w w') (h : Three r Q w p pl pc f) : Three r Q w' p pl pc f := fun i hi => ⟨(h i hi).1, vs_B hb (h i hi).2⟩
theorem three_keep {α : Type} {r : Rep α} {Q : Nat → Prop} {w w' : World} {p : Nat → Option Addr} {pl pc : Nat → Nat} {f : Nat → List α} (hk : Kept Q w w') (h : Three r Q w p pl pc f) : Three r Q w' p pl pc f := fun i hi => ⟨(h i hi).1, vs_keep hk (h i hi).2⟩
theorem three_mono {α : Type} {r : Rep α} {Q Q' : Nat → Prop} {w : World} {p : Nat → Option Addr} {pl pc : Nat → Nat} {f : Nat → List α} (hQ : ∀ b, Q b → Q' b) (h : Three r Q w p pl pc f) : Three r Q' w p pl pc f := fun i hi => ⟨(h i hi).1, vs_mono hQ (h i hi).2⟩
theorem three_old {α : Type} {r : Rep α} {w : World} {p : Nat → Option Addr} {pl pc : Nat → Nat} {f : Nat → List α} (h : Three r Any w p pl pc f) : Three r (fun b => b < w.heap.size) w p pl pc f := fun i hi => ⟨(h i hi).1, vs_old (h i hi).2⟩
/-- a stage's parts lie where its cells say -/
def StF (w : World) (a a' q : Option Addr) (n n' l : Nat) (p : Nat → Option Addr) (pl pc : Nat → Nat) (r : Nat → Option Addr) (rl rc : Nat → Nat) (s : St) : Prop :=
  Sl w a n s.ws ∧ Sl w a' n' s.ts ∧ Bl w q l s.bs ∧ Three repInt3 Any w p pl pc s.l ∧ Three repInt Any w r rl rc s.n
theorem stF_B {w w' : World} {a a' q : Option Addr} {n n' l : Nat} {p : Nat → Option Addr} {pl pc : Nat → Nat} {r : Nat → Option Addr} {rl rc : Nat → Nat} {s : St} (hb : Below w.heap.size w w') (h : StF w a a' q n n' l p pl pc r rl rc s) : StF w' a a' q n n' l p pl pc r rl rc s :=
  ⟨slB hb h.1, slB hb h.2.1, blB hb h.2.2.1, three_B hb h.2.2.2.1, three_B hb h.2.2.2.2⟩
/-- .. all of it in blocks of Q -/
def StQ (Q : Nat → Prop) (w : World) (a a' q : Option Addr) (n n' l : Nat) (p : Nat → Option Addr) (pl pc : Nat → Nat) (r : Nat → Option Addr) (rl rc : Nat → Nat) (s : St) : Prop :=
  SlP Q w a n s.ws ∧ SlP Q w a' n' s.ts ∧ BlP Q w q l s.bs ∧ Three repInt3 Q w p pl pc s.l ∧ Three repInt Q w r rl rc s.n
section
variable {Q Q' : Nat → Prop} {w w' : World} {a a' q : Option Addr} {n n' l : Nat} {p : Nat → Option Addr} {pl pc : Nat → Nat} {r : Nat → Option Addr} {rl rc : Nat → Nat} {s : St}
theorem StQ.stF (h : StQ Q w a a' q n n' l p pl pc r rl rc s) : StF w a a' q n n' l p pl pc r rl rc s :=
  ⟨h.1.sl, h.2.1.sl, h.2.2.1.bl, three_mono (fun _ _ => trivial) h.2.2.2.1, three_mono (fun _ _ => trivial) h.2.2.2.2⟩
theorem stQ_keep (hk : Kept Q w w') (h : StQ Q w a a' q n n' l p pl pc r rl rc s) : StQ Q w' a a' q n n' l p pl pc r rl rc s :=
  ⟨slP_keep hk h.1, slP_keep hk h.2.1, blP_keep hk h.2.2.1, three_keep hk h.2.2.2.1, three_keep hk h.2.2.2.2⟩
theorem stQ_B (hb : Below w.heap.size w w') (h : StQ Q w a a' q n n' l p pl pc r rl rc s) : StQ Q w' a a' q n n' l p pl pc r rl rc s := stQ_keep (kept_B hb) h
theorem stQ_mono (hQ : ∀ b, Q b → Q' b) (h : StQ Q w a a' q n n' l p pl pc r rl rc s) : StQ Q' w a a' q n n' l p pl pc r rl rc s :=
  ⟨slP_mono hQ h.1, slP_mono hQ h.2.1, blP_mono hQ h.2.2.1, three_mono hQ h.2.2.2.1, three_mono hQ h.2.2.2.2⟩
theorem stQ_old (h : StF w a a' q n n' l p pl pc r rl rc s) : StQ (fun b => b < w.heap.size) w a a' q n n' l p pl pc r rl rc s :=
  ⟨slP_old (fun _ h => h) h.1, slP_old (fun _ h => h) h.2.1, blP_old (fun _ h => h) h.2.2.1, three_old h.2.2.2.1, three_old h.2.2.2.2⟩
theorem stQ_und (h : StQ Q w a a' q n n' l p pl pc r rl rc s) : StQ (fun b => Q b ∧ b < w.heap.size) w a a' q n n' l p pl pc r rl rc s :=
  ⟨slP_und h.1, slP_und h.2.1, blP_und h.2.2.1, fun i hi => ⟨(h.2.2.2.1 i hi).1, vs_und (h.2.2.2.1 i hi).2⟩, fun i hi => ⟨(h.2.2.2.2 i hi).1, vs_und (h.2.2.2.2 i hi).2⟩⟩
end
/-- a stage and whether it can be; its rows lie in blocks of Q, or in new ones -/
def StPost (QQ : Nat → Prop) (s : St) (ok : Bool) (w : World) (e : Ending) (w' : World) : Prop :=
  ∃ a a' q n c n' c' l d p pl pc r rl rc, e = .returned (.tuple #[.agg #[.slice a n c, .slice a' n' c', .int .i64 s.D, .slice q l d, .slice (p 0) (pl 0) (pc 0), .slice (p 1) (pl 1) (pc 1), .slice (p 2) (pl 2) (pc 2), .slice (r 0) (rl 0) (rc 0), .slice (r 1) (rl 1) (rc 1), .slice (r 2) (rl 2) (rc 2)], .bool ok]) ∧ StQ (fun b => QQ b ∨ w.heap.size ≤ b) w' a a' q n n' l p pl pc r rl rc s ∧ Below w.heap.size w w'
theorem load_stage (w : World) (g : Nat) (x0 x1 x2 x3 x4 x5 x6 x7 x8 x9 : Value) (h : VarN w g [x0, x1, x2, x3, x4, x5, x6, x7, x8, x9]) : (loadVar 50 ⟨g, 0, none⟩).run Tryz.prog w = .ok (.agg #[x0, x1, x2, x3, x4, x5, x6, x7, x8, x9]) w := by
  have k0 := (h 0 _ rfl).1
  have k1 := (h 1 _ rfl).1
  have k2 := (h 2 _ rfl).1
  have k3 := (h 3 _ rfl).1
  have k4 := (h 4 _ rfl).1
  have k5 := (h 5 _ rfl).1
  have k6 := (h 6 _ rfl).1
  have k7 := (h 7 _ rfl).1
  have k8 := (h 8 _ rfl).1
  have k9 := (h 9 _ rfl).1
  simp [go_sem, k0, k1, k2, k3, k4, k5, k6, k7, k8, k9]

set_option maxRecDepth 100000 in
set_option maxHeartbeats 4000000 in
theorem waits_any (a a' q : Option Addr) (n c n' c' l d : Nat) (p : Nat → Option Addr) (pl pc : Nat → Nat) (r : Nat → Option Addr) (rl rc : Nat → Nat) (s : St) (j : Nat) (w : World) (F : StF w a a' q n n' l p pl pc r rl rc s) (hj : j < l) :
    Calls Tryz.prog 30 #[.agg #[.slice a n c, .slice a' n' c', .int .i64 s.D, .slice q l d, .slice (p 0) (pl 0) (pc 0), .slice (p 1) (pl 1) (pc 1), .slice (p 2) (pl 2) (pc 2), .slice (r 0) (rl 0) (rc 0), .slice (r 1) (rl 1) (rc 1), .slice (r 2) (rl 2) (rc 2)], .int .i64 j] w (BoolPost (decide (0 < (s.bs.getD j []).length)) w) := by
  obtain ⟨b, o, x, xc, rfl, k0, -, -⟩ := bl_at F.2.2.1 hj
  obtain ⟨m, hm⟩ : ∃ m, (s.bs.getD j []).length = m := ⟨_, rfl⟩
  rw [hm] at k0 ⊢
  have k1 := cellA (Obj.cells #[.slice a n c, .slice a' n' c', .int .i64 s.D, .slice (some ⟨b, o, none⟩) l d, .slice (p 0) (pl 0) (pc 0), .slice (p 1) (pl 1) (pc 1), .slice (p 2) (pl 2) (pc 2), .slice (r 0) (rl 0) (rc 0), .slice (r 1) (rl 1) (rc 1), .slice (r 2) (rl 2) (rc 2)] 50) k0
  have i1 : (0 : Int) ≤ j := by omega
  have i2 : (j : Int) < l := by omega
  clear hm F
  go_enter Tryz.func30, Tryz.ntmps30
  go_wp2
  go_ret
  exact boolPost_mk (by simp) (by go_grown)

set_option maxRecDepth 100000 in
set_option maxHeartbeats 4000000 in
theorem flushed_any (a a' q : Option Addr) (n c n' c' l d : Nat) (p : Nat → Option Addr) (pl pc : Nat → Nat) (r : Nat → Option Addr) (rl rc : Nat → Nat) (s : St) (j : Int) (w : World) (QQ : Nat → Prop) (F : StQ QQ w a a' q n n' l p pl pc r rl rc s) :
    Calls Tryz.prog 17 #[.agg #[.slice a n c, .slice a' n' c', .int .i64 s.D, .slice q l d, .slice (p 0) (pl 0) (pc 0), .slice (p 1) (pl 1) (pc 1), .slice (p 2) (pl 2) (pc 2), .slice (r 0) (rl 0) (rc 0), .slice (r 1) (rl 1) (rc 1), .slice (r 2) (rl 2) (rc 2)], .int .i64 j] w (StPost QQ (withM s (okL (flushTE s.ws s.ts s.D s.bs j) (flushTW s.ws s.bs j)) (okL (flushTE s.ws s.ts s.D s.bs j) s.ts) (okZ (flushTE s.ws s.ts s.D s.bs j) s.D) (okL (flushTE s.ws s.ts s.D s.bs j) (flushTB s.bs j))) (flushTE s.ws s.ts s.D s.bs j == 0) w) := by
  obtain ⟨ws, ts, D, bs, f, h⟩ := s
  dsimp only at F ⊢
  obtain ⟨W, hW⟩ : ∃ W, W = (w.alloc (Obj.cells #[.slice a n c, .slice a' n' c', .int .i64 D, .slice q l d, .slice (p 0) (pl 0) (pc 0), .slice (p 1) (pl 1) (pc 1), .slice (p 2) (pl 2) (pc 2), .slice (r 0) (rl 0) (rc 0), .slice (r 1) (rl 1) (rc 1), .slice (r 2) (rl 2) (rc 2)] 50)).alloc (Obj.cells #[.slice none 0 0, .slice none 0 0, .int .i64 0, .slice none 0 0, .slice none 0 0, .slice none 0 0, .slice none 0 0, .slice none 0 0, .slice none 0 0, .slice none 0 0] 50) := ⟨_, rfl⟩
  have hbW : Below w.heap.size w W := by rw [hW]; go_grown
  have X : VarN W w.heap.size [.slice a n c, .slice a' n' c', .int .i64 D, .slice q l d, .slice (p 0) (pl 0) (pc 0), .slice (p 1) (pl 1) (pc 1), .slice (p 2) (pl 2) (pc 2), .slice (r 0) (rl 0) (rc 0), .slice (r 1) (rl 1) (rc 1), .slice (r 2) (rl 2) (rc 2)] := by rw [hW]; exact varN_A _ (varN_new [.slice a n c, .slice a' n' c', .int .i64 D, .slice q l d, .slice (p 0) (pl 0) (pc 0), .slice (p 1) (pl 1) (pc 1), .slice (p 2) (pl 2) (pc 2), .slice (r 0) (rl 0) (rc 0), .slice (r 1) (rl 1) (rc 1), .slice (r 2) (rl 2) (rc 2)] _ rfl)
  have R : VarN W (w.heap.size + 1) [.slice none 0 0, .slice none 0 0, .int .i64 0, .slice none 0 0, .slice none 0 0, .slice none 0 0, .slice none 0 0, .slice none 0 0, .slice none 0 0, .slice none 0 0] := by rw [hW]; exact varN_new [.slice none 0 0, .slice none 0 0, .int .i64 0, .slice none 0 0, .slice none 0 0, .slice none 0 0, .slice none 0 0, .slice none 0 0, .slice none 0 0, .slice none 0 0] _ (by simp)
  have hz := varN_lt R (by decide)
  obtain ⟨T1, T2, T, -, -⟩ := F.stF
  obtain ⟨F4, F5⟩ := F.2.2.2
  have HF := Lib.hid (And.intro F4 F5)
  replace T1 := slB hbW T1
  replace T2 := slB hbW T2
  replace T := blB hbW T
  obtain ⟨E, hE⟩ : ∃ E, flushTE ws ts D bs j = E := ⟨_, rfl⟩
  have HE := Lib.hid hE
  have HB := Lib.hid hbW
  have HR := Lib.hid R
  have HX := Lib.hid X
  have HW := Lib.hid hW
  rw [hE]
  have k0 := (X 0 _ rfl).1
  have k1 := (X 1 _ rfl).1
  have k2 := (X 2 _ rfl).1
  have k3 := (X 3 _ rfl).1
  clear hW hbW R F F4 F5 hE X
  go_enter Tryz.func17, Tryz.ntmps17
  go_upto_region 1 with fail
  rw [← HW.out]
  go_wp2_with fail
  have h0 := tsoFlush_any a a' q n c n' c' l d ws ts D bs j W T1 T2 T
  with_reducible refine h0.mono ?_
  clear h0
  rw [HE.out]
  rintro e w1 ⟨a2, n2, c2, a3, n3, c3, q2, l2, d2, rfl, u1, u2, u3, hb1⟩
  obtain ⟨D2, hD2⟩ : ∃ D2, okZ E D = D2 := ⟨_, rfl⟩
  rw [hD2]
  have HD2 := Lib.hid hD2
  obtain ⟨Z0, hZ0⟩ : ∃ Z, Z = w1.alloc (Obj.cells #[.slice a2 n2 c2, .slice a3 n3 c3, .int .i64 D2, .slice q2 l2 d2] 46) := ⟨_, rfl⟩
  have b0 : Below W.heap.size W Z0 := by rw [hZ0]; exact hb1.alloc hb1.size _
  have M : VarN Z0 w1.heap.size [.slice a2 n2 c2, .slice a3 n3 c3, .int .i64 D2, .slice q2 l2 d2] := by rw [hZ0]; exact varN_new [.slice a2 n2 c2, .slice a3 n3 c3, .int .i64 D2, .slice q2 l2 d2] _ rfl
  have X0 := varN_B b0 HX.out
  have R0 := varN_B b0 HR.out
  obtain ⟨Z1, hZ1⟩ : ∃ Z, Z = setN Z0 w.heap.size 0 [.slice a2 n2 c2, .slice a3 n3 c3, .int .i64 D2, .slice q2 l2 d2] := ⟨_, rfl⟩
  have X1 : VarN Z1 w.heap.size [.slice a2 n2 c2, .slice a3 n3 c3, .int .i64 D2, .slice q2 l2 d2, .slice (p 0) (pl 0) (pc 0), .slice (p 1) (pl 1) (pc 1), .slice (p 2) (pl 2) (pc 2), .slice (r 0) (rl 0) (rc 0), .slice (r 1) (rl 1) (rc 1), .slice (r 2) (rl 2) (rc 2)] := by rw [hZ1]; exact varN_setN (xs := [.slice a2 n2 c2, .slice a3 n3 c3, .int .i64 D2, .slice q2 l2 d2]) 0 X0 (by simp)
  have R1 : VarN Z1 (w.heap.size + 1) [.slice none 0 0, .slice none 0 0, .int .i64 0, .slice none 0 0, .slice none 0 0, .slice none 0 0, .slice none 0 0, .slice none 0 0, .slice none 0 0, .slice none 0 0] := by rw [hZ1]; exact varN_others (by omega) R0
  have B1 : Below w.heap.size w Z1 := by rw [hZ1]; exact below_setN (Nat.le_refl _) (below_from HB.out b0)
  obtain ⟨Z2, hZ2⟩ : ∃ Z, Z = setN Z1 (w.heap.size + 1) 0 [.slice a2 n2 c2, .slice a3 n3 c3, .int .i64 D2, .slice q2 l2 d2, .slice (p 0) (pl 0) (pc 0), .slice (p 1) (pl 1) (pc 1), .slice (p 2) (pl 2) (pc 2), .slice (r 0) (rl 0) (rc 0), .slice (r 1) (rl 1) (rc 1), .slice (r 2) (rl 2) (rc 2)] := ⟨_, rfl⟩
  have R2 : VarN Z2 (w.heap.size + 1) [.slice a2 n2 c2, .slice a3 n3 c3, .int .i64 D2, .slice q2 l2 d2, .slice (p 0) (pl 0) (pc 0), .slice (p 1) (pl 1) (pc 1), .slice (p 2) (pl 2) (pc 2), .slice (r 0) (rl 0) (rc 0), .slice (r 1) (rl 1) (rc 1), .slice (r 2) (rl 2) (rc 2)] := by rw [hZ2]; exact varN_all R1 rfl
  have B2 : Below w.heap.size w Z2 := by rw [hZ2]; exact below_setN (by omega) B1
  have hK : Kept (fun b => W.heap.size ≤ b) w1 Z2 := by
    rw [hZ2, hZ1, hZ0]
    exact kept_trans (kept_A _ _) (kept_trans (kept_setN (fun b hb => by omega)) (kept_setN (fun b hb => by omega)))
  have hzW := HB.out.size
  have HS : Hid (StQ (fun b => QQ b ∨ w.heap.size ≤ b) Z2 a2 a3 q2 n2 n3 l2 p pl pc r rl rc (withM ⟨ws, ts, D, bs, f, h⟩ (okL E (flushTW ws bs j)) (okL E ts) D2 (okL E (flushTB bs j)))) :=
    ⟨slP_mono (fun b hb => .inr (by omega)) (slP_keep hK (slP_slF (fun _ h => h) u1)), slP_mono (fun b hb => .inr (by omega)) (slP_keep hK (slP_slF (fun _ h => h) u2)), blP_mono (fun b hb => .inr (by omega)) (blP_keep hK u3), three_mono (fun b hb => .inl hb) (three_B B2 HF.out.1), three_mono (fun b hb => .inl hb) (three_B B2 HF.out.2)⟩
  have HZ0 := Lib.hid hZ0
  have HZ1 := Lib.hid hZ1
  have HZ2 := Lib.hid hZ2
  have HX1 := Lib.hid X1
  have HR1 := Lib.hid R1
  have HR2 := Lib.hid R2
  have HB2 := Lib.hid B2
  have m0 := (M 0 _ rfl).1
  have m1 := (M 1 _ rfl).1
  have m2 := (M 2 _ rfl).1
  have m3 := (M 3 _ rfl).1
  obtain ⟨y0, g0⟩ := X0 0 _ rfl
  obtain ⟨y1, g1⟩ := X0 1 _ rfl
  obtain ⟨y2, g2⟩ := X0 2 _ rfl
  obtain ⟨y3, g3⟩ := X0 3 _ rfl
  clear hZ0 hZ1 hZ2 b0 M X0 R0 X1 R1 B1 R2 B2 hK u1 u2 u3 hb1 T1 T2 T k0 k1 k2 k3 hD2
  go_upto_region 2 with fail
  rw [← HZ0.out]
  go_upto_region 3 with fail
  have HZ1' : Hid (Z1 = (((Z0.setCell ⟨w.heap.size, 0, none⟩ (.slice a2 n2 c2)).setCell ⟨w.heap.size, 1, none⟩ (.slice a3 n3 c3)).setCell ⟨w.heap.size, 2, none⟩ (.int .i64 D2)).setCell ⟨w.heap.size, 3, none⟩ (.slice q2 l2 d2)) := HZ1.out
  rw [← HZ1'.out]
  clear y0 y1 y2 y3 g0 g1 g2 g3 m0 m1 m2 m3
  have y0 := (HX1.out 0 _ rfl).1
  have y1 := (HX1.out 1 _ rfl).1
  have y2 := (HX1.out 2 _ rfl).1
  have y3 := (HX1.out 3 _ rfl).1
  have y4 := (HX1.out 4 _ rfl).1
  have y5 := (HX1.out 5 _ rfl).1
  have y6 := (HX1.out 6 _ rfl).1
  have y7 := (HX1.out 7 _ rfl).1
  have y8 := (HX1.out 8 _ rfl).1
  have y9 := (HX1.out 9 _ rfl).1
  obtain ⟨z0, f0⟩ := HR1.out 0 _ rfl
  obtain ⟨z1, f1⟩ := HR1.out 1 _ rfl
  obtain ⟨z2, f2⟩ := HR1.out 2 _ rfl
  obtain ⟨z3, f3⟩ := HR1.out 3 _ rfl
  obtain ⟨z4, f4⟩ := HR1.out 4 _ rfl
  obtain ⟨z5, f5⟩ := HR1.out 5 _ rfl
  obtain ⟨z6, f6⟩ := HR1.out 6 _ rfl
  obtain ⟨z7, f7⟩ := HR1.out 7 _ rfl
  obtain ⟨z8, f8⟩ := HR1.out 8 _ rfl
  obtain ⟨z9, f9⟩ := HR1.out 9 _ rfl
  go_wp2
  have hR2 := HR2.out
  have hS := HS.out
  have hB2 := HB2.out
  rw [HZ2.out] at hR2 hS hB2
  refine bp_cell_tmp ⟨w.heap.size + 1, 0, none⟩ rfl rfl rfl (load_stage _ _ _ _ _ _ _ _ _ _ _ _ hR2) ?_
  rw [HD2.out]
  exact ⟨_, _, _, _, _, _, _, _, _, _, _, _, _, _, _, rfl, hS, hB2⟩
end Go.Proofs.YtiebaeaomgpicaaGreat
/- Package slices at []int: Clip. -/
namespace Go.Proofs.YtiebaeaomgpicaaGreat
open Go.ChangeShapes Go.WideShapes Go.ChangeAt Go.RowKit
open Gen

set_option maxHeartbeats 2000000 in
theorem clip_any (a : Option Addr) (n c : Nat) (w : World) (h1 : n ≤ c) (h2 : c ≤ 9223372036854775807) (h3 : a = none → c = 0) :
    Calls Tryz.prog 64 #[.slice a n c] w fun e w' => e = .returned (.slice a n n) ∧ Below w.heap.size w w' := by
  have i1 : (n : Int) ≤ c := by omega
  have i2 : (0 : Int) ≤ n := by omega
  cases a with
  | none =>
    obtain rfl : c = 0 := h3 rfl
    obtain rfl : n = 0 := by omega
    clear h3
    go_enter Tryz.func64, Tryz.ntmps64
    go_wp2
    go_ret
    exact ⟨rfl, by go_grown⟩
  | some p =>
    clear h3
    go_enter Tryz.func64, Tryz.ntmps64
    go_wp2
    go_ret
    exact ⟨rfl, by go_grown⟩
end Go.Proofs.YtiebaeaomgpicaaGreat
/- Package litmus: noting. -/
namespace Go.Proofs.YtiebaeaomgpicaaGreat
open Go.ChangeShapes Go.WideShapes Go.ChangeAt Go.RowKit
open Gen

/-- a stage -/
def SgPost (Q : Nat → Prop) (s : St) (w : World) (e : Ending) (w' : World) : Prop :=
  ∃ a a' q n c n' c' l d p pl pc r rl rc, e = .returned (.agg #[.slice a n c, .slice a' n' c', .int .i64 s.D, .slice q l d, .slice (p 0) (pl 0) (pc 0), .slice (p 1) (pl 1) (pc 1), .slice (p 2) (pl 2) (pc 2), .slice (r 0) (rl 0) (rc 0), .slice (r 1) (rl 1) (rc 1), .slice (r 2) (rl 2) (rc 2)]) ∧ StQ (fun b => Q b ∨ w.heap.size ≤ b) w' a a' q n n' l p pl pc r rl rc s ∧ Below w.heap.size w w'
theorem three_upd {α : Type} {r : Rep α} {Q : Nat → Prop} {w : World} {p : Nat → Option Addr} {pl pc : Nat → Nat} {f : Nat → List α} (h : Three r Q w p pl pc f) (j : Nat) {a : Option Addr} {n c : Nat} {ys : List α} (hc : n ≤ c ∧ c ≤ 9223372036854775807 ∧ (a = none → c = 0)) (hv : Vs r Q w a n ys) :
    Three r Q w (upd p j a) (upd pl j n) (upd pc j c) (upd f j ys) := by
  intro i hi
  by_cases e : i = j
  · subst e; rw [upd_same, upd_same, upd_same, upd_same]; exact ⟨hc, hv⟩
  · rw [upd_other _ e, upd_other _ e, upd_other _ e, upd_other _ e]; exact h i hi

set_option maxRecDepth 100000 in
set_option maxHeartbeats 4000000 in
theorem noting_0 (a a' q : Option Addr) (n c n' c' l d : Nat) (p : Nat → Option Addr) (pl pc : Nat → Nat) (r : Nat → Option Addr) (rl rc : Nat → Nat) (s : St) (v : Int) (w : World) (Q : Nat → Prop) (F : StQ Q w a a' q n n' l p pl pc r rl rc s) (hk : rl 0 ≤ 1000) :
    Calls Tryz.prog 35 #[.agg #[.slice a n c, .slice a' n' c', .int .i64 s.D, .slice q l d, .slice (p 0) (pl 0) (pc 0), .slice (p 1) (pl 1) (pc 1), .slice (p 2) (pl 2) (pc 2), .slice (r 0) (rl 0) (rc 0), .slice (r 1) (rl 1) (rc 1), .slice (r 2) (rl 2) (rc 2)], .int .i64 (0 : Nat), .int .i64 v] w (SgPost Q (noteS s 0 v) w) := by
  obtain ⟨ws, ts, D, bs, f, h⟩ := s
  obtain ⟨i0, hi, hz0, hz1, hz2⟩ := info_parts Tryz.info3
  have HI := Lib.hid (And.intro hi (And.intro hz0 (And.intro hz1 hz2)))
  obtain ⟨W, hW⟩ : ∃ W, W = (w.alloc (Obj.cells #[.slice a n c, .slice a' n' c', .int .i64 D, .slice q l d, .slice (p 0) (pl 0) (pc 0), .slice (p 1) (pl 1) (pc 1), .slice (p 2) (pl 2) (pc 2), .slice (r 0) (rl 0) (rc 0), .slice (r 1) (rl 1) (rc 1), .slice (r 2) (rl 2) (rc 2)] 50)).alloc (Obj.cells #[.slice none 0 0, .slice none 0 0, .int .i64 0, .slice none 0 0, .slice none 0 0, .slice none 0 0, .slice none 0 0, .slice none 0 0, .slice none 0 0, .slice none 0 0] 50) := ⟨_, rfl⟩
  have hbW : Below w.heap.size w W := by rw [hW]; go_grown
  have X : VarN W w.heap.size [.slice a n c, .slice a' n' c', .int .i64 D, .slice q l d, .slice (p 0) (pl 0) (pc 0), .slice (p 1) (pl 1) (pc 1), .slice (p 2) (pl 2) (pc 2), .slice (r 0) (rl 0) (rc 0), .slice (r 1) (rl 1) (rc 1), .slice (r 2) (rl 2) (rc 2)] := by rw [hW]; exact varN_A _ (varN_new [.slice a n c, .slice a' n' c', .int .i64 D, .slice q l d, .slice (p 0) (pl 0) (pc 0), .slice (p 1) (pl 1) (pc 1), .slice (p 2) (pl 2) (pc 2), .slice (r 0) (rl 0) (rc 0), .slice (r 1) (rl 1) (rc 1), .slice (r 2) (rl 2) (rc 2)] _ rfl)
  have R : VarN W (w.heap.size + 1) [.slice none 0 0, .slice none 0 0, .int .i64 0, .slice none 0 0, .slice none 0 0, .slice none 0 0, .slice none 0 0, .slice none 0 0, .slice none 0 0, .slice none 0 0] := by rw [hW]; exact varN_new [.slice none 0 0, .slice none 0 0, .int .i64 0, .slice none 0 0, .slice none 0 0, .slice none 0 0, .slice none 0 0, .slice none 0 0, .slice none 0 0, .slice none 0 0] _ (by simp)
  have hz := varN_lt R (by decide)
  have HF := Lib.hid F
  obtain ⟨⟨g1, g2, g3⟩, V⟩ := F.2.2.2.2 0 (by decide)
  have HN := Lib.hid (show (h 0).length = rl 0 from V.1)
  have HV := Lib.hid (vs_any (vs_B hbW V))
  obtain ⟨k, hkk⟩ : ∃ k, rl 0 = k := ⟨_, rfl⟩
  have HK := Lib.hid hkk
  have HG := Lib.hid (And.intro g2 g3)
  have hk1 : k ≤ 1000 := by omega
  have HB := Lib.hid hbW
  have HR := Lib.hid R
  have HX := Lib.hid X
  have HW := Lib.hid hW
  obtain ⟨y, fy⟩ := X 7 _ rfl
  clear hW hbW R X hi hz0 hz1 hz2 V g2 g3 hkk F hk
  go_enter Tryz.func35, Tryz.ntmps35
  go_upto_region 1 with fail
  rw [← HW.out]
  go_wp2_with fail
  have h0 := clip_any (r 0) (rl 0) (rc 0) W g1 HG.out.1 HG.out.2
  with_reducible refine h0.mono ?_
  clear h0
  rintro e w1 ⟨rfl, hb1⟩
  have hz1 := hb1.size
  have HB1 := Lib.hid hb1
  clear hb1 y fy
  go_wp2_with (at_builtin; refine wpList_append_grows _ rfl _ _ 23 rfl 3 i0 (.int .i64 0) 1 8 Tryz.underlying23 HI.out.1 HI.out.2.1 HI.out.2.2.1 HI.out.2.2.2 rfl (by decide) (r 0) (rl 0) (rl 0) ((h 0).map (.int .i64)) rfl ?c1 ?c2 ?c3 ⟨w1.heap.size, 0, none⟩ 1 1 [.int .i64 v] rfl rfl ?c4 ?c5 ?c6 ?c7 ?c8 ?_)
  case c1 => intro e0; have h1 := HG.out.2 e0; omega
  case c2 => rw [List.length_map, HN.out, Nat.mul_one]
  case c3 => exact vs_cells1 (vs_A _ (vs_B HB1.out HV.out))
  case c4 => exact cell_one_new _ _ _
  case c5 => simp [Value.oneCell']
  case c6 => omega
  case c7 => unfold maxLen; rw [HK.out]; omega
  case c8 => rw [HK.out]; omega
  intro v' w2 hown hgrow
  have b2 : Below W.heap.size W w2 := (HB1.out.alloc HB1.out.size _).grown hgrow (by simp; omega) (fun _ hr => by cases hr)
  have hmap : (h 0).map (Value.int .i64) ++ [.int .i64 v] = (h 0 ++ [v]).map (Value.int .i64) := by simp
  rw [hmap] at hown
  obtain ⟨q2, c2, rfl, v1, v2, v3, V2⟩ := vs_own (r := repInt) (Q := fun b => W.heap.size ≤ b) hown (flat_map1 _ _) (fun b h1 _ => by omega)
  have HQ := Lib.hid (And.intro v1 (And.intro v2 v3))
  have X2 := varN_B b2 HX.out
  have R2 := varN_B b2 HR.out
  obtain ⟨Z1, hZ1⟩ : ∃ Z, Z = w2.setCell ⟨w.heap.size, 7, none⟩ (.slice q2 (rl 0 + 1) c2) := ⟨_, rfl⟩
  have X3 : VarN Z1 w.heap.size [.slice a n c, .slice a' n' c', .int .i64 D, .slice q l d, .slice (p 0) (pl 0) (pc 0), .slice (p 1) (pl 1) (pc 1), .slice (p 2) (pl 2) (pc 2), .slice q2 (rl 0 + 1) c2, .slice (r 1) (rl 1) (rc 1), .slice (r 2) (rl 2) (rc 2)] := by rw [hZ1]; exact varN_set X2 7 (by simp) _
  have R3 : VarN Z1 (w.heap.size + 1) [.slice none 0 0, .slice none 0 0, .int .i64 0, .slice none 0 0, .slice none 0 0, .slice none 0 0, .slice none 0 0, .slice none 0 0, .slice none 0 0, .slice none 0 0] := by rw [hZ1]; exact varN_other R2 (by omega) _
  have B3 : Below w.heap.size w Z1 := by rw [hZ1]; exact (below_from HB.out b2).setCell (p := ⟨w.heap.size, 7, none⟩) (Nat.le_refl _) _
  obtain ⟨Z2, hZ2⟩ : ∃ Z, Z = setN Z1 (w.heap.size + 1) 0 [.slice a n c, .slice a' n' c', .int .i64 D, .slice q l d, .slice (p 0) (pl 0) (pc 0), .slice (p 1) (pl 1) (pc 1), .slice (p 2) (pl 2) (pc 2), .slice q2 (rl 0 + 1) c2, .slice (r 1) (rl 1) (rc 1), .slice (r 2) (rl 2) (rc 2)] := ⟨_, rfl⟩
  have R4 : VarN Z2 (w.heap.size + 1) [.slice a n c, .slice a' n' c', .int .i64 D, .slice q l d, .slice (p 0) (pl 0) (pc 0), .slice (p 1) (pl 1) (pc 1), .slice (p 2) (pl 2) (pc 2), .slice q2 (rl 0 + 1) c2, .slice (r 1) (rl 1) (rc 1), .slice (r 2) (rl 2) (rc 2)] := by rw [hZ2]; exact varN_all R3 rfl
  have B4 : Below w.heap.size w Z2 := by rw [hZ2]; exact below_setN (by omega) B3
  have hK : Kept (fun b => W.heap.size ≤ b) w2 Z2 := by
    rw [hZ2, hZ1]
    exact kept_trans (kept_set _ _ _ (fun b hb => by show b ≠ w.heap.size; omega)) (kept_setN (fun b hb => by omega))
  have hF := stQ_mono (Q' := fun b => Q b ∨ w.heap.size ≤ b) (fun _ h => .inl h) (stQ_B B4 HF.out)
  have HS : Hid (StQ (fun b => Q b ∨ w.heap.size ≤ b) Z2 a a' q n n' l p pl pc (upd r 0 q2) (upd rl 0 (rl 0 + 1)) (upd rc 0 c2) (noteS ⟨ws, ts, D, bs, f, h⟩ 0 v)) :=
    ⟨hF.1, hF.2.1, hF.2.2.1, hF.2.2.2.1, three_upd hF.2.2.2.2 0 HQ.out (vs_mono (fun b h => .inr (by omega)) (vs_keep hK V2))⟩
  have HZ1 := Lib.hid hZ1
  have HZ2 := Lib.hid hZ2
  have HX3 := Lib.hid X3
  have HR3 := Lib.hid R3
  have HR4 := Lib.hid R4
  have HB4 := Lib.hid B4
  obtain ⟨y, fy⟩ := X2 7 _ rfl
  clear hZ1 hZ2 X2 R2 X3 R3 B3 R4 B4 hK V2 hown hgrow b2 hmap v1 v2 v3 hF
  go_upto_region 2 with fail
  rw [← HZ1.out]
  clear y fy
  have y0 := (HX3.out 0 _ rfl).1
  have y1 := (HX3.out 1 _ rfl).1
  have y2 := (HX3.out 2 _ rfl).1
  have y3 := (HX3.out 3 _ rfl).1
  have y4 := (HX3.out 4 _ rfl).1
  have y5 := (HX3.out 5 _ rfl).1
  have y6 := (HX3.out 6 _ rfl).1
  have y7 := (HX3.out 7 _ rfl).1
  have y8 := (HX3.out 8 _ rfl).1
  have y9 := (HX3.out 9 _ rfl).1
  obtain ⟨z0, f0⟩ := HR3.out 0 _ rfl
  obtain ⟨z1, f1⟩ := HR3.out 1 _ rfl
  obtain ⟨z2, f2⟩ := HR3.out 2 _ rfl
  obtain ⟨z3, f3⟩ := HR3.out 3 _ rfl
  obtain ⟨z4, f4⟩ := HR3.out 4 _ rfl
  obtain ⟨z5, f5⟩ := HR3.out 5 _ rfl
  obtain ⟨z6, f6⟩ := HR3.out 6 _ rfl
  obtain ⟨z7, f7⟩ := HR3.out 7 _ rfl
  obtain ⟨z8, f8⟩ := HR3.out 8 _ rfl
  obtain ⟨z9, f9⟩ := HR3.out 9 _ rfl
  go_wp2
  have hR4 := HR4.out
  have hS := HS.out
  have hB4 := HB4.out
  rw [HZ2.out] at hR4 hS hB4
  refine bp_cell ⟨w.heap.size + 1, 0, none⟩ rfl rfl rfl (load_stage _ _ _ _ _ _ _ _ _ _ _ _ hR4) ?_
  exact ⟨_, _, _, _, _, _, _, _, _, _, _, _, upd r 0 q2, upd rl 0 (rl 0 + 1), upd rc 0 c2, rfl, hS, hB4⟩

set_option maxRecDepth 100000 in
set_option maxHeartbeats 4000000 in
theorem noting_1 (a a' q : Option Addr) (n c n' c' l d : Nat) (p : Nat → Option Addr) (pl pc : Nat → Nat) (r : Nat → Option Addr) (rl rc : Nat → Nat) (s : St) (v : Int) (w : World) (Q : Nat → Prop) (F : StQ Q w a a' q n n' l p pl pc r rl rc s) (hk : rl 1 ≤ 1000) :
    Calls Tryz.prog 35 #[.agg #[.slice a n c, .slice a' n' c', .int .i64 s.D, .slice q l d, .slice (p 0) (pl 0) (pc 0), .slice (p 1) (pl 1) (pc 1), .slice (p 2) (pl 2) (pc 2), .slice (r 0) (rl 0) (rc 0), .slice (r 1) (rl 1) (rc 1), .slice (r 2) (rl 2) (rc 2)], .int .i64 (1 : Nat), .int .i64 v] w (SgPost Q (noteS s 1 v) w) := by
  obtain ⟨ws, ts, D, bs, f, h⟩ := s
  obtain ⟨i0, hi, hz0, hz1, hz2⟩ := info_parts Tryz.info3
  have HI := Lib.hid (And.intro hi (And.intro hz0 (And.intro hz1 hz2)))
  obtain ⟨W, hW⟩ : ∃ W, W = (w.alloc (Obj.cells #[.slice a n c, .slice a' n' c', .int .i64 D, .slice q l d, .slice (p 0) (pl 0) (pc 0), .slice (p 1) (pl 1) (pc 1), .slice (p 2) (pl 2) (pc 2), .slice (r 0) (rl 0) (rc 0), .slice (r 1) (rl 1) (rc 1), .slice (r 2) (rl 2) (rc 2)] 50)).alloc (Obj.cells #[.slice none 0 0, .slice none 0 0, .int .i64 0, .slice none 0 0, .slice none 0 0, .slice none 0 0, .slice none 0 0, .slice none 0 0, .slice none 0 0, .slice none 0 0] 50) := ⟨_, rfl⟩
  have hbW : Below w.heap.size w W := by rw [hW]; go_grown
  have X : VarN W w.heap.size [.slice a n c, .slice a' n' c', .int .i64 D, .slice q l d, .slice (p 0) (pl 0) (pc 0), .slice (p 1) (pl 1) (pc 1), .slice (p 2) (pl 2) (pc 2), .slice (r 0) (rl 0) (rc 0), .slice (r 1) (rl 1) (rc 1), .slice (r 2) (rl 2) (rc 2)] := by rw [hW]; exact varN_A _ (varN_new [.slice a n c, .slice a' n' c', .int .i64 D, .slice q l d, .slice (p 0) (pl 0) (pc 0), .slice (p 1) (pl 1) (pc 1), .slice (p 2) (pl 2) (pc 2), .slice (r 0) (rl 0) (rc 0), .slice (r 1) (rl 1) (rc 1), .slice (r 2) (rl 2) (rc 2)] _ rfl)
  have R : VarN W (w.heap.size + 1) [.slice none 0 0, .slice none 0 0, .int .i64 0, .slice none 0 0, .slice none 0 0, .slice none 0 0, .slice none 0 0, .slice none 0 0, .slice none 0 0, .slice none 0 0] := by rw [hW]; exact varN_new [.slice none 0 0, .slice none 0 0, .int .i64 0, .slice none 0 0, .slice none 0 0, .slice none 0 0, .slice none 0 0, .slice none 0 0, .slice none 0 0, .slice none 0 0] _ (by simp)
  have hz := varN_lt R (by decide)
  have HF := Lib.hid F
  obtain ⟨⟨g1, g2, g3⟩, V⟩ := F.2.2.2.2 1 (by decide)
  have HN := Lib.hid (show (h 1).length = rl 1 from V.1)
  have HV := Lib.hid (vs_any (vs_B hbW V))
  obtain ⟨k, hkk⟩ : ∃ k, rl 1 = k := ⟨_, rfl⟩
  have HK := Lib.hid hkk
  have HG := Lib.hid (And.intro g2 g3)
  have hk1 : k ≤ 1000 := by omega
  have HB := Lib.hid hbW
  have HR := Lib.hid R
  have HX := Lib.hid X
  have HW := Lib.hid hW
  obtain ⟨y, fy⟩ := X 8 _ rfl
  clear hW hbW R X hi hz0 hz1 hz2 V g2 g3 hkk F hk
  go_enter Tryz.func35, Tryz.ntmps35
  go_upto_region 1 with fail
  rw [← HW.out]
  go_wp2_with fail
  have h0 := clip_any (r 1) (rl 1) (rc 1) W g1 HG.out.1 HG.out.2
  with_reducible refine h0.mono ?_
  clear h0
  rintro e w1 ⟨rfl, hb1⟩
  have hz1 := hb1.size
  have HB1 := Lib.hid hb1
  clear hb1 y fy
  go_wp2_with (at_builtin; refine wpList_append_grows _ rfl _ _ 23 rfl 3 i0 (.int .i64 0) 1 8 Tryz.underlying23 HI.out.1 HI.out.2.1 HI.out.2.2.1 HI.out.2.2.2 rfl (by decide) (r 1) (rl 1) (rl 1) ((h 1).map (.int .i64)) rfl ?c1 ?c2 ?c3 ⟨w1.heap.size, 0, none⟩ 1 1 [.int .i64 v] rfl rfl ?c4 ?c5 ?c6 ?c7 ?c8 ?_)
  case c1 => intro e0; have h1 := HG.out.2 e0; omega
  case c2 => rw [List.length_map, HN.out, Nat.mul_one]
  case c3 => exact vs_cells1 (vs_A _ (vs_B HB1.out HV.out))
  case c4 => exact cell_one_new _ _ _
  case c5 => simp [Value.oneCell']
  case c6 => omega
  case c7 => unfold maxLen; rw [HK.out]; omega
  case c8 => rw [HK.out]; omega
  intro v' w2 hown hgrow
  have b2 : Below W.heap.size W w2 := (HB1.out.alloc HB1.out.size _).grown hgrow (by simp; omega) (fun _ hr => by cases hr)
  have hmap : (h 1).map (Value.int .i64) ++ [.int .i64 v] = (h 1 ++ [v]).map (Value.int .i64) := by simp
  rw [hmap] at hown
  obtain ⟨q2, c2, rfl, v1, v2, v3, V2⟩ := vs_own (r := repInt) (Q := fun b => W.heap.size ≤ b) hown (flat_map1 _ _) (fun b h1 _ => by omega)
  have HQ := Lib.hid (And.intro v1 (And.intro v2 v3))
  have X2 := varN_B b2 HX.out
  have R2 := varN_B b2 HR.out
  obtain ⟨Z1, hZ1⟩ : ∃ Z, Z = w2.setCell ⟨w.heap.size, 8, none⟩ (.slice q2 (rl 1 + 1) c2) := ⟨_, rfl⟩
  have X3 : VarN Z1 w.heap.size [.slice a n c, .slice a' n' c', .int .i64 D, .slice q l d, .slice (p 0) (pl 0) (pc 0), .slice (p 1) (pl 1) (pc 1), .slice (p 2) (pl 2) (pc 2), .slice (r 0) (rl 0) (rc 0), .slice q2 (rl 1 + 1) c2, .slice (r 2) (rl 2) (rc 2)] := by rw [hZ1]; exact varN_set X2 8 (by simp) _
  have R3 : VarN Z1 (w.heap.size + 1) [.slice none 0 0, .slice none 0 0, .int .i64 0, .slice none 0 0, .slice none 0 0, .slice none 0 0, .slice none 0 0, .slice none 0 0, .slice none 0 0, .slice none 0 0] := by rw [hZ1]; exact varN_other R2 (by omega) _
  have B3 : Below w.heap.size w Z1 := by rw [hZ1]; exact (below_from HB.out b2).setCell (p := ⟨w.heap.size, 8, none⟩) (Nat.le_refl _) _
  obtain ⟨Z2, hZ2⟩ : ∃ Z, Z = setN Z1 (w.heap.size + 1) 0 [.slice a n c, .slice a' n' c', .int .i64 D, .slice q l d, .slice (p 0) (pl 0) (pc 0), .slice (p 1) (pl 1) (pc 1), .slice (p 2) (pl 2) (pc 2), .slice (r 0) (rl 0) (rc 0), .slice q2 (rl 1 + 1) c2, .slice (r 2) (rl 2) (rc 2)] := ⟨_, rfl⟩
  have R4 : VarN Z2 (w.heap.size + 1) [.slice a n c, .slice a' n' c', .int .i64 D, .slice q l d, .slice (p 0) (pl 0) (pc 0), .slice (p 1) (pl 1) (pc 1), .slice (p 2) (pl 2) (pc 2), .slice (r 0) (rl 0) (rc 0), .slice q2 (rl 1 + 1) c2, .slice (r 2) (rl 2) (rc 2)] := by rw [hZ2]; exact varN_all R3 rfl
  have B4 : Below w.heap.size w Z2 := by rw [hZ2]; exact below_setN (by omega) B3
  have hK : Kept (fun b => W.heap.size ≤ b) w2 Z2 := by
    rw [hZ2, hZ1]
    exact kept_trans (kept_set _ _ _ (fun b hb => by show b ≠ w.heap.size; omega)) (kept_setN (fun b hb => by omega))
  have hF := stQ_mono (Q' := fun b => Q b ∨ w.heap.size ≤ b) (fun _ h => .inl h) (stQ_B B4 HF.out)
  have HS : Hid (StQ (fun b => Q b ∨ w.heap.size ≤ b) Z2 a a' q n n' l p pl pc (upd r 1 q2) (upd rl 1 (rl 1 + 1)) (upd rc 1 c2) (noteS ⟨ws, ts, D, bs, f, h⟩ 1 v)) :=
    ⟨hF.1, hF.2.1, hF.2.2.1, hF.2.2.2.1, three_upd hF.2.2.2.2 1 HQ.out (vs_mono (fun b h => .inr (by omega)) (vs_keep hK V2))⟩
  have HZ1 := Lib.hid hZ1
  have HZ2 := Lib.hid hZ2
  have HX3 := Lib.hid X3
  have HR3 := Lib.hid R3
  have HR4 := Lib.hid R4
  have HB4 := Lib.hid B4
  obtain ⟨y, fy⟩ := X2 8 _ rfl
  clear hZ1 hZ2 X2 R2 X3 R3 B3 R4 B4 hK V2 hown hgrow b2 hmap v1 v2 v3 hF
  go_upto_region 2 with fail
  rw [← HZ1.out]
  clear y fy
  have y0 := (HX3.out 0 _ rfl).1
  have y1 := (HX3.out 1 _ rfl).1
  have y2 := (HX3.out 2 _ rfl).1
  have y3 := (HX3.out 3 _ rfl).1
  have y4 := (HX3.out 4 _ rfl).1
  have y5 := (HX3.out 5 _ rfl).1
  have y6 := (HX3.out 6 _ rfl).1
  have y7 := (HX3.out 7 _ rfl).1
  have y8 := (HX3.out 8 _ rfl).1
  have y9 := (HX3.out 9 _ rfl).1
  obtain ⟨z0, f0⟩ := HR3.out 0 _ rfl
  obtain ⟨z1, f1⟩ := HR3.out 1 _ rfl
  obtain ⟨z2, f2⟩ := HR3.out 2 _ rfl
  obtain ⟨z3, f3⟩ := HR3.out 3 _ rfl
  obtain ⟨z4, f4⟩ := HR3.out 4 _ rfl
  obtain ⟨z5, f5⟩ := HR3.out 5 _ rfl
  obtain ⟨z6, f6⟩ := HR3.out 6 _ rfl
  obtain ⟨z7, f7⟩ := HR3.out 7 _ rfl
  obtain ⟨z8, f8⟩ := HR3.out 8 _ rfl
  obtain ⟨z9, f9⟩ := HR3.out 9 _ rfl
  go_wp2
  have hR4 := HR4.out
  have hS := HS.out
  have hB4 := HB4.out
  rw [HZ2.out] at hR4 hS hB4
  refine bp_cell ⟨w.heap.size + 1, 0, none⟩ rfl rfl rfl (load_stage _ _ _ _ _ _ _ _ _ _ _ _ hR4) ?_
  exact ⟨_, _, _, _, _, _, _, _, _, _, _, _, upd r 1 q2, upd rl 1 (rl 1 + 1), upd rc 1 c2, rfl, hS, hB4⟩

set_option maxRecDepth 100000 in
set_option maxHeartbeats 4000000 in
theorem noting_2 (a a' q : Option Addr) (n c n' c' l d : Nat) (p : Nat → Option Addr) (pl pc : Nat → Nat) (r : Nat → Option Addr) (rl rc : Nat → Nat) (s : St) (v : Int) (w : World) (Q : Nat → Prop) (F : StQ Q w a a' q n n' l p pl pc r rl rc s) (hk : rl 2 ≤ 1000) :
    Calls Tryz.prog 35 #[.agg #[.slice a n c, .slice a' n' c', .int .i64 s.D, .slice q l d, .slice (p 0) (pl 0) (pc 0), .slice (p 1) (pl 1) (pc 1), .slice (p 2) (pl 2) (pc 2), .slice (r 0) (rl 0) (rc 0), .slice (r 1) (rl 1) (rc 1), .slice (r 2) (rl 2) (rc 2)], .int .i64 (2 : Nat), .int .i64 v] w (SgPost Q (noteS s 2 v) w) := by
  obtain ⟨ws, ts, D, bs, f, h⟩ := s
  obtain ⟨i0, hi, hz0, hz1, hz2⟩ := info_parts Tryz.info3
  have HI := Lib.hid (And.intro hi (And.intro hz0 (And.intro hz1 hz2)))
  obtain ⟨W, hW⟩ : ∃ W, W = (w.alloc (Obj.cells #[.slice a n c, .slice a' n' c', .int .i64 D, .slice q l d, .slice (p 0) (pl 0) (pc 0), .slice (p 1) (pl 1) (pc 1), .slice (p 2) (pl 2) (pc 2), .slice (r 0) (rl 0) (rc 0), .slice (r 1) (rl 1) (rc 1), .slice (r 2) (rl 2) (rc 2)] 50)).alloc (Obj.cells #[.slice none 0 0, .slice none 0 0, .int .i64 0, .slice none 0 0, .slice none 0 0, .slice none 0 0, .slice none 0 0, .slice none 0 0, .slice none 0 0, .slice none 0 0] 50) := ⟨_, rfl⟩
  have hbW : Below w.heap.size w W := by rw [hW]; go_grown
  have X : VarN W w.heap.size [.slice a n c, .slice a' n' c', .int .i64 D, .slice q l d, .slice (p 0) (pl 0) (pc 0), .slice (p 1) (pl 1) (pc 1), .slice (p 2) (pl 2) (pc 2), .slice (r 0) (rl 0) (rc 0), .slice (r 1) (rl 1) (rc 1), .slice (r 2) (rl 2) (rc 2)] := by rw [hW]; exact varN_A _ (varN_new [.slice a n c, .slice a' n' c', .int .i64 D, .slice q l d, .slice (p 0) (pl 0) (pc 0), .slice (p 1) (pl 1) (pc 1), .slice (p 2) (pl 2) (pc 2), .slice (r 0) (rl 0) (rc 0), .slice (r 1) (rl 1) (rc 1), .slice (r 2) (rl 2) (rc 2)] _ rfl)
  have R : VarN W (w.heap.size + 1) [.slice none 0 0, .slice none 0 0, .int .i64 0, .slice none 0 0, .slice none 0 0, .slice none 0 0, .slice none 0 0, .slice none 0 0, .slice none 0 0, .slice none 0 0] := by rw [hW]; exact varN_new [.slice none 0 0, .slice none 0 0, .int .i64 0, .slice none 0 0, .slice none 0 0, .slice none 0 0, .slice none 0 0, .slice none 0 0, .slice none 0 0, .slice none 0 0] _ (by simp)
  have hz := varN_lt R (by decide)
  have HF := Lib.hid F
  obtain ⟨⟨g1, g2, g3⟩, V⟩ := F.2.2.2.2 2 (by decide)
  have HN := Lib.hid (show (h 2).length = rl 2 from V.1)
  have HV := Lib.hid (vs_any (vs_B hbW V))
  obtain ⟨k, hkk⟩ : ∃ k, rl 2 = k := ⟨_, rfl⟩
  have HK := Lib.hid hkk
  have HG := Lib.hid (And.intro g2 g3)
  have hk1 : k ≤ 1000 := by omega
  have HB := Lib.hid hbW
  have HR := Lib.hid R
  have HX := Lib.hid X
  have HW := Lib.hid hW
  obtain ⟨y, fy⟩ := X 9 _ rfl
  clear hW hbW R X hi hz0 hz1 hz2 V g2 g3 hkk F hk
  go_enter Tryz.func35, Tryz.ntmps35
  go_upto_region 1 with fail
  rw [← HW.out]
  go_wp2_with fail
  have h0 := clip_any (r 2) (rl 2) (rc 2) W g1 HG.out.1 HG.out.2
  with_reducible refine h0.mono ?_
  clear h0
  rintro e w1 ⟨rfl, hb1⟩
  have hz1 := hb1.size
  have HB1 := Lib.hid hb1
  clear hb1 y fy
  go_wp2_with (at_builtin; refine wpList_append_grows _ rfl _ _ 23 rfl 3 i0 (.int .i64 0) 1 8 Tryz.underlying23 HI.out.1 HI.out.2.1 HI.out.2.2.1 HI.out.2.2.2 rfl (by decide) (r 2) (rl 2) (rl 2) ((h 2).map (.int .i64)) rfl ?c1 ?c2 ?c3 ⟨w1.heap.size, 0, none⟩ 1 1 [.int .i64 v] rfl rfl ?c4 ?c5 ?c6 ?c7 ?c8 ?_)
  case c1 => intro e0; have h1 := HG.out.2 e0; omega
  case c2 => rw [List.length_map, HN.out, Nat.mul_one]
  case c3 => exact vs_cells1 (vs_A _ (vs_B HB1.out HV.out))
  case c4 => exact cell_one_new _ _ _
  case c5 => simp [Value.oneCell']
  case c6 => omega
  case c7 => unfold maxLen; rw [HK.out]; omega
  case c8 => rw [HK.out]; omega
  intro v' w2 hown hgrow
  have b2 : Below W.heap.size W w2 := (HB1.out.alloc HB1.out.size _).grown hgrow (by simp; omega) (fun _ hr => by cases hr)
  have hmap : (h 2).map (Value.int .i64) ++ [.int .i64 v] = (h 2 ++ [v]).map (Value.int .i64) := by simp
  rw [hmap] at hown
  obtain ⟨q2, c2, rfl, v1, v2, v3, V2⟩ := vs_own (r := repInt) (Q := fun b => W.heap.size ≤ b) hown (flat_map1 _ _) (fun b h1 _ => by omega)
  have HQ := Lib.hid (And.intro v1 (And.intro v2 v3))
  have X2 := varN_B b2 HX.out
  have R2 := varN_B b2 HR.out
  obtain ⟨Z1, hZ1⟩ : ∃ Z, Z = w2.setCell ⟨w.heap.size, 9, none⟩ (.slice q2 (rl 2 + 1) c2) := ⟨_, rfl⟩
  have X3 : VarN Z1 w.heap.size [.slice a n c, .slice a' n' c', .int .i64 D, .slice q l d, .slice (p 0) (pl 0) (pc 0), .slice (p 1) (pl 1) (pc 1), .slice (p 2) (pl 2) (pc 2), .slice (r 0) (rl 0) (rc 0), .slice (r 1) (rl 1) (rc 1), .slice q2 (rl 2 + 1) c2] := by rw [hZ1]; exact varN_set X2 9 (by simp) _
  have R3 : VarN Z1 (w.heap.size + 1) [.slice none 0 0, .slice none 0 0, .int .i64 0, .slice none 0 0, .slice none 0 0, .slice none 0 0, .slice none 0 0, .slice none 0 0, .slice none 0 0, .slice none 0 0] := by rw [hZ1]; exact varN_other R2 (by omega) _
  have B3 : Below w.heap.size w Z1 := by rw [hZ1]; exact (below_from HB.out b2).setCell (p := ⟨w.heap.size, 9, none⟩) (Nat.le_refl _) _
  obtain ⟨Z2, hZ2⟩ : ∃ Z, Z = setN Z1 (w.heap.size + 1) 0 [.slice a n c, .slice a' n' c', .int .i64 D, .slice q l d, .slice (p 0) (pl 0) (pc 0), .slice (p 1) (pl 1) (pc 1), .slice (p 2) (pl 2) (pc 2), .slice (r 0) (rl 0) (rc 0), .slice (r 1) (rl 1) (rc 1), .slice q2 (rl 2 + 1) c2] := ⟨_, rfl⟩
  have R4 : VarN Z2 (w.heap.size + 1) [.slice a n c, .slice a' n' c', .int .i64 D, .slice q l d, .slice (p 0) (pl 0) (pc 0), .slice (p 1) (pl 1) (pc 1), .slice (p 2) (pl 2) (pc 2), .slice (r 0) (rl 0) (rc 0), .slice (r 1) (rl 1) (rc 1), .slice q2 (rl 2 + 1) c2] := by rw [hZ2]; exact varN_all R3 rfl
  have B4 : Below w.heap.size w Z2 := by rw [hZ2]; exact below_setN (by omega) B3
  have hK : Kept (fun b => W.heap.size ≤ b) w2 Z2 := by
    rw [hZ2, hZ1]
    exact kept_trans (kept_set _ _ _ (fun b hb => by show b ≠ w.heap.size; omega)) (kept_setN (fun b hb => by omega))
  have hF := stQ_mono (Q' := fun b => Q b ∨ w.heap.size ≤ b) (fun _ h => .inl h) (stQ_B B4 HF.out)
  have HS : Hid (StQ (fun b => Q b ∨ w.heap.size ≤ b) Z2 a a' q n n' l p pl pc (upd r 2 q2) (upd rl 2 (rl 2 + 1)) (upd rc 2 c2) (noteS ⟨ws, ts, D, bs, f, h⟩ 2 v)) :=
    ⟨hF.1, hF.2.1, hF.2.2.1, hF.2.2.2.1, three_upd hF.2.2.2.2 2 HQ.out (vs_mono (fun b h => .inr (by omega)) (vs_keep hK V2))⟩
  have HZ1 := Lib.hid hZ1
  have HZ2 := Lib.hid hZ2
  have HX3 := Lib.hid X3
  have HR3 := Lib.hid R3
  have HR4 := Lib.hid R4
  have HB4 := Lib.hid B4
  obtain ⟨y, fy⟩ := X2 9 _ rfl
  clear hZ1 hZ2 X2 R2 X3 R3 B3 R4 B4 hK V2 hown hgrow b2 hmap v1 v2 v3 hF
  go_upto_region 2 with fail
  rw [← HZ1.out]
  clear y fy
  have y0 := (HX3.out 0 _ rfl).1
  have y1 := (HX3.out 1 _ rfl).1
  have y2 := (HX3.out 2 _ rfl).1
  have y3 := (HX3.out 3 _ rfl).1
  have y4 := (HX3.out 4 _ rfl).1
  have y5 := (HX3.out 5 _ rfl).1
  have y6 := (HX3.out 6 _ rfl).1
  have y7 := (HX3.out 7 _ rfl).1
  have y8 := (HX3.out 8 _ rfl).1
  have y9 := (HX3.out 9 _ rfl).1
  obtain ⟨z0, f0⟩ := HR3.out 0 _ rfl
  obtain ⟨z1, f1⟩ := HR3.out 1 _ rfl
  obtain ⟨z2, f2⟩ := HR3.out 2 _ rfl
  obtain ⟨z3, f3⟩ := HR3.out 3 _ rfl
  obtain ⟨z4, f4⟩ := HR3.out 4 _ rfl
  obtain ⟨z5, f5⟩ := HR3.out 5 _ rfl
  obtain ⟨z6, f6⟩ := HR3.out 6 _ rfl
  obtain ⟨z7, f7⟩ := HR3.out 7 _ rfl
  obtain ⟨z8, f8⟩ := HR3.out 8 _ rfl
  obtain ⟨z9, f9⟩ := HR3.out 9 _ rfl
  go_wp2
  have hR4 := HR4.out
  have hS := HS.out
  have hB4 := HB4.out
  rw [HZ2.out] at hR4 hS hB4
  refine bp_cell ⟨w.heap.size + 1, 0, none⟩ rfl rfl rfl (load_stage _ _ _ _ _ _ _ _ _ _ _ _ hR4) ?_
  exact ⟨_, _, _, _, _, _, _, _, _, _, _, _, upd r 2 q2, upd rl 2 (rl 2 + 1), upd rc 2 c2, rfl, hS, hB4⟩
end Go.Proofs.YtiebaeaomgpicaaGreat
