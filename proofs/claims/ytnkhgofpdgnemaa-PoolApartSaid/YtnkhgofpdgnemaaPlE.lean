/- Contracts of package pool: slices.Clone and Reverse of rows of one's own; Take. -/
import Derived.Test.YtnkhgofpdgnemaaPlD
import Derived.Test.YtnkhgofpdgnemaaGen
namespace Go.Proofs.Ytnkhgofpdgnemaa
open Go.ChangeShapes Go.WideShapes Go.ChangeAt Go.RowKit Gen

/-- a pool -/
structure Pl4 where
  s : Int
  b : Int
  m : Int
  fs : List Int
def pl0 : Pl4 := ⟨0, 0, 0, []⟩
def plOkP (p : Pl4) : Bool := plRight p.s p.b p.m p.fs
def plTake (p : Pl4) : Pl4 × Int × Int := if plOkP p = true then (if p.fs.length = 0 then (pl0, 0, 14) else ({ p with fs := p.fs.take (p.fs.length - 1) }, p.fs.getD (p.fs.length - 1) 0, 0)) else (pl0, 0, 1)
def plGive (p : Pl4) (x : Int) : Pl4 × Int := if plOkP p = true then (if plHas (plBl p.s p.b p.m.toNat) x = true then (if plHas p.fs x = true then (pl0, 5) else ({ p with fs := p.fs ++ [x] }, 0)) else (pl0, 3)) else (pl0, 1)
def plHeldZ (p : Pl4) : List Int × Int := if plOkP p = true then (plHeld p.s p.b p.m.toNat p.fs, 0) else ([], 1)
def plNew (s b m : Int) : Pl4 × Int := if plFit s b m = true then (⟨s, b, m, (plBl s b m.toNat).reverse⟩, 0) else (pl0, 1)

theorem slF_setN {F g : Nat} (hg : g < F) {a : Option Addr} {n : Nat} {zs : List Int} : ∀ {us : List Value} {w : World} {k : Nat}, SlF F w a n zs → SlF F (setN w g k us) a n zs
  | [], _, _, h => h
  | u :: us, w, k, h => by
    show SlF F (setN (w.setCell ⟨g, k, none⟩ u) g (k + 1) us) a n zs
    exact slF_setN hg (slF_set h ⟨g, k, none⟩ hg u)
theorem slF_le {F F' : Nat} {w : World} {a : Option Addr} {n : Nat} {zs : List Int} (hF : F' ≤ F) (h : SlF F w a n zs) : SlF F' w a n zs := ⟨h.1, h.2.imp id fun ⟨b, o, e, hq, r⟩ => ⟨b, o, e, by omega, r⟩⟩
theorem plLoad {W : World} {g : Nat} {s b m : Int} {q : Option Addr} {n c : Nat} (h : VarN W g [.int .i64 s, .int .i64 b, .int .i64 m, .slice q n c]) : (loadVar 24 ⟨g, 0, none⟩).run Try.prog W = .ok (.agg #[.int .i64 s, .int .i64 b, .int .i64 m, .slice q n c]) W := by
  have h0 := (h 0 _ rfl).1
  have h1 := (h 1 _ rfl).1
  have h2 := (h 2 _ rfl).1
  have h3 := (h 3 _ rfl).1
  simp [go_sem, h0, h1, h2, h3]

/-! ### rows of one's own -/
theorem varN_drewN {w : World} {g : Nat} {vs : List Value} (d : Nat) (h : VarN w g vs) : VarN (w.drewN d) g vs := varN_B (below_drewN (Below.refl _ _) d) h
theorem varN_own {w : World} {B n cap g : Nat} {cur : Array Value} {ys : List Int} (hg : w.heap[g]? = some (.cells cur 3 (0, 0))) (ht : cur.toList.take (n * 1) = ys.map (Value.int .i64)) (_ : B ≤ g) (_ : n ≤ cap) : VarN w g (ys.map (Value.int .i64)) := by
  intro i v hi
  refine ⟨?_, by simp [World.frozen?, hg]⟩
  rw [← ht, List.getElem?_take] at hi
  split at hi
  · simp only [World.cell?, hg]; simpa using hi
  · cases hi
theorem slF_varN {w : World} {F g c : Nat} {ys : List Int} (hF : F ≤ g) (h : VarN w g (ys.map (Value.int .i64))) : SlF F w (some ⟨g, 0, none⟩) ys.length ys ∧ c = c := by
  refine ⟨⟨rfl, .inr ⟨g, 0, rfl, hF, fun i hi => ?_⟩⟩, rfl⟩
  have := (h i (.int .i64 (ys.getD i 0)) (by simp [hi])).1
  rwa [Nat.zero_add]
theorem plRev_own (v : Value) (n : Nat) (ys : List Int) (w : World) (B : Nat) (h : w.ownsRow B 3 1 v n (ys.map (Value.int .i64))) (hn : n ≤ 1000) :
    Calls Try.prog 25 #[v] w fun e w' => e = .returned (.tuple #[]) ∧ (∃ q c, v = .slice q n c ∧ SlF B w' q n ys.reverse) ∧ Below B w w' := by
  obtain ⟨hl, h⟩ := h
  have hl' : ys.length = n := by simpa using hl
  rcases h with ⟨rfl, h0⟩ | ⟨g, cap, cur, rfl, hb, hg, hnc, hm, hs, ht⟩
  · subst h0
    obtain rfl : ys = [] := List.eq_nil_of_length_eq_zero hl'
    refine (plRev_nil none 0 w).mono ?_
    rintro e w' ⟨rfl, rfl⟩
    exact ⟨rfl, ⟨none, 0, rfl, rfl, .inl rfl⟩, Below.refl _ _⟩
  · have hV : VarN w g (ys.map (Value.int .i64)) := varN_own (B := B) (cap := cap) hg ht hb hnc
    refine (plRev_cells g 0 n cap ys w (by omega) (by omega) (fun j hj => ?_) (fun j hj => ?_)).mono ?_
    · rw [Nat.zero_add]; exact (hV j _ (by simp [hj])).1
    · rw [Nat.zero_add]; exact (hV j (.int .i64 (ys.getD j 0)) (by simp [show j < ys.length by omega])).2
    · rintro e w' ⟨rfl, q, rfl⟩
      rw [setN_cells, List.take_of_length_le (by omega)]
      refine ⟨rfl, ⟨_, _, rfl, ?_⟩, below_setN hb (below_drewN (Below.refl _ _) q)⟩
      have := varN_all (xs := ys.reverse.map (Value.int .i64)) (varN_drewN q hV) (by simp)
      have h2 := (slF_varN (c := 0) hb this).1
      rwa [List.length_reverse, hl'] at h2

set_option maxHeartbeats 2000000 in
theorem plClone_any (a : Option Addr) (n c : Nat) (zs : List Int) (w : World) (S : Sl w a n zs) (hn : n ≤ 1000) (hcap : CapOk a n c) :
    Calls Try.prog 29 #[.slice a n c] w (PlOwn zs w) := by
  obtain ⟨i0, hi, hz0, hz1, hz2⟩ := info_parts Try.info3
  have HI := Lib.hid (And.intro hi (And.intro hz0 (And.intro hz1 hz2)))
  have Hn := Lib.hid S.1
  clear hi hz0 hz1 hz2
  cases a with
  | none =>
    obtain rfl : c = 0 := hcap.2.2 rfl
    obtain rfl : n = 0 := by have := hcap.1; omega
    obtain rfl : zs = [] := List.eq_nil_of_length_eq_zero Hn.out
    have q := fun w => eql_nil 22 3 none 0 0 Try.underlying22 w
    clear hcap
    go_enter Try.func29, Try.ntmps29
    go_wp2
    go_ret
    exact ⟨_, rfl, World.ownsRow_nil _ _ _ _, Below.refl _ _⟩
  | some p =>
    have HC : Hid (∀ W, Below w.heap.size w W → ∀ j u, (zs.map (Value.int .i64))[j]? = some u → W.cell? (p.add j) = some u) := by
      intro W hW j u hu
      have hj : j < zs.length := by simpa using (List.getElem?_eq_some_iff.1 hu).1
      obtain ⟨b, o, e, R⟩ := S.2.resolve_left (by rw [← Hn.out]; omega)
      cases e
      exact row_cells (rowB hW R) j u hu
    have q := fun w => eql_nil 22 3 (some p) n c Try.underlying22 w
    clear hcap S
    go_enter Try.func29, Try.ntmps29
    go_wp2_with (at_builtin; refine wpList_append_own _ rfl _ _ 22 rfl w.heap.size 3 i0 (.int .i64 0) 1 8 Try.underlying22 HI.out.1 HI.out.2.1 HI.out.2.2.1 HI.out.2.2.2 rfl (by decide) _ 0 [] rfl (World.ownsRow_made w #[] 0 (Nat.le_refl _) (by decide) (by simp)) p n c (zs.map (Value.int .i64)) rfl ?c1 ?c2 ?c3 ?c4 ?c5 ?c6 ?_)
    case c1 => simp [Hn.out]
    case c2 => exact HC.out _ (by go_grown)
    case c3 => intro v hv; simp at hv; obtain ⟨z, _, rfl⟩ := hv; rfl
    case c4 => unfold maxLen; omega
    case c5 => omega
    case c6 => simp
    intro v' w1 hown' hgrow _
    have hb' := ((Below.refl w.heap.size w).alloc (Nat.le_refl _) (.cells #[] 3)).grown hgrow (by simp) (fun r hr => by cases hr; simp)
    rw [← Hn.out] at hown'
    obtain ⟨q1, d1, rfl⟩ := pl_own_form hown'
    have HO := Lib.hid hown'
    have HB := Lib.hid hb'
    clear hown' hb' hgrow
    go_wp2
    go_ret
    exact ⟨_, rfl, HO.out, HB.out⟩
end Go.Proofs.Ytnkhgofpdgnemaa
