/- Package weigh: Acts. -/
import Derived.Test.YtmdkokhlfflokaaWhC
namespace Go.Proofs.Ytmdkokhlfflokaa
open Go.ChangeShapes Go.WideShapes Go.ChangeAt Go.RowKit
open Gen
theorem infoA10 : (Try.prog.info? 40).map (fun i => (i.zero, i.size, i.bytes)) = some (some (.agg #[.int .i64 0, .int .i64 0]), 2, 16) := by kernel_rfl
theorem cells10 (w : World) (g : Nat) (hg : g = w.heap.size) (xs : List Value) (t : TypeId) : ∀ j u, xs[j]? = some u → (w.alloc (.cells xs.toArray t)).cell? ((⟨g, 0, none⟩ : Addr).add j) = some u := by
  intro j u hu
  rw [Gen.add_plain, Nat.zero_add]
  exact (varN_new (w := w) xs (t := t) g hg j u hu).1
def actV (l : List (Int × Int)) : List Value := l.flatMap int2
theorem actV_flat {Q : Nat → Prop} {w : World} : ∀ (ys : List (Int × Int)), Flat repInt2 Q w (actV ys) ys
  | [] => rfl
  | y :: ys => ⟨int2 y, actV ys, rfl, rfl, actV_flat ys⟩
theorem acts_snoc {ps : List Int} {k : Nat} {x : Int} (h : ps[k]? = some x) : actV (actsF (ps.take (k + 1))) = actV (actsF (ps.take k)) ++ [.int .i64 0, .int .i64 x, .int .i64 1, .int .i64 x] := by
  obtain ⟨hk, rfl⟩ := List.getElem?_eq_some_iff.1 h
  unfold actV actsF
  rw [List.take_succ_eq_append_getElem hk, List.flatMap_append, List.flatMap_append]
  rfl

set_option maxRecDepth 100000 in
set_option maxHeartbeats 4000000 in
theorem wActs_any (a : Option Addr) (n c : Nat) (ps : List Int) (w : World) (S : Vs repInt Any w a n ps) (hn : n ≤ 1000) :
    Calls Try.prog 15 #[.slice a n c] w (fun e w' => ∃ b d, e = .returned (.slice b (2 * n) d) ∧ 2 * n ≤ d ∧ d ≤ 9223372036854775807 ∧ Vs repInt2 Any w' b (2 * n) (actsF ps) ∧ Below w.heap.size w w') := by
  have HS := Lib.hid S
  have HPL := Lib.hid S.1
  obtain ⟨j0, ki, kz0, kz1, kz2⟩ := info_parts infoA10
  have HJ := Lib.hid (And.intro ki (And.intro kz0 (And.intro kz1 kz2)))
  clear S ki kz0 kz1 kz2
  have n2 : (2 : Int) * (n : Int) = ((2 * n : Nat) : Int) := by omega
  have HN2 := Lib.hid n2
  clear n2
  go_enter Try.func15, Try.ntmps15
  go_wp2_with (at_make; refine wpList_make_own _ rfl _ _ 37 rfl w.heap.size 40 j0 (.agg #[.int .i64 0, .int .i64 0]) 2 Try.underlying37 HJ.out.1 HJ.out.2.1 HJ.out.2.2.1 .i64 .i64 _ (2 * n) rfl rfl (by omega) (by rw [HJ.out.2.2.2]; omega) (by unfold maxLen; omega) (Nat.le_refl _) ?_)
  intro w0 hown0 hgrow0
  have HO0 := Lib.hid hown0
  have HB0 := Lib.hid (show Below w.heap.size w w0 from (Below.refl _ _).grown hgrow0 (Nat.le_refl _) (fun g hr => by cases hr))
  clear hown0 hgrow0
  go_wp2_with fail
  go_loopw [3, 12] (fun v i wr => ∃ (k : Nat) (va : Option Addr) (vc : Nat), k ≤ n ∧ i = .int .i64 k ∧ v = .slice va (2 * k) vc ∧ Hid (wr.ownsRow w.heap.size 40 2 (.slice va (2 * k) vc) (2 * k) (actV (actsF (ps.take k)))) ∧ Below w.heap.size w wr) (fun _ i _ => n - (intOf i).toNat)
  case atStart => exact ⟨0, _, _, Nat.zero_le _, rfl, rfl, HO0.out, HB0.out⟩
  case round =>
    obtain ⟨k, va, vc, hk, rfl, rfl, ho, hb⟩ := hrel
    have HB := Lib.hid hb
    clear hb
    by_cases hlt : k < n
    · obtain ⟨b, o, x, rfl, hx, -, hat⟩ := vs_at (vs_B HB.out HS.out) hlt
      have g0 := at_int hat
      rw [show repInt.k = 1 from rfl, Nat.mul_one] at g0
      have i1 : (0 : Int) ≤ k := by omega
      have i2 : (k : Int) < n := by omega
      have HSS := Lib.hid (acts_snoc hx)
      have hsz := HB.out.size
      obtain ⟨rw0, hrw0⟩ : ∃ R, R = actV (actsF (ps.take k)) := ⟨_, rfl⟩
      have HOR := Lib.hid (show wr.ownsRow w.heap.size 40 2 (.slice va (2 * k) vc) (2 * k) rw0 by rw [hrw0]; exact ho.out)
      have HRW := Lib.hid hrw0
      clear hrw0 hx hat
      obtain ⟨wo, hwo⟩ : ∃ x, x = wr := ⟨_, rfl⟩
      subst hwo
      go_wp2_with (at_builtin; refine wpList_append_own _ rfl (.tmp 16) (.tmp 21) 37 rfl w.heap.size 40 j0 (.agg #[.int .i64 0, .int .i64 0]) 2 16 Try.underlying37 HJ.out.1 HJ.out.2.1 HJ.out.2.2.1 HJ.out.2.2.2 rfl (by decide) (.slice va (2 * k) vc) (2 * k) rw0 rfl (HOR.out.alloc _) ⟨wo.heap.size, 0, none⟩ 2 2 [.int .i64 0, .int .i64 x, .int .i64 1, .int .i64 x] rfl rfl (cells10 _ _ rfl _ _) (by simp [Value.oneCell']) (by unfold maxLen; omega) (by omega) (by simp; omega) ?_)
      intro v4 w4 hown hgrow _
      obtain ⟨va4, vc4, rfl⟩ := shape10 hown
      have HB4 := Lib.hid (show Below w.heap.size w w4 from (HB.out.alloc hsz _).grown hgrow (by simp; omega) (fun g hr => (HOR.out.lt g hr).1))
      have HO4 := Lib.hid (show w4.ownsRow w.heap.size 40 2 (.slice va4 (2 * (k + 1)) vc4) (2 * (k + 1)) (actV (actsF (ps.take (k + 1)))) by rw [HSS.out, ← HRW.out]; exact hown)
      clear hown hgrow
      go_wp2_with fail
      go_roundw
      case rel => exact ⟨k + 1, va4, vc4, by omega, by go_num, rfl, HO4.out, HB4.out⟩
      case measure => simp [intOf]; omega
    · obtain rfl : k = n := by omega
      have HE := Lib.hid (show ps.take k = ps from List.take_of_length_le (by rw [HPL.out]; exact Nat.le_refl _))
      obtain ⟨a2, c2, e2, h1, h2, h3, V⟩ := vs_own (r := repInt2) (Q := Any) (n := 2 * k) ho.out (actV_flat _) (fun _ _ _ => trivial)
      rw [HE.out] at V
      have HV := Lib.hid V
      cases e2
      clear V
      go_wp2
      go_ret
      exact ⟨_, _, rfl, h1, h2, HV.out, HB.out⟩
end Go.Proofs.Ytmdkokhlfflokaa
