/- Contracts of the document's own answers of layer 10 (package respiteref10): Shares. -/
import Derived.Test.YtmdkokhlfflokaaWgB
import Derived.Maps.AppendAt
namespace Go.Proofs.Ytmdkokhlfflokaa
open Go.ChangeShapes Go.WideShapes Go.ChangeAt Go.RowKit
open Gen
theorem infoI10 : (Try.prog.info? 3).map (fun i => (i.zero, i.size, i.bytes)) = some (some (.int .i64 0), 1, 8) := by kernel_rfl
theorem cell10 (w : World) (g : Nat) (hg : g = w.heap.size) (x : Value) (t : TypeId) : ∀ j u, [x][j]? = some u → (w.alloc (.cells #[x] t)).cell? ((⟨g, 0, none⟩ : Addr).add j) = some u := by
  intro j u hu
  rw [Gen.add_plain, Nat.zero_add]
  exact (varN_new (w := w) [x] (t := t) g hg j u hu).1
theorem shape10 {k : Nat} {w : World} {B : Nat} {e : TypeId} {v : Value} {n : Nat} {xs : List Value} (h : w.ownsRow B e k v n xs) : ∃ a c, v = .slice a n c := by
  rcases h.2 with ⟨rfl, rfl⟩ | ⟨g, cap, cur, rfl, _⟩
  · exact ⟨_, _, rfl⟩
  · exact ⟨_, _, rfl⟩
/-- how often a number comes among the first ones -/
def cntI (ps : List Int) (i : Int) (k : Nat) : Nat := ((ps.take k).filter (fun p => p == i)).length
theorem cntI_succ {ps : List Int} {k : Nat} {x : Int} (h : ps[k]? = some x) (i : Int) : cntI ps i (k + 1) = cntI ps i k + (if x = i then 1 else 0) := by
  obtain ⟨hk, rfl⟩ := List.getElem?_eq_some_iff.1 h
  rw [cntI, List.take_succ_eq_append_getElem hk, List.filter_append, List.length_append, cntI]
  congr 1
  by_cases e : ps[k] = i <;> simp [e]
theorem cntI_le (ps : List Int) (i : Int) (k : Nat) : cntI ps i k ≤ k := by
  refine Nat.le_trans (List.length_filter_le _ _) ?_
  rw [List.length_take]; omega
def sharesF (ps : List Int) (m : Nat) : List Int := (List.range m).map fun i : Nat => ((cntI ps (i : Int) ps.length : Nat) : Int)
theorem sharesF_succ (ps : List Int) (m : Nat) : sharesF ps (m + 1) = sharesF ps m ++ ((cntI ps m ps.length : Nat) : Int) :: [] := by
  rw [sharesF, List.range_succ, List.map_append]; rfl
/-- integers in new memory -/
def IntsPost (n : Nat) (zs : List Int) (w : World) (e : Ending) (w' : World) : Prop := ∃ a c, e = .returned (.slice a n c) ∧ n ≤ c ∧ c ≤ 9223372036854775807 ∧ (a = none → c = 0) ∧ Vs repInt (fun b => w.heap.size ≤ b) w' a n zs ∧ Below w.heap.size w w'
theorem intsPost_own {n : Nat} {zs : List Int} {w w' : World} {v : Value} (ho : w'.ownsRow w.heap.size 3 1 v n (zs.map (.int .i64))) (hb : Below w.heap.size w w') : IntsPost n zs w (.returned v) w' := by
  obtain ⟨a, c, rfl, h1, h2, h3, V⟩ := vs_own (r := repInt) (Q := fun b => w.heap.size ≤ b) ho (flat_map1 (.int .i64) zs) (fun b h _ => h)
  exact ⟨a, c, rfl, h1, h2, h3, V, hb⟩

set_option maxRecDepth 100000 in
set_option maxHeartbeats 4000000 in
theorem ref10Shares_any (a : Option Addr) (n c : Nat) (ps : List Int) (m : Nat) (w : World) (S : Vs repInt Any w a n ps) (hn : n ≤ 1000) (hm : m ≤ 1000) : Calls Try.prog 17 #[.slice a n c, .int .i64 m] w (IntsPost m (sharesF ps m) w) := by
  have HS := Lib.hid S
  have HL := Lib.hid S.1
  obtain ⟨j0, ki, kz0, kz1, kz2⟩ := info_parts infoI10
  have HJ := Lib.hid (And.intro ki (And.intro kz0 (And.intro kz1 kz2)))
  clear S ki kz0 kz1 kz2
  go_enter Try.func17, Try.ntmps17
  go_wp2_with fail
  go_loopw [5, 6] (fun v i wr => ∃ (k : Nat) (va : Option Addr) (vc : Nat), k ≤ m ∧ i = .int .i64 k ∧ v = .slice va k vc ∧ Hid (wr.ownsRow w.heap.size 3 1 (.slice va k vc) k ((sharesF ps k).map (.int .i64))) ∧ Below w.heap.size w wr) (fun _ i _ => m - (intOf i).toNat)
  case atStart => exact ⟨0, _, _, Nat.zero_le _, rfl, rfl, (show w.alloc (Obj.cells #[] 3) |>.ownsRow w.heap.size 3 1 (.slice (some ⟨w.heap.size, 0, none⟩) 0 0) 0 [] from World.ownsRow_lit w #[] 0 (Nat.le_refl _) (by decide) rfl), (Below.refl _ _).alloc (Nat.le_refl _) _⟩
  case round =>
    obtain ⟨k, va, vc, hk, rfl, rfl, ho, hb⟩ := hrel
    by_cases hlt : k < m
    · obtain ⟨wo, hwo⟩ : ∃ x, x = wr := ⟨_, rfl⟩
      subst hwo
      have HB := Lib.hid hb
      have i1 : (k : Int) < m := by omega
      clear hb
      go_wp2_with fail
      go_loopw [7, 18] (fun cv i wr => ∃ j q : Nat, j ≤ n ∧ q ≤ j ∧ i = .int .i64 j ∧ cv = .int .i64 q ∧ Hid (cntI ps k j = q) ∧ wr = wo) (fun _ i _ => n - (intOf i).toNat)
      case atStart => exact ⟨0, 0, Nat.zero_le _, Nat.le_refl _, rfl, rfl, (by show cntI ps k 0 = 0; rfl), rfl⟩
      case round =>
        obtain ⟨j, q, hj, hq, rfl, rfl, hc, rfl⟩ := hrel
        by_cases hlt2 : j < n
        · obtain ⟨b, o, x, rfl, hx, -, hat⟩ := vs_at (vs_B HB.out HS.out) hlt2
          have g0 := at_int hat
          rw [show repInt.k = 1 from rfl, Nat.mul_one] at g0
          have i2 : (0 : Int) ≤ j := by omega
          have i3 : (j : Int) < n := by omega
          have HN := Lib.hid (cntI_succ hx (k : Int))
          clear hx hat
          by_cases e : x = k
          · have q1 : (x == (k : Int)) = true := by simp [e]
            have HC := Lib.hid (show cntI ps k (j + 1) = q + 1 by rw [HN.out, hc.out, if_pos e])
            clear e
            go_wp2_with fail
            go_roundw
            case rel => exact ⟨j + 1, q + 1, by omega, by omega, by go_num, by go_num, HC.out, trivial⟩
            case measure => simp [intOf]; omega
          · have q1 : (x == (k : Int)) = false := by simp [e]
            have HC := Lib.hid (show cntI ps k (j + 1) = q by rw [HN.out, hc.out, if_neg e]; rfl)
            clear e
            go_wp2_with fail
            go_roundw
            case rel => exact ⟨j + 1, q, by omega, by omega, by go_num, rfl, HC.out, trivial⟩
            case measure => simp [intOf]; omega
        · obtain rfl : j = n := by omega
          have HSS := Lib.hid (show sharesF ps (k + 1) = sharesF ps k ++ ((q : Nat) : Int) :: [] by rw [sharesF_succ, HL.out, hc.out])
          have hsz := HB.out.size
          obtain ⟨rw0, hrw0⟩ : ∃ R, R = (sharesF ps k).map (Value.int .i64) := ⟨_, rfl⟩
          have HOR := Lib.hid (show wr.ownsRow w.heap.size 3 1 (.slice va k vc) k rw0 by rw [hrw0]; exact ho.out)
          have HRW := Lib.hid hrw0
          clear hrw0
          go_wp2_with (at_builtin; refine wpList_append_own _ rfl (.tmp 28) (.tmp 30) 33 rfl w.heap.size 3 j0 (.int .i64 0) 1 8 Try.underlying33 HJ.out.1 HJ.out.2.1 HJ.out.2.2.1 HJ.out.2.2.2 rfl (by decide) (.slice va k vc) k rw0 rfl (HOR.out.alloc _) ⟨wr.heap.size, 0, none⟩ 1 1 [.int .i64 q] rfl rfl (cell10 _ _ rfl _ _) (by simp [Value.oneCell']) (by unfold maxLen; omega) (by omega) (by simp; omega) ?_)
          intro v4 w4 hown hgrow _
          obtain ⟨va4, vc4, rfl⟩ := shape10 hown
          have HB4 := Lib.hid (show Below w.heap.size w w4 from (HB.out.alloc hsz _).grown hgrow (by simp; omega) (fun g hr => (HOR.out.lt g hr).1))
          have HO4 := Lib.hid (show w4.ownsRow w.heap.size 3 1 (.slice va4 (k + 1) vc4) (k + 1) ((sharesF ps (k + 1)).map (.int .i64)) by rw [HSS.out, List.map_append, ← HRW.out]; exact hown)
          clear hown hgrow
          go_wp2_with fail
          go_roundw
          case rel => exact ⟨k + 1, va4, vc4, by omega, by go_num, rfl, HO4.out, HB4.out⟩
          case measure => simp [intOf]; omega
    · obtain rfl : k = m := by omega
      have HB := Lib.hid hb
      clear hb
      go_wp2
      go_ret
      exact intsPost_own ho.out HB.out
end Go.Proofs.Ytmdkokhlfflokaa
