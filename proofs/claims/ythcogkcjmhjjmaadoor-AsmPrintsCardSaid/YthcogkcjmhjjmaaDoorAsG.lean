/- Package asm: numbered. -/
import Derived.Test.YthcogkcjmhjjmaaDoorAsB
import Derived.Laws.Rows
namespace Go.Proofs.YthcogkcjmhjjmaaDoor
open Go.ChangeShapes Go.WideShapes Go.ChangeAt Go.RowKit
open Gen

theorem ops_heap {w : World} (G : Glob w) : ∃ t fr, w.heap[0]? = some (.cells opCells.toArray t fr) := by
  have h := G.ops
  simp only [World.var?, Tryd.gOps, Option.bind_some] at h
  split at h
  · rename_i cs t fr hc
    injection h with h
    subst h
    exact ⟨t, fr, hc⟩
  · cases h
theorem ops_load {w : World} (G : Glob w) : (loadVar 85 ⟨0, 0, none⟩).run Tryd.prog w = .ok (.agg opCells.toArray) w := by
  obtain ⟨t, fr, h⟩ := ops_heap G
  exact run_loadVar_row w _ t _ _ fr _ h Tryd.underlying85 rfl (by kernel_rfl)
theorem ops_index (k : Nat) (hk : k < 27) (w : World) : (Instr.index 85 (.agg opCells.toArray) (.int .i64 k)).run Tryd.prog w = .ok (.agg #[.string (str (opName.getD k [])), .string (str (opSign.getD k []))]) w := by
  have hn : (0 : Int) ≤ k ∧ (k : Int) < 27 := by omega
  have hc : (List.take 2 (List.drop (k * 2) opCells)).toArray = #[.string (str (opName.getD k [])), .string (str (opSign.getD k []))] := by
    clear hn
    have h27 : k = 0 ∨ k = 1 ∨ k = 2 ∨ k = 3 ∨ k = 4 ∨ k = 5 ∨ k = 6 ∨ k = 7 ∨ k = 8 ∨ k = 9 ∨ k = 10 ∨ k = 11 ∨ k = 12 ∨ k = 13 ∨ k = 14 ∨ k = 15 ∨ k = 16 ∨ k = 17 ∨ k = 18 ∨ k = 19 ∨ k = 20 ∨ k = 21 ∨ k = 22 ∨ k = 23 ∨ k = 24 ∨ k = 25 ∨ k = 26 := by omega
    rcases h27 with rfl | rfl | rfl | rfl | rfl | rfl | rfl | rfl | rfl | rfl | rfl | rfl | rfl | rfl | rfl | rfl | rfl | rfl | rfl | rfl | rfl | rfl | rfl | rfl | rfl | rfl | rfl <;> rfl
  simp only [List.getD_eq_getElem?_getD] at hc ⊢
  simp [Instr.index, run_underlying Tryd.underlying85, asIntOf, hn, go_sem, hk, hc]

set_option maxRecDepth 100000 in
set_option maxHeartbeats 4000000 in
theorem numbered_any (s : ByteArray) (w : World) (G : Glob w) : Calls Tryd.prog 54 #[.string s] w fun e w' => e = .returned (.tuple #[.int .i64 ((opOf s.data.toList).getD 0 : Nat), .bool (opOf s.data.toList).isSome]) ∧ Below w.heap.size w w' := by
  obtain ⟨ty, fr, hg⟩ := ops_heap G
  have hC : (Tryd.prog.info? 85).map (·.size) = some opCells.toArray.size := by kernel_rfl
  have hi := ops_index
  obtain ⟨C, hC'⟩ : ∃ C, C = opCells.toArray := ⟨_, rfl⟩
  rw [← hC'] at hg hC hi
  have HC := Lib.hid hC
  clear hC hC'
  go_enter Tryd.func54, Tryd.ntmps54
  go_wp2_with (refine wpList_load_row rfl 85 _ rfl 0 rfl ty C fr _ hg Tryd.underlying85 rfl HC.out ?_)
  go_loopw [7] (fun i wr => ∃ k : Nat, k ≤ 27 ∧ i = .int .i64 k ∧ Hid (∀ j, j < k → opName.getD j [] ≠ s.data.toList) ∧ Hid (Below w.heap.size w wr)) (fun i _ => 27 - (intOf i).toNat)
  case atStart => exact ⟨0, by omega, rfl, (show ∀ j, j < 0 → _ from fun j hj => by omega), Below.refl _ _⟩
  case round =>
    obtain ⟨k, hk, rfl, hno, hb⟩ := hrel
    by_cases hlt : k < 27
    · have hik := hi k hlt wr
      obtain ⟨nm, hnm⟩ : ∃ nm, opName.getD k [] = nm := ⟨_, rfl⟩
      obtain ⟨sg, hsg⟩ : ∃ sg, opSign.getD k [] = sg := ⟨_, rfl⟩
      rw [hnm, hsg] at hik
      have HNM := Lib.hid hnm
      have i1 : (0 : Int) ≤ k := by omega
      have i2 : (k : Int) < 27 := by omega
      clear hi hnm hsg
      by_cases he : nm = s.data.toList
      · have he2 : (nm == s.toList) = true := by rw [beq_iff_eq, ByteArray.toList_eq]; exact he
        have HO := Lib.hid (opOf_some hlt hno.out (by rw [HNM.out]; exact he))
        clear he
        go_wp2
        go_ret2
        rw [HO.out]
        exact ⟨rfl, hb.out.alloc hb.out.size _⟩
      · have he2 : (nm == s.toList) = false := by rw [beq_eq_false_iff_ne, ByteArray.toList_eq]; exact he
        have HE := Lib.hid he
        clear he
        go_wp2
        go_roundw
        case rel =>
          refine ⟨k + 1, by omega, by go_num, (show ∀ j, j < k + 1 → _ from fun j hj => ?_), hb.out.alloc hb.out.size _⟩
          by_cases e : j = k
          · subst e; rw [HNM.out]; exact HE.out
          · exact hno.out j (by omega)
        case measure => simp [intOf]; omega
    · obtain rfl : k = 27 := by omega
      go_wp2
      go_ret2
      rw [opOf_none hno.out]
      exact ⟨rfl, hb.out⟩
end Go.Proofs.YthcogkcjmhjjmaaDoor
