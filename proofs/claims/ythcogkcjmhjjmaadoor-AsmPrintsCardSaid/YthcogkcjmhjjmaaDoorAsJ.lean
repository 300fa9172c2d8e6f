/- Package asm: Parse as a slice that is read; a statement's text and what is asked of all (alive). -/
import Derived.Test.YthcogkcjmhjjmaaDoorAsI
import Derived.Test.YthcogkcjmhjjmaaDoorMathJ
import Derived.Test.YthcogkcjmhjjmaaDoorMathR
namespace Go.Proofs.YthcogkcjmhjjmaaDoor
open Go.ChangeShapes Go.WideShapes Go.ChangeAt Go.RowKit
open Gen

def repIns : Rep Ins := repF 4 (by decide) insOf (fun _ => rfl)
theorem flat_ins {Q : Nat → Prop} {w : World} : ∀ (c : List Ins), Flat repIns Q w (insCells c) c
  | [] => rfl
  | i :: c => ⟨insOf i, insCells c, by simp [insCells], rfl, flat_ins c⟩
theorem ins_at {Q : Nat → Prop} {w : World} {b o : Nat} {i : Ins} (h : At repIns Q w b o i) : w.cell? ⟨b, o, none⟩ = some (.int .i64 i.1) ∧ w.cell? ⟨b, o + 1, none⟩ = some (.int .i64 i.2.1) ∧ w.cell? ⟨b, o + 2, none⟩ = some (.int .i64 i.2.2.1) ∧ w.cell? ⟨b, o + 3, none⟩ = some (.int .i64 i.2.2.2) := by
  obtain ⟨cs, h1, h2⟩ := h
  have h1 : cs = insOf i := h1
  subst h1
  exact ⟨h2 0 _ rfl, h2 1 _ rfl, h2 2 _ rfl, h2 3 _ rfl⟩
def ParseV (r : List Ins × Int × Int) (w : World) (e : Ending) (w' : World) : Prop :=
  ∃ a c, e = .returned (.tuple #[.slice a r.1.length c, .int .i64 r.2.1, .int .i64 r.2.2]) ∧ r.1.length ≤ c ∧ c ≤ 9223372036854775807 ∧ Vs repIns Any w' a r.1.length r.1 ∧ Below w.heap.size w w'
theorem Parse_v (t : Bs) (w : World) (ht : t.length ≤ 40000) (G : Glob w) : Calls Tryd.prog 9 #[.string (str t)] w (ParseV (parseL t) w) := by
  refine (Parse_short t w ht G).mono ?_
  rintro e w' ⟨v, rfl, ho, hb⟩
  obtain ⟨a, c, rfl, h1, h2, -, h4⟩ := vs_own (r := repIns) (Q := Any) ho (flat_ins _) (fun _ _ _ => trivial)
  exact ⟨a, c, rfl, h1, h2, h4, hb⟩
def aliveT : Bs := [97, 58, 10, 112, 108, 117, 115, 32, 114, 49, 32, 114, 49, 32, 45, 49, 10, 115, 111, 109, 101, 32, 114, 49, 32, 97, 10]
theorem alive_parse : parseL aliveT = ([(3, 1, 1, -1), (12, 1, 0, 0)], 0, 0) := by
  kernel_rfl
set_option maxHeartbeats 1000000 in
theorem alive_k_any (w : World) (G : Glob w) : Calls Tryd.prog 11 #[] w (BoolPost true w) := by
  have hp := Parse_v aliveT w (by decide) G
  rw [alive_parse] at hp
  go_enter Tryd.func11, Tryd.ntmps11
  go_wp2_with (go_at_call 9; refine hp.mono ?_; rintro e w1 ⟨a, c, rfl, hc1, hc2, V, hb⟩; obtain ⟨b, o, rfl, -, fO⟩ := V.2.resolve_left (by decide); have V0 := ins_at (fO 0 _ rfl); have v0 : w1.cell? ⟨b, o, none⟩ = some (.int .i64 3) := V0.1; have v3 : w1.cell? ⟨b, o + 3, none⟩ = some (.int .i64 (-1)) := V0.2.2.2; clear V0 fO V hp)
  go_ret
  exact boolPost_mk rfl hb
theorem take_str (s : ByteArray) (n : Nat) : s.extract 0 n = str (s.data.toList.take n) := by
  apply ByteArray.ext
  exact Array.toList_inj.1 (by simp)
set_option maxHeartbeats 1000000 in
theorem part_any (s : ByteArray) (w : World) (hs : s.size ≤ 9223372036854775807) : Calls Tryd.prog 8 #[.string s] w fun e w' => e = .returned (.string (str (s.data.toList.take 3000))) ∧ w' = w := by
  by_cases h : 3000 ≤ s.size
  · have h1 : (3000 : Int) ≤ s.size := by omega
    go_enter Tryd.func8, Tryd.ntmps8
    go_wp2
    go_ret
    refine ⟨?_, rfl⟩
    show Ending.returned (Value.string (s.extract 0 (min (s.size : Int) 3000).toNat)) = _
    rw [show (min (s.size : Int) 3000).toNat = 3000 by omega, take_str]
  · have h1 : (s.size : Int) < 3000 := by omega
    have h2 := bytes_size s
    have h3 : s.data.toList.take s.size = s.data.toList.take 3000 := by rw [List.take_of_length_le (by omega), List.take_of_length_le (by omega)]
    clear h2
    go_enter Tryd.func8, Tryd.ntmps8
    go_wp2
    go_ret
    refine ⟨?_, rfl⟩
    show Ending.returned (Value.string (s.extract 0 (min (s.size : Int) 3000).toNat)) = _
    rw [show (min (s.size : Int) 3000).toNat = s.size by omega, take_str, h3]
end Go.Proofs.YthcogkcjmhjjmaaDoor
