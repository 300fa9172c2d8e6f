/- The document's own reading (respiteref05): target. -/
import Derived.Test.YtlkeacekdmjafaaDoorAsP
import Derived.Test.YtlkeacekdmjafaaDoorAsJ
namespace Go.Proofs.YtlkeacekdmjafaaDoor
open Go.ChangeShapes Go.WideShapes Go.ChangeAt Go.RowKit
open Gen

def repS : Rep Bs := repF 1 (by decide) (fun p => [.string (str p)]) (fun _ => rfl)
theorem flat_s {Q : Nat → Prop} {w : World} : ∀ (c : List Bs), Flat repS Q w (strs c) c
  | [] => rfl
  | i :: c => ⟨[.string (str i)], strs c, by simp [strs], rfl, flat_s c⟩
theorem s_at {Q : Nat → Prop} {w : World} {b o : Nat} {p : Bs} (h : At repS Q w b o p) : w.cell? ⟨b, o, none⟩ = some (.string (str p)) := by
  obtain ⟨cs, h1, h2⟩ := h
  have h1 : cs = [.string (str p)] := h1
  subst h1
  exact h2 0 _ rfl
theorem app58 (q : ByteArray) : (q ++ (⟨#[58]⟩ : ByteArray)).toList = q.data.toList ++ [58] := by
  rw [ByteArray.toList_eq]
  simp
/-- how many instructions stand ahead of a label -/
def targR : List Bs → Nat → Bs → Option Nat
  | [], _, _ => none
  | x :: r, n, q => if x = q ++ [58] then some n else targR r (if labB x then n else n + 1) q
def targV (o : Option Nat) : Value := .tuple #[.int .i64 (o.getD 0 : Nat), .bool o.isSome]
set_option maxRecDepth 100000 in
set_option maxHeartbeats 2000000 in
theorem refTarget_any (a : Option Addr) (n c : Nat) (ls : List Bs) (q : ByteArray) (w : World) (V : Vs repS Any w a n ls) (hn : n ≤ 50001) (hl : ∀ x ∈ ls, x.length ≤ 50000) (hq : q.size ≤ 50000) :
    Calls Tryd.prog 42 #[.slice a n c, .string q] w fun e w' => e = .returned (targV (targR ls 0 q.data.toList)) ∧ w' = w := by
  have hlen := V.1
  go_enter Tryd.func42, Tryd.ntmps42
  go_wp2
  go_loop [6, 8, 11] (fun x _ i => ∃ k m : Nat, k ≤ n ∧ i = .int .i64 k ∧ x = .int .i64 m ∧ m ≤ k ∧ Hid (targR ls 0 q.data.toList = targR (ls.drop k) m q.data.toList)) (fun _ _ i => n - (intOf i).toNat)
  case atStart => exact ⟨0, 0, by omega, rfl, rfl, by omega, (show targR ls 0 q.data.toList = targR (ls.drop 0) 0 q.data.toList by rw [List.drop_zero])⟩
  case round =>
    obtain ⟨k, m, hk, rfl, rfl, hm, hr⟩ := hrel
    by_cases hlt : k < n
    · have j1 : (k : Int) < n := by omega
      have j2 : (0 : Int) ≤ k := by omega
      have j3 : (0 : Int) ≤ m := by omega
      have j4 : (m : Int) ≤ 50001 := by omega
      obtain ⟨b, o, p, rfl, hp, -, hA⟩ := vs_at V hlt
      have z := s_at hA
      rw [show repS.k = 1 from rfl, Nat.mul_one] at z
      have hpl := hl p (List.mem_of_getElem? hp)
      have hd : ls.drop k = p :: ls.drop (k + 1) := by
        obtain ⟨h1, rfl⟩ := List.getElem?_eq_some_iff.1 hp
        exact List.drop_eq_getElem_cons h1
      have hlab := refLabel_any (str p) w (by rw [str_size]; omega)
      rw [str_data] at hlab
      have hq2 : ¬ 9223372036854775807 < q.size + 1 := by omega
      have HR := Lib.hid hr.out
      rw [hd, targR] at HR
      by_cases hpe : p = q.data.toList ++ [58]
      · have HT := Lib.hid (show targR ls 0 q.data.toList = some m by rw [HR.out, if_pos hpe])
        have e1 : (p == (q ++ (⟨#[58]⟩ : ByteArray)).toList) = true := by rw [app58, hpe]; simp
        clear HR hd hp hA hpe
        go_wp2
        go_ret2
        rw [HT.out]
        exact ⟨rfl, rfl⟩
      · rw [if_neg hpe] at HR
        have e1 : (p == (q ++ (⟨#[58]⟩ : ByteArray)).toList) = false := by rw [app58]; simpa using hpe
        clear hd hp hA hpe
        cases hlb : labB p with
        | true =>
          rw [hlb] at hlab HR
          rw [if_pos rfl] at HR
          clear hlb
          go_wp2_with fail
          with_reducible refine hlab.mono ?_
          clear hlab
          rintro e w' ⟨rfl, rfl⟩
          go_wp2
          go_round
          case rel => exact ⟨k + 1, m, by omega, by go_num, rfl, by omega, HR.out⟩
          case measure => simp [intOf]; omega
        | false =>
          rw [hlb] at hlab HR
          rw [if_neg (by decide)] at HR
          clear hlb
          go_wp2_with fail
          with_reducible refine hlab.mono ?_
          clear hlab
          rintro e w' ⟨rfl, rfl⟩
          go_wp2
          go_round
          case rel => exact ⟨k + 1, m + 1, by omega, by go_num, by go_num, by omega, HR.out⟩
          case measure => simp [intOf]; omega
    · obtain rfl : k = n := by omega
      have HT := Lib.hid (show targR ls 0 q.data.toList = none by rw [hr.out, List.drop_of_length_le (by omega)]; rfl)
      go_wp2
      go_ret2
      rw [HT.out]
      exact ⟨rfl, rfl⟩
end Go.Proofs.YtlkeacekdmjafaaDoor
