/- Contracts of layer 2's own small functions: mem, alive. -/
import Derived.Test.YtocblckhlpihhaaBufB
import Derived.Test.YtocblckhlpihhaaNewB
namespace Go.Proofs.Ytocblckhlpihhaa
open Go.ChangeShapes Go.WideShapes Go.ChangeAt Go.RowKit

theorem mem2_any (a a' : Option Addr) (n c n' c' : Nat) (w : World) (h1 : n ≤ c) (h2 : n' ≤ c') (_h3 : c ≤ 9223372036854775807) (_h4 : c' ≤ 9223372036854775807) :
    Calls Try.prog 17 #[.slice a n c, .slice a' n' c'] w fun e w' => e = .returned (.agg #[.slice a (min n 170) c, .slice a' (min n' 170) c']) ∧ Below w.heap.size w w' := by
  go_enter Try.func17, Try.ntmps17
  go_wp2
  go_region
  have e1 : (if 170 < (n : Int) then 170 else (n : Int)).toNat = min n 170 := by split <;> omega
  have e2 : (if 170 < (n' : Int) then 170 else (n' : Int)).toNat = min n' 170 := by split <;> omega
  generalize (if 170 < (n : Int) then 170 else (n : Int)) = x at e1 ⊢
  generalize (if 170 < (n' : Int) then 170 else (n' : Int)) = y at e2 ⊢
  rw [e1, e2]
  clear e1 e2
  go_wp2
  refine bp_cell ⟨w.heap.size, 0, none⟩ rfl rfl rfl (load_mem _ _ _ _ (by simp; rfl) (by simp; rfl)) ?_
  exact ⟨rfl, by go_grown⟩

set_option maxHeartbeats 4000000 in
theorem alive2_any (w : World) : Calls Try.prog 12 #[] w fun e w' => e = .returned (.bool true) ∧ Below w.heap.size w w' := by
  go_enter Try.func12, Try.ntmps12
  go_wp2_with fail
  refine (Push_any none 0 0 [] 2 1 7 _ (pl_nil _) capOk_nil).mono ?_
  rintro e w1 ⟨a, c, rfl, hc, s1, hb1⟩
  rw [show pushE 0 2 = 0 from rfl]
  have hL : pushL [] 2 (1, 7) = [(1, 7)] := rfl
  rw [hL] at hc s1 ⊢
  rw [show List.length [((1 : Int), (7 : Int))] = 1 from rfl] at hc s1 ⊢
  have HB1 := Lib.hid hb1
  clear hb1 hL
  go_wp2_with fail
  refine (Newest_any a 1 c [(1, 7)] 1 _ s1.pl (by omega)).mono ?_
  rintro e w2 ⟨rfl, hb2⟩
  rw [show newestV [(1, 7)] 1 = 7 from rfl, show newestB [(1, 7)] 1 = true from rfl]
  have s2 := plF_below hb2 s1
  have HB2 := Lib.hid (below_from HB1.out hb2)
  clear hb2 s1 HB1
  go_wp2_with fail
  refine (Pop_any a 1 c [(1, 7)] _ s2.pl hc (by omega)).mono ?_
  rintro e w3 ⟨a', c', rfl, hc', s3, hb3⟩
  rw [show popE [(1, 7)] = 0 from rfl, show firstP [(1, 7)] = (1, 7) from rfl, show (restP [(1, 7)]).length = 0 from rfl]
  have HB3 := Lib.hid (below_from HB2.out hb3)
  have hsz := HB3.out.size
  clear hb3 s2 s3 HB2 hc hc'
  go_wp2
  go_ret
  exact ⟨rfl, HB3.out.alloc hsz _⟩
end Go.Proofs.Ytocblckhlpihhaa
