/- Contracts of respiteref01: Ints, Same, Right, Count, Load. -/
import Derived.Test.YtnkhgofpdgnemaaRefA
namespace Go.Proofs.Ytnkhgofpdgnemaa
open Go.ChangeShapes Go.WideShapes Go.ChangeAt Go.RowKit

set_option maxHeartbeats 2000000 in
theorem Ints_any (a b : Option Addr) (n c m d : Nat) (xs ys : List Int) (w : World) (S1 : Sl w a n xs) (S2 : Sl w b m ys) (hn : n ≤ 9223372036854775807) :
    Calls Try.prog 20 #[.slice a n c, .slice b m d] w fun e w' => e = .returned (.bool (sameB xs ys)) ∧ Below w.heap.size w w' := by
  have Hx := Lib.hid S1.1
  have Hy := Lib.hid S2.1
  by_cases hl : m = n
  · subst hl
    have q : ((m : Int) != m) = false := by simp
    go_enter Try.func20, Try.ntmps20
    go_wp2
    go_loopw [13] (fun s wr => ∃ k : Nat, k ≤ m ∧ s = .int .i64 k ∧ Hid (SameTo xs ys k) ∧ Below w.heap.size w wr) (fun s _ => m - (intOf s).toNat)
    case atStart => exact ⟨0, by omega, rfl, by intro j hj; omega, Below.refl _ _⟩
    case round =>
      obtain ⟨k, hk, rfl, hs, hb⟩ := hrel
      by_cases hlt : k < m
      · obtain ⟨b1, o1, rfl, R1⟩ := S1.2.resolve_left (by omega)
        obtain ⟨b2, o2, rfl, R2⟩ := S2.2.resolve_left (by omega)
        have g1 := cellB hb (R1 k (by rw [Hx.out]; exact hlt))
        have g2 := cellB hb (R2 k (by rw [Hy.out]; exact hlt))
        generalize hxv : xs.getD k 0 = x at g1
        generalize hyv : ys.getD k 0 = y at g2
        have HX := Lib.hid hxv
        have HY := Lib.hid hyv
        have HB := Lib.hid hb
        have i1 : (0 : Int) ≤ k := by omega
        have i2 : (k : Int) < m := by omega
        clear hxv hyv hb
        by_cases e : x = y
        · have HS := Lib.hid (sameTo_succ hs.out HX.out HY.out e)
          subst e
          have q2 : (x != x) = false := by simp
          go_wp2
          go_quiet (fail)
          go_wp2
          go_roundw
          case rel => exact ⟨k + 1, by omega, by go_num, HS.out, below_drewN HB.out _⟩
          case measure => simp [intOf]; omega
        · have HF := Lib.hid (sameB_at (xs := xs) (ys := ys) k (by rw [HX.out, HY.out]; exact e))
          have q2 : (x != y) = true := by simpa using e
          clear e
          go_wp2
          go_quiet (fail)
          go_wp2
          go_ret
          exact ⟨ret_bool HF.out.symm, below_drewN HB.out _⟩
      · obtain rfl : k = m := by omega
        have HF := Lib.hid (sameB_all (xs := xs) (ys := ys) (by rw [Hx.out, Hy.out]) (by rw [Hx.out]; exact hs.out))
        go_wp2
        go_ret
        exact ⟨ret_bool HF.out.symm, hb⟩
  · have HF := Lib.hid (sameB_len (xs := xs) (ys := ys) (by rw [Hx.out, Hy.out]; omega))
    have q : ((n : Int) != m) = true := by simp; omega
    clear hl
    go_enter Try.func20, Try.ntmps20
    go_wp2
    go_ret
    exact ⟨ret_bool HF.out.symm, Below.refl _ _⟩

def RightPost (r : Bool) (w : World) (e : Ending) (w' : World) : Prop := e = .returned (.bool r) ∧ Below w.heap.size w w'
theorem rightPost_mk {r s : Bool} {w w' : World} (h : r = s) (hb : Below w.heap.size w w') : RightPost r w (.returned (.bool s)) w' := by subst h; exact ⟨rfl, hb⟩

def CntPost (x : Int) (w : World) (e : Ending) (w' : World) : Prop := e = .returned (.int .i64 x) ∧ Below w.heap.size w w'
end Go.Proofs.Ytnkhgofpdgnemaa
