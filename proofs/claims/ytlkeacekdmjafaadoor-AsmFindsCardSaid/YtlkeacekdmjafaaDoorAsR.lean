/- The document's own reading (respiteref05): operand. -/
import Derived.Test.YtlkeacekdmjafaaDoorAsQ
namespace Go.Proofs.YtlkeacekdmjafaaDoor
open Go.ChangeShapes Go.WideShapes Go.ChangeAt Go.RowKit
open Gen

/-- an operand, of lines -/
def opR (ls : List Bs) (c : Int) (p : Bs) : Int × Int :=
  if c = 114 then regE p else if c = 110 then (match numR p with | some v => (v, 0) | none => (0, 3))
  else if nameB p = false then (0, 3) else (match targR ls 0 p with | some n => ((n : Int), 0) | none => (0, 11))
def pairV (r : Int × Int) : Value := .tuple #[.int .i64 r.1, .int .i64 r.2]
set_option maxHeartbeats 2000000 in
theorem refOperand_any (a : Option Addr) (n c : Nat) (ls : List Bs) (cz : Int) (s : ByteArray) (w : World) (V : Vs repS Any w a n ls) (hn : n ≤ 50001) (hl : ∀ x ∈ ls, x.length ≤ 50000) (hq : s.size ≤ 50000) :
    Calls Tryd.prog 55 #[.slice a n c, .int .u8 cz, .string s] w fun e w' => e = .returned (pairV (opR ls cz s.data.toList)) ∧ w' = w := by
  by_cases h1 : cz = 114
  · subst h1
    have HO := Lib.hid (show opR ls 114 s.data.toList = regE s.data.toList from rfl)
    by_cases h2 : s.size = 2
    · have e0 := bytes_at s 0 (by omega)
      have e1 := bytes_at s 1 (by omega)
      have h3 : ((s.size : Int) == 2) = true := by simp; omega
      have h6 : (s.size : Int) = 2 := by omega
      have h4 : (1 : Int) < s.size := by omega
      have h5 : (0 : Int) < s.size := by omega
      by_cases h : s[0].toNat = 114 ∧ 48 ≤ s[1].toNat ∧ s[1].toNat ≤ 55
      · have HE := Lib.hid (show regE s.data.toList = ((s[1].toNat : Int) - 48, 0) by have hl := bytes_size s; rw [regE, ← e0, ← e1, if_pos ⟨by omega, h⟩])
        obtain ⟨k1, k3, k4⟩ := h
        have i1 : (s[0].toNat : Int) = 114 := by omega
        have i2 : ¬ ((s[1].toNat : Int) < 48) := by omega
        have i3 : ¬ (55 < (s[1].toNat : Int)) := by omega
        clear k1 k3 k4 e0 e1
        go_enter Tryd.func55, Tryd.ntmps55
        go_wp2
        all_goals
          first
            | (exfalso; omega)
            | (go_ret2; rw [HO.out, HE.out]; exact ⟨rfl, rfl⟩)
      · have HE := Lib.hid (show regE s.data.toList = (0, 3) by rw [regE, ← e0, ← e1, if_neg]; intro hh; exact h hh.2)
        have hc : ¬ (s[0].toNat : Int) = 114 ∨ (s[0].toNat : Int) = 114 ∧ (s[1].toNat : Int) < 48 ∨ (s[0].toNat : Int) = 114 ∧ ¬ (s[1].toNat : Int) < 48 ∧ 55 < (s[1].toNat : Int) := by
          omega
        clear h e0 e1
        rcases hc with i1 | ⟨i1, i2⟩ | ⟨i1, i2, i3⟩
        all_goals
          go_enter Tryd.func55, Tryd.ntmps55
          go_wp2
          all_goals
            first
              | (exfalso; omega)
              | (go_ret2; rw [HO.out, HE.out]; exact ⟨rfl, rfl⟩)
    · have h3 : ((s.size : Int) == 2) = false := by simp; omega
      have h6 : ¬ (s.size : Int) = 2 := by omega
      have HE := Lib.hid (show regE s.data.toList = (0, 3) by have hl := bytes_size s; rw [regE, if_neg (fun q => h2 (by omega))])
      clear h2
      go_enter Tryd.func55, Tryd.ntmps55
      go_wp2
      all_goals
        first
          | (exfalso; omega)
          | (go_ret2; rw [HO.out, HE.out]; exact ⟨rfl, rfl⟩)
  · have g1 : (cz == 114) = false := by simpa using h1
    by_cases h2 : cz = 110
    · subst h2
      have hnu := refNumber_any s w (by omega)
      cases ho : numR s.data.toList with
      | none =>
        have HO := Lib.hid (show opR ls 110 s.data.toList = (0, 3) by simp [opR, ho])
        rw [ho] at hnu
        clear ho
        go_enter Tryd.func55, Tryd.ntmps55
        go_wp2_with fail
        with_reducible refine hnu.mono ?_
        clear hnu
        rintro e w' ⟨rfl, rfl⟩
        unfold numV
        dsimp only [Option.getD, Option.isSome]
        go_wp2
        go_ret2
        rw [HO.out]
        exact ⟨rfl, rfl⟩
      | some v =>
        have HO := Lib.hid (show opR ls 110 s.data.toList = (v, 0) by simp [opR, ho])
        rw [ho] at hnu
        clear ho
        go_enter Tryd.func55, Tryd.ntmps55
        go_wp2_with fail
        with_reducible refine hnu.mono ?_
        clear hnu
        rintro e w' ⟨rfl, rfl⟩
        unfold numV
        dsimp only [Option.getD, Option.isSome]
        go_wp2
        go_ret2
        rw [HO.out]
        exact ⟨rfl, rfl⟩
    · have g2 : (cz == 110) = false := by simpa using h2
      have hna := refIsName_any s w
      have hta := refTarget_any a n c ls s w V hn hl hq
      cases hb : nameB s.data.toList with
      | false =>
        have HO := Lib.hid (show opR ls cz s.data.toList = (0, 3) by rw [opR, if_neg h1, if_neg h2, if_pos hb])
        rw [hb] at hna
        clear hb h1 h2
        go_enter Tryd.func55, Tryd.ntmps55
        go_wp2_with fail
        with_reducible refine hna.mono ?_
        clear hna hta
        rintro e w' ⟨rfl, rfl⟩
        go_wp2
        go_ret2
        rw [HO.out]
        exact ⟨rfl, rfl⟩
      | true =>
        rw [hb] at hna
        cases ht : targR ls 0 s.data.toList with
        | none =>
          have HO := Lib.hid (show opR ls cz s.data.toList = (0, 11) by rw [opR, if_neg h1, if_neg h2, if_neg (by rw [hb]; decide), ht])
          rw [ht] at hta
          clear hb h1 h2 ht
          go_enter Tryd.func55, Tryd.ntmps55
          go_wp2_with fail
          with_reducible refine hna.mono ?_
          clear hna
          rintro e w' ⟨rfl, hw⟩
          cases hw
          go_wp2_with fail
          with_reducible refine hta.mono ?_
          clear hta
          rintro e w' ⟨rfl, hw⟩
          cases hw
          unfold targV
          dsimp only [Option.getD, Option.isSome]
          go_wp2
          go_ret2
          rw [HO.out]
          exact ⟨rfl, rfl⟩
        | some v =>
          have HO := Lib.hid (show opR ls cz s.data.toList = ((v : Int), 0) by rw [opR, if_neg h1, if_neg h2, if_neg (by rw [hb]; decide), ht])
          rw [ht] at hta
          clear hb h1 h2 ht
          go_enter Tryd.func55, Tryd.ntmps55
          go_wp2_with fail
          with_reducible refine hna.mono ?_
          clear hna
          rintro e w' ⟨rfl, hw⟩
          cases hw
          go_wp2_with fail
          with_reducible refine hta.mono ?_
          clear hta
          rintro e w' ⟨rfl, hw⟩
          cases hw
          unfold targV
          dsimp only [Option.getD, Option.isSome]
          go_wp2
          go_ret2
          rw [HO.out]
          exact ⟨rfl, rfl⟩
end Go.Proofs.YtlkeacekdmjafaaDoor
