/- The document's own reading (respiteref05): number. -/
import Derived.Test.YthcogkcjmhjjmaaDoorAsM
namespace Go.Proofs.YthcogkcjmhjjmaaDoor
open Go.ChangeShapes Go.WideShapes Go.ChangeAt Go.RowKit
open Gen

def numV (o : Option Int) : Value := .tuple #[.int .i64 (o.getD 0), .bool o.isSome]
/-- the same, of what stands behind the sign -/
def numQ (b : Bool) (t : Bs) : Option Int :=
  if t.length < 1 ∨ 10 < t.length ∨ ((t.getD 0 0).toNat = 48 ∧ (1 < t.length ∨ b = true)) then none
  else if t.all digB = false then none
  else if 1000000000 < valF 0 t then none
  else some (if b = true then -(valF 0 t : Int) else (valF 0 t : Int))
theorem numR_yes {l : Bs} (h : (l.getD 0 0).toNat = 45) : numR l = numQ true (l.drop 1) := by
  unfold numR numQ
  rw [show bodyN l = l.drop 1 from if_pos h]
  simp only [h, if_true]
theorem numR_not {l : Bs} (h : (l.getD 0 0).toNat ≠ 45) : numR l = numQ false l := by
  unfold numR numQ
  rw [show bodyN l = l from if_neg h]
  have h' : ((l.getD 0 0).toNat = 45) = False := eq_false h
  simp only [h', Bool.false_eq_true]
theorem numQ_no {b : Bool} {t : Bs} (h : t.length < 1 ∨ 10 < t.length ∨ ((t.getD 0 0).toNat = 48 ∧ (1 < t.length ∨ b = true))) : numQ b t = none := by rw [numQ, if_pos h]
theorem numQ_dig {b : Bool} {t : Bs} {i : Nat} (hi : i < t.length) (h : digB (t.getD i 0) = false) : numQ b t = none := by
  have : t.all digB = false := by
    rw [← Bool.not_eq_true, List.all_eq_true]
    intro q
    rw [List.getD_eq_getElem?_getD, List.getElem?_eq_getElem hi] at h
    have := q _ (List.getElem_mem hi)
    rw [Option.getD_some] at h
    rw [h] at this
    cases this
  rw [numQ, if_pos this]
  simp
theorem numQ_big {b : Bool} {t : Bs} (h : 1000000000 < valF 0 t) : numQ b t = none := by
  rw [numQ, if_pos h]
  simp
theorem numQ_ok {b : Bool} {t : Bs} (h : ¬ (t.length < 1 ∨ 10 < t.length ∨ ((t.getD 0 0).toNat = 48 ∧ (1 < t.length ∨ b = true)))) (hd : ∀ i, i < t.length → digB (t.getD i 0) = true) (hv : valF 0 t ≤ 1000000000) : numQ b t = some (if b = true then -(valF 0 t : Int) else (valF 0 t : Int)) := by
  have : t.all digB = true := by
    rw [List.all_eq_true]
    intro x hx
    obtain ⟨i, hi, rfl⟩ := List.mem_iff_getElem.1 hx
    have := hd i hi
    rwa [List.getD_eq_getElem?_getD, List.getElem?_eq_getElem hi] at this
  rw [numQ, if_neg h, this, if_neg (by decide), if_neg (by omega)]
theorem take_snoc (l : Bs) (k : Nat) (h : k < l.length) : l.take (k + 1) = l.take k ++ [l.getD k 0] := by
  rw [List.take_add_one, List.getD_eq_getElem?_getD, List.getElem?_eq_getElem h]
  rfl
/-- what the loop has read -/
def Dg (t : Bs) (k N : Nat) : Prop := N = valF 0 (t.take k) ∧ N < 10 ^ k ∧ ∀ i, i < k → digB (t.getD i 0) = true
theorem dg_zero (t : Bs) : Dg t 0 0 := ⟨by simp [valF], by simp, fun i h => by omega⟩
theorem dg_step {t : Bs} {k N : Nat} {b : UInt8} (hk : k < t.length) (h : Dg t k N) (hb : t.getD k 0 = b) (hd : 48 ≤ b.toNat ∧ b.toNat ≤ 57) : Dg t (k + 1) (10 * N + (b.toNat - 48)) := by
  obtain ⟨h1, h2, h3⟩ := h
  refine ⟨by rw [take_snoc _ _ hk, valF_snoc, ← h1, hb], by rw [Nat.pow_succ]; omega, fun i hi => ?_⟩
  by_cases h4 : i < k
  · exact h3 i h4
  · obtain rfl : i = k := by omega
    rw [hb]
    simpa [digB] using hd
theorem dg_small {t : Bs} {k N : Nat} (h : Dg t k N) (hk : k < 10) : N ≤ 999999999 := by
  have h1 : 10 ^ k ≤ 10 ^ 9 := Nat.pow_le_pow_right (by decide) (by omega)
  have h2 := h.2.1
  have : (10 : Nat) ^ 9 = 1000000000 := by decide
  omega
theorem dg_max {t : Bs} {k N : Nat} (h : Dg t k N) (hk : k ≤ 10) : N ≤ 9999999999 := by
  have h1 : 10 ^ k ≤ 10 ^ 10 := Nat.pow_le_pow_right (by decide) (by omega)
  have h2 := h.2.1
  have : (10 : Nat) ^ 10 = 10000000000 := by decide
  omega
theorem ext_data (s : ByteArray) : (s.extract 1 s.size).data.toList = s.data.toList.drop 1 := by
  have hl := bytes_size s
  have h : (s.extract 1 s.size).data.toList = (s.data.toList.drop 1).take (s.size - 1) := by simp
  rw [h, List.take_of_length_le (by rw [List.length_drop]; omega)]
set_option maxHeartbeats 1000000 in
theorem refNumber_any (s : ByteArray) (w : World) (hs : s.size ≤ 9223372036854775807) : Calls Tryd.prog 65 #[.string s] w fun e w' => e = .returned (numV (numR s.data.toList)) ∧ w' = w := by
  have hl := bytes_size s
  by_cases h0 : s.size = 0
  · have k0 : ¬ (0 : Int) < s.size := by omega
    have k1 : (s.size : Int) < 1 := by omega
    have e : s.data.toList = [] := List.length_eq_zero_iff.1 (by omega)
    have HE := Lib.hid (show numR s.data.toList = none by rw [e]; rfl)
    clear h0 hl e
    go_enter Tryd.func65, Tryd.ntmps65
    go_wp2
    go_ret2
    rw [HE.out]
    exact ⟨rfl, rfl⟩
  · have k0 : (0 : Int) < s.size := by omega
    have i2 : 0 < s.size := by omega
    have i5 := bytes_at s 0 i2
    by_cases hb : s[0].toNat = 45
    · have k1 : ((s[0].toNat : Int) == 45) = true := by simp; omega
      have k2 : (s.size : Int) ≤ 9223372036854775807 := by omega
      have k3 : (1 : Int) ≤ s.size := by omega
      obtain ⟨T, hT⟩ : ∃ T, s.extract 1 s.size = T := ⟨_, rfl⟩
      have hTl : s.data.toList.drop 1 = T.data.toList := by rw [← hT, ext_data]
      have hTs : T.size = s.size - 1 := by rw [← hT]; simp
      have HR := Lib.hid (numR_yes (l := s.data.toList) (by rw [← i5]; exact hb))
      rw [hTl] at HR
      have HTL := Lib.hid (bytes_size T)
      have HTS := Lib.hid hTs
      have HNone := Lib.hid (show (T.size < 1 ∨ 10 < T.size) → numR s.data.toList = none by
        intro q; rw [HR.out]; exact numQ_no (by rw [← HTL.out]; omega))
      have HZero := Lib.hid (show ∀ h : 0 < T.size, ((T[0]'h).toNat : Int) = 48 → numR s.data.toList = none by
        intro h q; rw [HR.out]; exact numQ_no (.inr (.inr ⟨by rw [← bytes_at T 0 h]; omega, .inr rfl⟩)))
      clear h0 hl i5 hb hTl hTs
      go_enter Tryd.func65, Tryd.ntmps65
      go_wp2
      all_goals
        first
          | (go_ret2; rw [HNone.out (by omega)]; exact ⟨rfl, rfl⟩)
          | (go_ret2; rw [HZero.out _ ‹_›]; exact ⟨rfl, rfl⟩)
          | skip
      have hTz : ¬ (T.size < 1 ∨ 10 < T.size ∨ ((T.data.toList.getD 0 0).toNat = 48 ∧ (1 < T.size ∨ true = true))) := by
        rintro (q | q | ⟨q, -⟩)
        · omega
        · omega
        · rw [← bytes_at T 0 (by omega)] at q; omega
      have ht10 : T.size ≤ 10 := by omega
      go_loop [5, 6] (fun n i => ∃ k N : Nat, k ≤ T.size ∧ i = .int .i64 k ∧ n = .int .i64 N ∧ Hid (Dg T.data.toList k N)) (fun _ i => T.size - (intOf i).toNat)
      case atStart => exact ⟨0, 0, by omega, rfl, rfl, dg_zero _⟩
      case round =>
        obtain ⟨k, N, hk, rfl, rfl, ho⟩ := hrel
        by_cases hlt : k < T.size
        · have j1 : (k : Int) < T.size := by omega
          have j2 : (0 : Int) ≤ k := by omega
          have I6 := Lib.hid (bytes_at T k hlt)
          have hN := dg_small ho.out (by omega)
          have n1 : (0 : Int) ≤ N := by omega
          have n2 : (N : Int) ≤ 999999999 := by omega
          obtain ⟨b, hb⟩ : ∃ b, T[k] = b := ⟨_, rfl⟩
          rw [hb] at I6
          by_cases hd : 48 ≤ b.toNat ∧ b.toNat ≤ 57
          · have HST := Lib.hid (dg_step (by rw [← HTL.out]; exact hlt) ho.out I6.out.symm hd)
            have q1 : ¬ (T[k].toNat : Int) < 48 := by rw [hb]; omega
            have q2 : ¬ 57 < (T[k].toNat : Int) := by rw [hb]; omega
            have HB := Lib.hid hb
            have HD := Lib.hid hd
            clear hd hb hN
            go_wp2
            go_round
            case rel => exact ⟨k + 1, 10 * N + (b.toNat - 48), by omega, by go_num, by rw [HB.out]; have := HD.out; go_num, HST.out⟩
            case measure => simp [intOf]; omega
          · have HOK := Lib.hid (show digB (T.data.toList.getD k 0) = false by rw [← I6.out]; simpa [digB] using hd)
            have q : (T[k].toNat : Int) < 48 ∨ (¬ (T[k].toNat : Int) < 48 ∧ 57 < (T[k].toNat : Int)) := by rw [hb]; omega
            clear hd hb hN
            rcases q with q | ⟨q, q'⟩
            all_goals
              go_wp2
              go_ret2
              rw [HR.out, numQ_dig (by rw [← HTL.out]; exact hlt) HOK.out]
              exact ⟨rfl, rfl⟩
        · obtain rfl : k = T.size := by omega
          have hNt := ho.out.1
          rw [HTL.out, List.take_length] at hNt
          have hN := dg_max ho.out ht10
          by_cases hbig : 1000000000 < N
          · have n2 : (1000000000 : Int) < N := by omega
            have HE := Lib.hid (show numR s.data.toList = none by rw [HR.out]; exact numQ_big (by rw [← hNt]; exact hbig))
            clear hNt hN hbig
            go_wp2
            go_ret2
            rw [HE.out]
            exact ⟨rfl, rfl⟩
          · have n2 : ¬ (1000000000 : Int) < N := by omega
            have n3 : (N : Int) ≤ 1000000000 := by omega
            have HE := Lib.hid (show numR s.data.toList = some (-(N : Int)) by
              rw [HR.out, numQ_ok (by rw [← HTL.out]; exact hTz) (fun i hi => ho.out.2.2 i (by rw [HTL.out]; exact hi)) (by rw [← hNt]; omega), ← hNt]; simp)
            clear hNt hN hbig
            go_wp2
            go_ret2
            rw [HE.out]
            exact ⟨by simp [numV], rfl⟩
    · have k1 : ((s[0].toNat : Int) == 45) = false := by simp; omega
      have HR := Lib.hid (numR_not (l := s.data.toList) (by rw [← i5]; exact hb))
      have HTL := Lib.hid (bytes_size s)
      have HNone := Lib.hid (show (s.size < 1 ∨ 10 < s.size) → numR s.data.toList = none by
        intro q; rw [HR.out]; exact numQ_no (by rw [← HTL.out]; omega))
      have HZero := Lib.hid (show ((s[0]'i2).toNat : Int) = 48 → (1 : Int) < s.size → numR s.data.toList = none by
        intro q q2; rw [HR.out]; exact numQ_no (.inr (.inr ⟨by rw [← i5]; omega, .inl (by rw [← HTL.out]; omega)⟩)))
      clear h0 hl i5 hb
      go_enter Tryd.func65, Tryd.ntmps65
      go_wp2
      all_goals
        first
          | (go_ret2; rw [HNone.out (by omega)]; exact ⟨rfl, rfl⟩)
          | (go_ret2; rw [HZero.out ‹_› ‹_›]; exact ⟨rfl, rfl⟩)
          | skip
      all_goals
        have hTz : ¬ (s.size < 1 ∨ 10 < s.size ∨ ((s.data.toList.getD 0 0).toNat = 48 ∧ (1 < s.size ∨ false = true))) := by
          rintro (q | q | ⟨q, q2 | q2⟩)
          · omega
          · omega
          · rw [← bytes_at s 0 (by omega)] at q; omega
          · cases q2
        have ht10 : s.size ≤ 10 := by omega
        go_loop [5, 6] (fun n i => ∃ k N : Nat, k ≤ s.size ∧ i = .int .i64 k ∧ n = .int .i64 N ∧ Hid (Dg s.data.toList k N)) (fun _ i => s.size - (intOf i).toNat)
        case atStart => exact ⟨0, 0, by omega, rfl, rfl, dg_zero _⟩
        case round =>
          obtain ⟨k, N, hk, rfl, rfl, ho⟩ := hrel
          by_cases hlt : k < s.size
          · have j1 : (k : Int) < s.size := by omega
            have j2 : (0 : Int) ≤ k := by omega
            have I6 := Lib.hid (bytes_at s k hlt)
            have hN := dg_small ho.out (by omega)
            have n1 : (0 : Int) ≤ N := by omega
            have n2 : (N : Int) ≤ 999999999 := by omega
            obtain ⟨b, hb⟩ : ∃ b, s[k] = b := ⟨_, rfl⟩
            rw [hb] at I6
            by_cases hd : 48 ≤ b.toNat ∧ b.toNat ≤ 57
            · have HST := Lib.hid (dg_step (by rw [← HTL.out]; exact hlt) ho.out I6.out.symm hd)
              have q1 : ¬ (s[k].toNat : Int) < 48 := by rw [hb]; omega
              have q2 : ¬ 57 < (s[k].toNat : Int) := by rw [hb]; omega
              have HB := Lib.hid hb
              have HD := Lib.hid hd
              clear hd hb hN
              go_wp2
              go_round
              case rel => exact ⟨k + 1, 10 * N + (b.toNat - 48), by omega, by go_num, by rw [HB.out]; have := HD.out; go_num, HST.out⟩
              case measure => simp [intOf]; omega
            · have HOK := Lib.hid (show digB (s.data.toList.getD k 0) = false by rw [← I6.out]; simpa [digB] using hd)
              have q : (s[k].toNat : Int) < 48 ∨ (¬ (s[k].toNat : Int) < 48 ∧ 57 < (s[k].toNat : Int)) := by rw [hb]; omega
              clear hd hb hN
              rcases q with q | ⟨q, q'⟩
              all_goals
                go_wp2
                go_ret2
                rw [HR.out, numQ_dig (by rw [← HTL.out]; exact hlt) HOK.out]
                exact ⟨rfl, rfl⟩
          · obtain rfl : k = s.size := by omega
            have hNt := ho.out.1
            rw [HTL.out, List.take_length] at hNt
            have hN := dg_max ho.out ht10
            by_cases hbig : 1000000000 < N
            · have n2 : (1000000000 : Int) < N := by omega
              have HE := Lib.hid (show numR s.data.toList = none by rw [HR.out]; exact numQ_big (by rw [← hNt]; exact hbig))
              clear hNt hN hbig
              go_wp2
              go_ret2
              rw [HE.out]
              exact ⟨rfl, rfl⟩
            · have n2 : ¬ (1000000000 : Int) < N := by omega
              have n3 : (N : Int) ≤ 1000000000 := by omega
              have HE := Lib.hid (show numR s.data.toList = some ((N : Int)) by
                rw [HR.out, numQ_ok (by rw [← HTL.out]; exact hTz) (fun i hi => ho.out.2.2 i (by rw [HTL.out]; exact hi)) (by rw [← hNt]; omega), ← hNt]; simp)
              clear hNt hN hbig
              go_wp2
              go_ret2
              rw [HE.out]
              exact ⟨by simp [numV], rfl⟩
end Go.Proofs.YthcogkcjmhjjmaaDoor
