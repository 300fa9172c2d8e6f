/- respiteref05: isTarget; the statements' own code. -/
import Derived.Test.YthcogkcjmhjjmaaDoorBpE
import Derived.Test.YthcogkcjmhjjmaaDoorMathX
namespace Go.Proofs.YthcogkcjmhjjmaaDoor
open Go.ChangeShapes Go.WideShapes Go.ChangeAt Go.RowKit
open Gen

def AimTo (c : List Ins) (m : Int) (k : Nat) : Prop := ∀ q i, q < k → c[q]? = some i → aimI i m = false
theorem aimTo_succ {c : List Ins} {m : Int} {k : Nat} {i : Ins} (h : AimTo c m k) (hi : c[k]? = some i) (h1 : aimI i m = false) : AimTo c m (k + 1) := fun q j hq hj => by
  rcases Nat.lt_succ_iff_lt_or_eq.1 hq with h2 | rfl
  · exact h q j h2 hj
  · rw [hi] at hj; injection hj with hj; subst hj; exact h1
theorem aimB_no {c : List Ins} {m : Int} {n : Nat} (hl : c.length = n) (h : AimTo c m n) : aimB c m = false := by
  cases hb : aimB c m with
  | false => rfl
  | true =>
    simp only [aimB, List.any_eq_true] at hb
    obtain ⟨i, hi, h1⟩ := hb
    obtain ⟨q, hq, rfl⟩ := List.mem_iff_getElem.1 hi
    rw [h q _ (by omega) (by simp [hq])] at h1; cases h1
theorem aimB_yes {c : List Ins} {m : Int} {k : Nat} {i : Ins} (hi : c[k]? = some i) (h : aimI i m = true) : aimB c m = true := by
  simp only [aimB, List.any_eq_true]
  exact ⟨i, List.mem_of_getElem? hi, h⟩
theorem aimI_no {i : Ins} {m : Int} {sg : Bs} (hs : sgOf i = sg) (h : ∀ q, q < sg.length → ¬ ((sg.getD q 0).toNat = 116 ∧ opnd i q = m)) : aimI i m = false := by
  cases hb : aimI i m with
  | false => rfl
  | true =>
    simp only [aimI, List.any_eq_true, List.mem_range, decide_eq_true_eq, hs] at hb
    obtain ⟨q, hq, h1⟩ := hb
    exact absurd h1 (h q hq)
theorem aimI_at {i : Ins} {m : Int} {sg : Bs} (hs : sgOf i = sg) {q : Nat} (hq : q < sg.length) (h : (sg.getD q 0).toNat = 116 ∧ opnd i q = m) : aimI i m = true := by
  simp only [aimI, List.any_eq_true, List.mem_range, decide_eq_true_eq, hs]
  exact ⟨q, hq, h⟩
def NotTo (i : Ins) (m : Int) (sg : Bs) (j : Nat) : Prop := ∀ q, q < j → ¬ ((sg.getD q 0).toNat = 116 ∧ opnd i q = m)
theorem notTo_succ {i : Ins} {m : Int} {sg : Bs} {j : Nat} (h : NotTo i m sg j) (h1 : ¬ ((sg.getD j 0).toNat = 116 ∧ opnd i j = m)) : NotTo i m sg (j + 1) := fun q hq => by
  rcases Nat.lt_succ_iff_lt_or_eq.1 hq with h2 | rfl
  · exact h q h2
  · exact h1

set_option maxRecDepth 100000 in
set_option maxHeartbeats 4000000 in
theorem refTarget_any (a : Option Addr) (n c : Nat) (cs : List Ins) (m : Int) (w : World) (S : Vs repIns Any w a n cs) (hn : n ≤ 1000) (hr : ∀ i ∈ cs, 0 ≤ i.1 ∧ i.1 < 27) :
    Calls Tryd.prog 37 #[.slice a n c, .int .i64 m] w (BoolPost (aimB cs m) w) := by
  have Hn := Lib.hid S.1
  have HR := Lib.hid hr
  clear hr
  go_enter Tryd.func37, Tryd.ntmps37
  go_wp2
  go_loopw [11] (fun i wr => ∃ k : Nat, k ≤ n ∧ i = .int .i64 k ∧ Hid (AimTo cs m k) ∧ Below w.heap.size w wr) (fun i _ => n - (intOf i).toNat)
  case atStart => exact ⟨0, by omega, rfl, (show AimTo cs m 0 from fun q i hq => by omega), Below.refl _ _⟩
  case round =>
    obtain ⟨k, hk, rfl, hf, hb⟩ := hrel
    obtain ⟨wo, hwo⟩ : ∃ wo : World, wo = wr := ⟨_, rfl⟩
    subst hwo
    by_cases hlt : k < n
    · obtain ⟨b, o, x0, x1, x2, x3, rfl, hx, g0, g1, g2, g3⟩ := ins_of (vs_B hb S) hlt
      have hm : 0 ≤ x0 ∧ x0 < 27 := HR.out _ (List.mem_of_getElem? hx)
      obtain ⟨op, rfl⟩ : ∃ op : Nat, x0 = (op : Int) := ⟨x0.toNat, by omega⟩
      obtain ⟨sg, hsg⟩ : ∃ sg, opSign.getD op [] = sg := ⟨_, rfl⟩
      obtain ⟨hsl, hsc⟩ := signs_ok op (by omega)
      have hk1 := fun w' => refKinds_any op w' (by omega)
      simp only [hsg] at hk1
      rw [hsg] at hsl hsc
      have HSC := Lib.hid hsc
      have HSG := Lib.hid (show sgOf ((op : Int), x1, x2, x3) = sg from hsg)
      obtain ⟨W, hW⟩ : ∃ W, W = wo.alloc (Obj.cells #[.int .i64 op, .int .i64 x1, .int .i64 x2, .int .i64 x3] 39) := ⟨_, rfl⟩
      have X : VarN W wo.heap.size [.int .i64 op, .int .i64 x1, .int .i64 x2, .int .i64 x3] := by rw [hW]; exact varN_new _ _ rfl
      have hB2 : Below w.heap.size w W := by rw [hW]; exact hb.alloc hb.size _
      have HX := Lib.hid hx
      have HXX := Lib.hid X
      have HB2 := Lib.hid hB2
      have HW := Lib.hid hW
      have i1 : (0 : Int) ≤ k := by omega
      have i2 : (k : Int) < n := by omega
      clear hx hb hW X hB2 hm hsg hsc
      go_wp2_with fail
      rw [← HW.out]
      refine (hk1 _).mono ?_
      rintro e w1 ⟨rfl, hb1⟩
      have HBW := Lib.hid hb1
      clear hb1 hk1 g0 g1 g2 g3
      go_wp2
      go_loopw [8] (fun i wr => ∃ j : Nat, j ≤ sg.length ∧ i = .int .i64 j ∧ Hid (NotTo ((op : Int), x1, x2, x3) m sg j) ∧ Hid (Below W.heap.size W wr)) (fun i _ => sg.length - (intOf i).toNat)
      case atStart => exact ⟨0, by omega, rfl, (show NotTo _ m sg 0 from fun q hq => by omega), HBW.out⟩
      case round =>
        clear HBW
        obtain ⟨j, hj, rfl, hno, HBW⟩ := hrel
        by_cases hjl : j < sg.length
        · have HXR := Lib.hid (varN_B HBW.out HXX.out)
          have y0 := (HXR.out 0 _ rfl).1
          have y1 := (HXR.out 1 _ rfl).1
          have y2 := (HXR.out 2 _ rfl).1
          have y3 := (HXR.out 3 _ rfl).1
          clear HXR
          have j1 : (0 : Int) ≤ j := by omega
          have j2 : (j : Int) < (List.length sg : Nat) := by omega
          have hjs : j < (str sg).size := by rw [str_size]; exact hjl
          obtain ⟨ch, hch⟩ : ∃ ch, (sg.getD j 0).toNat = ch := ⟨_, rfl⟩
          have hbt : (str sg)[j].toNat = ch := by rw [bytes_at, str_data]; exact hch
          have hcc := HSC.out j hjl
          rw [hch] at hcc
          rcases hcc with rfl | rfl | rfl
          · have HS := Lib.hid (notTo_succ (i := ((op : Int), x1, x2, x3)) (m := m) hno.out (fun h => by rw [hch] at h; exact absurd h.1 (by decide)))
            clear hno hch y0 y1 y2 y3
            go_wp2
            go_roundw
            case rel => exact ⟨j + 1, by omega, by go_num, HS.out, HBW.out⟩
            case measure => simp [intOf]; omega
          · have HS := Lib.hid (notTo_succ (i := ((op : Int), x1, x2, x3)) (m := m) hno.out (fun h => by rw [hch] at h; exact absurd h.1 (by decide)))
            clear hno hch y0 y1 y2 y3
            go_wp2
            go_roundw
            case rel => exact ⟨j + 1, by omega, by go_num, HS.out, HBW.out⟩
            case measure => simp [intOf]; omega
          · obtain ⟨v, hv⟩ : ∃ v, opnd ((op : Int), x1, x2, x3) j = v := ⟨_, rfl⟩
            have HV := Lib.hid hv
            have HC := Lib.hid hch
            clear hv hch
            by_cases hvm : v = m
            · subst hvm
              have HS := Lib.hid (aimB_yes HX.out (aimI_at HSG.out hjl ⟨HC.out, HV.out⟩))
              clear hno
              go_wp2_with fail
              refine (refOpnd_any ((op : Int), x1, x2, x3) j _ (by omega)).mono ?_
              rintro e w2 ⟨rfl, hb2⟩
              rw [HV.out]
              have HB3 := Lib.hid (below_from HB2.out (below_from HBW.out hb2))
              clear hb2 HBW y0 y1 y2 y3
              go_wp2
              go_ret
              exact boolPost_mk HS.out HB3.out
            · have HS := Lib.hid (notTo_succ hno.out (fun h => hvm (HV.out ▸ h.2)))
              have q : (v == m) = false := by simpa using hvm
              clear hno hvm
              go_wp2_with fail
              refine (refOpnd_any ((op : Int), x1, x2, x3) j _ (by omega)).mono ?_
              rintro e w2 ⟨rfl, hb2⟩
              rw [HV.out]
              have HB3 := Lib.hid (below_from HBW.out hb2)
              clear hb2 HBW y0 y1 y2 y3
              go_wp2
              go_roundw
              case rel => exact ⟨j + 1, by omega, by go_num, HS.out, HB3.out⟩
              case measure => simp [intOf]; omega
        · obtain rfl : j = sg.length := by omega
          have HS := Lib.hid (aimTo_succ hf.out HX.out (aimI_no HSG.out hno.out))
          have HB3 := Lib.hid (below_from HB2.out HBW.out)
          clear hno HBW hf
          go_wp2
          go_roundw
          case rel => exact ⟨k + 1, by omega, by go_num, HS.out, HB3.out⟩
          case measure => simp [intOf]; omega
    · obtain rfl : k = n := by omega
      have HB := Lib.hid hb
      clear hb
      go_wp2
      go_ret
      exact boolPost_mk (aimB_no Hn.out hf.out) HB.out
end Go.Proofs.YthcogkcjmhjjmaaDoor
