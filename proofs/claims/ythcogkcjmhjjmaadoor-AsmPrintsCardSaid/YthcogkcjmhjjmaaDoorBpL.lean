/- The walks of AsmPrints and AsmBack. -/
import Derived.Test.YthcogkcjmhjjmaaDoorBpK
import Derived.Test.YthcogkcjmhjjmaaDoorAsV
namespace Go.Proofs.YthcogkcjmhjjmaaDoor
open Go.ChangeShapes Go.WideShapes Go.ChangeAt Go.RowKit
open Gen

set_option maxRecDepth 100000 in
set_option maxHeartbeats 8000000 in
theorem AsmPrints_walk (a : Option Addr) (n c : Nat) (cs : List Ins) (w : World) (hn : n ≤ c) (hc : c ≤ 9223372036854775807) (h0 : a = none → c = 0) (S : Vs repIns Any w a n cs) (G : Glob w) :
    Calls Tryd.prog 4 #[.slice a n c] w (BoolPost true w) := by
  obtain ⟨m, hm⟩ : ∃ m, min n 200 = m := ⟨_, rfl⟩
  have hcd := code_any a n c w hn hc h0
  rw [hm] at hcd
  obtain ⟨ds, hds⟩ : ∃ ds, cs.take m = ds := ⟨_, rfl⟩
  have V := vs_take S m (by omega)
  rw [hds] at V
  have HV := Lib.hid V
  have hm2 : m ≤ 200 := by omega
  clear hm hds S V hn hc h0
  cases hr : rightC ds with
  | false =>
    have HR := Lib.hid hr
    clear hr
    go_enter Tryd.func4, Tryd.ntmps4
    go_wp2_with fail
    refine hcd.mono ?_
    rintro e w0 ⟨rfl, hw0⟩
    cases hw0
    go_wp2_with fail
    refine (asmPrint_no a m c ds w HV.out (by omega) G HR.out).mono ?_
    rintro e w1 ⟨rfl, hb⟩
    have HB1 := Lib.hid (hb)
    clear hb
    go_wp2_with fail
    refine (asmRight_any a m c ds w1 (vs_B HB1.out HV.out) (by omega) (G.B HB1.out)).mono ?_
    rintro e w2 ⟨rfl, hb⟩
    rw [HR.out]
    have HB2 := Lib.hid (below_from HB1.out hb)
    clear hb
    go_wp2_with fail
    refine (refRight5_any a m c ds w2 (vs_B HB2.out HV.out) (by omega)).mono ?_
    rintro e w3 ⟨rfl, hb⟩
    rw [HR.out]
    have HB3 := Lib.hid (below_from HB2.out hb)
    clear hb
    go_wp2_with fail
    refine (alive_k_any w3 (G.B HB3.out)).mono ?_
    rintro e w4 ⟨rfl, hb⟩
    have HB4 := Lib.hid (below_from HB3.out hb)
    clear hb
    go_wp2_with fail
    refine (refRight5_any a m c ds w4 (vs_B HB4.out HV.out) (by omega)).mono ?_
    rintro e w5 ⟨rfl, hb⟩
    rw [HR.out]
    have HB5 := Lib.hid (below_from HB4.out hb)
    clear hb
    go_wp2
    go_ret
    exact boolPost_mk rfl HB5.out
  | true =>
    have HR := Lib.hid hr
    clear hr
    obtain ⟨pl, hpl⟩ : ∃ pl, printL ds = pl := ⟨_, rfl⟩
    have HPL := Lib.hid hpl
    clear hpl
    go_enter Tryd.func4, Tryd.ntmps4
    go_wp2_with fail
    refine hcd.mono ?_
    rintro e w0 ⟨rfl, hw0⟩
    cases hw0
    go_wp2_with fail
    refine (asmPrint_any a m c ds w HV.out G HR.out).mono ?_
    rintro e w1 ⟨rfl, hb⟩
    rw [HPL.out]
    have HB1 := Lib.hid (hb)
    clear hb
    go_wp2_with fail
    refine (asmRight_any a m c ds w1 (vs_B HB1.out HV.out) (by omega) (G.B HB1.out)).mono ?_
    rintro e w2 ⟨rfl, hb⟩
    rw [HR.out]
    have HB2 := Lib.hid (below_from HB1.out hb)
    clear hb
    go_wp2_with fail
    refine (refRight5_any a m c ds w2 (vs_B HB2.out HV.out) (by omega)).mono ?_
    rintro e w3 ⟨rfl, hb⟩
    rw [HR.out]
    have HB3 := Lib.hid (below_from HB2.out hb)
    clear hb
    go_wp2_with fail
    refine (alive_k_any w3 (G.B HB3.out)).mono ?_
    rintro e w4 ⟨rfl, hb⟩
    have HB4 := Lib.hid (below_from HB3.out hb)
    clear hb
    go_wp2_with fail
    refine (refRight5_any a m c ds w4 (vs_B HB4.out HV.out) (by omega)).mono ?_
    rintro e w5 ⟨rfl, hb⟩
    rw [HR.out]
    have HB5 := Lib.hid (below_from HB4.out hb)
    clear hb
    go_wp2_with fail
    refine (refPrint_any a m c ds w5 (vs_B HB5.out HV.out) HR.out).mono ?_
    rintro e w6 ⟨rfl, hb⟩
    rw [HPL.out]
    have HB6 := Lib.hid (below_from HB5.out hb)
    clear hb
    go_wp2
    go_ret
    exact boolPost_mk (by simp) HB6.out
set_option maxRecDepth 100000 in
set_option maxHeartbeats 8000000 in
theorem AsmBack_walk (a : Option Addr) (n c : Nat) (cs : List Ins) (w : World) (hn : n ≤ c) (hc : c ≤ 9223372036854775807) (h0 : a = none → c = 0) (S : Vs repIns Any w a n cs) (G : Glob w) :
    Calls Tryd.prog 6 #[.slice a n c] w (BoolPost true w) := by
  obtain ⟨m, hm⟩ : ∃ m, min n 200 = m := ⟨_, rfl⟩
  have hcd := code_any a n c w hn hc h0
  rw [hm] at hcd
  obtain ⟨ds, hds⟩ : ∃ ds, cs.take m = ds := ⟨_, rfl⟩
  have V := vs_take S m (by omega)
  rw [hds] at V
  have HV := Lib.hid V
  have hm2 : m ≤ 200 := by omega
  clear hm hds S V hn hc h0
  cases hr : rightC ds with
  | false =>
    have HR := Lib.hid hr
    clear hr
    go_enter Tryd.func6, Tryd.ntmps6
    go_wp2_with fail
    refine hcd.mono ?_
    rintro e w0 ⟨rfl, hw0⟩
    cases hw0
    go_wp2_with fail
    refine (asmPrint_no a m c ds w HV.out (by omega) G HR.out).mono ?_
    rintro e w1 ⟨rfl, hb⟩
    have HB1 := Lib.hid (hb)
    clear hb
    go_wp2_with fail
    refine (alive_k_any w1 (G.B HB1.out)).mono ?_
    rintro e w2 ⟨rfl, hb⟩
    have HB2 := Lib.hid (below_from HB1.out hb)
    clear hb
    go_wp2
    go_ret
    exact boolPost_mk rfl HB2.out
  | true =>
    have HR := Lib.hid hr
    clear hr
    have hbk := print_back HR.out (by rw [HV.out.1]; exact hm2)
    have hpl2 := printTo_len HR.out (ds.length + 1) (by rw [HV.out.1]; omega)
    rw [show printTo ds (ds.length + 1) = printL ds from rfl, HV.out.1] at hpl2
    obtain ⟨pl, hpl⟩ : ∃ pl, printL ds = pl := ⟨_, rfl⟩
    rw [hpl] at hbk hpl2
    have HPL := Lib.hid hpl
    have HBK := Lib.hid hbk
    clear hpl hbk
    go_enter Tryd.func6, Tryd.ntmps6
    go_wp2_with fail
    refine hcd.mono ?_
    rintro e w0 ⟨rfl, hw0⟩
    cases hw0
    go_wp2_with fail
    refine (asmPrint_any a m c ds w HV.out G HR.out).mono ?_
    rintro e w1 ⟨rfl, hb⟩
    rw [HPL.out]
    have HB1 := Lib.hid (hb)
    clear hb
    have hpv := Parse_v pl w1 (by omega) (G.B HB1.out)
    rw [HBK.out] at hpv
    go_wp2_with fail
    refine (hpv).mono ?_
    rintro e w2 ⟨pa, pc, rfl, hc1, hc2, V2, hb⟩
    have HV2 := Lib.hid V2
    clear V2 hc1 hc2 hpv
    have HB2 := Lib.hid (below_from HB1.out hb)
    clear hb
    dsimp only
    go_wp2_with fail
    refine (alive_k_any w2 (G.B HB2.out)).mono ?_
    rintro e w3 ⟨rfl, hb⟩
    have HV3 := Lib.hid (vs_B hb HV2.out)
    have HB3 := Lib.hid (below_from HB2.out hb)
    clear hb
    go_wp2_with fail
    refine (refSame_any pa a ds.length m pc c ds ds w3 HV3.out (vs_B HB3.out HV.out) (by rw [HV.out.1]; omega) (by omega)).mono ?_
    rintro e w4 ⟨rfl, hb⟩
    rw [decide_eq_true rfl]
    have HB4 := Lib.hid (below_from HB3.out hb)
    clear hb
    go_wp2
    go_ret
    exact boolPost_mk rfl HB4.out
end Go.Proofs.YthcogkcjmhjjmaaDoor
