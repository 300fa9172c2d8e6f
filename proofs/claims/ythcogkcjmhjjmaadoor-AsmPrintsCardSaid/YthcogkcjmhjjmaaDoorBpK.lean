/- Package asm: Print. -/
import Derived.Test.YthcogkcjmhjjmaaDoorBpF
import Derived.Test.YthcogkcjmhjjmaaDoorBpI
import Derived.Test.YthcogkcjmhjjmaaDoorBpJ
import Derived.Test.YthcogkcjmhjjmaaDoorBld
namespace Go.Proofs.YthcogkcjmhjjmaaDoor
open Go.ChangeShapes Go.WideShapes Go.ChangeAt Go.RowKit
open Gen

theorem bldAt_B {B b : Nat} {p : Value} {bs : List Value} {w w' : World} (hb : Below w.heap.size w w') (h : Lib.BuilderAtF 57 5 B b p bs w) : Lib.BuilderAtF 57 5 B b p bs w' := by
  obtain ⟨hB, v, hbk, hown, hne⟩ := h
  refine ⟨hB, v, by rw [hb.block b (Array.getElem?_eq_some_iff.1 hbk).1]; exact hbk, ⟨hown.1, ?_⟩, hne⟩
  rcases hown.2 with h | ⟨g, cap, cur, fz, hv, h1, h2, h3⟩
  · exact .inl h
  · exact .inr ⟨g, cap, cur, fz, hv, h1, by rw [hb.block g (Array.getElem?_eq_some_iff.1 h2).1]; exact h2, h3⟩
theorem bld_B {B b : Nat} {l : List UInt8} {w w' : World} (hb : Below w.heap.size w w') (h : Bld B b l w) : Bld B b l w' := h.elim (fun x => .inl (bldAt_B hb x)) (fun x => .inr (bldAt_B hb x))
theorem cat_2 (a : Bs) : str a ++ (⟨#[58, 10]⟩ : ByteArray) = str (a ++ [58, 10]) := by
  apply ByteArray.ext
  simp
theorem rowB_o {b g : Nat} {l : List Bool} {w w' : World} (ho : Lib.OthersKept 5 (some b) w w') (hne : g ≠ b) (h : RowB w g l) : RowB w' g l :=
  ho g _ h (fun e => hne (Option.some.inj e)) (fun c fz e => by injection e with _ e2; exact absurd e2 (by decide))

set_option maxRecDepth 100000 in
set_option maxHeartbeats 8000000 in
theorem asmPrint_no (a : Option Addr) (n c : Nat) (cs : List Ins) (w : World) (S : Vs repIns Any w a n cs) (hn : n ≤ 9223372036854775807) (G : Glob w) (hr : rightC cs = false) :
    Calls Tryd.prog 14 #[.slice a n c] w fun e w' => e = .returned (.tuple #[.string (str []), .int .i64 1]) ∧ Below w.heap.size w w' := by
  have h0 := asmRight_any a n c cs w S hn G
  rw [hr] at h0
  go_enter Tryd.func14, Tryd.ntmps14
  go_wp2_with fail
  refine h0.mono ?_
  rintro e w1 ⟨rfl, hb1⟩
  have HB1 := Lib.hid hb1
  clear hb1
  go_wp2
  go_ret2
  exact ⟨rfl, HB1.out⟩
set_option maxRecDepth 100000 in
set_option maxHeartbeats 8000000 in
theorem asmPrint_any (a : Option Addr) (n c : Nat) (cs : List Ins) (w : World) (S : Vs repIns Any w a n cs) (G : Glob w) (hr : rightC cs = true) :
    Calls Tryd.prog 14 #[.slice a n c] w fun e w' => e = .returned (.tuple #[.string (str (printL cs)), .int .i64 0]) ∧ Below w.heap.size w w' := by
  have Hn := Lib.hid S.1
  have HRT := Lib.hid hr
  obtain ⟨hn, hm⟩ := rightC_at' hr
  rw [Hn.out] at hn hm
  have HM := Lib.hid hm
  have h0 := asmRight_any a n c cs w S (by omega) G
  rw [hr] at h0
  clear hr hm
  go_enter Tryd.func14, Tryd.ntmps14
  go_wp2_with fail
  refine h0.mono ?_
  rintro e w1 ⟨rfl, hb1⟩
  have HB1 := Lib.hid hb1
  clear hb1 h0
  go_wp2_with fail
  refine (kinds_any none _).mono ?_
  rintro e w2 ⟨km, rfl, -, hk2, hb2⟩
  have HBW := Lib.hid (below_from HB1.out hb2)
  have K2 := Lib.hid hk2
  clear hb2 hk2
  obtain ⟨W, hW⟩ : ∃ W, W = w2.alloc (Obj.cells #[.pointer none, .slice none 0 0] 57) := ⟨_, rfl⟩
  have HD0 := Lib.hid (show Bld w2.heap.size w2.heap.size [] W by rw [hW]; exact Lib.IsBuilderF.of (Lib.fresh_isBuilder _ _ w2))
  have HS0 := Lib.hid (show W.heap.size = w2.heap.size + 1 by rw [hW]; simp)
  have HBV := Lib.hid (show Below w2.heap.size w2 W by rw [hW]; go_grown)
  have HW := Lib.hid hW
  have haim := aimed_any a n c cs W (vs_B (HBW.out.trans (HBV.out.mono HBW.out.size)) S) HRT.out (G.B (HBW.out.trans (HBV.out.mono HBW.out.size)))
  clear hW
  go_wp2_with fail
  rw [← HW.out]
  refine haim.mono ?_
  rintro e w3 ⟨rfl, hb3, l, hR3, hl, hat⟩
  obtain ⟨gr, hgr⟩ : ∃ gr, W.heap.size = gr := ⟨_, rfl⟩
  rw [hgr] at hR3 ⊢
  have HGR := Lib.hid (show gr ≠ w2.heap.size by have := HS0.out; omega)
  have HR3 := Lib.hid hR3
  have HB3 := Lib.hid (show Below w2.heap.size w2 w3 from HBV.out.trans (hb3.mono HBV.out.size))
  have HD3 := Lib.hid (bld_B hb3 HD0.out)
  have HAT := Lib.hid hat
  have HL := Lib.hid hl
  clear hb3 hR3 hgr hat hl haim HW HS0 HBV HD0
  go_wp2
  go_loopw [15] (fun i wr => ∃ k : Nat, k ≤ n + 1 ∧ i = .int .i64 k ∧ Hid (Below w2.heap.size w2 wr) ∧ Hid (Bld w2.heap.size w2.heap.size (printTo cs k) wr) ∧ Hid (RowB wr gr l)) (fun i _ => n + 1 - (intOf i).toNat)
  case atStart => exact ⟨0, Nat.zero_le _, rfl, HB3.out, HD3.out, HR3.out⟩
  case round =>
    clear HB3 HD3 HR3
    obtain ⟨k, hk, rfl, HB2, HD, HR⟩ := hrel
    obtain ⟨ww, hww⟩ : ∃ ww : World, ww = wr := ⟨_, rfl⟩
    subst hww
    have hgr := HGR.out
    by_cases hlt : k < n + 1
    · have i2 : (k : Int) < (n : Int) + 1 := by omega
      have i3 : (k : Int) < ((n + 1 : Nat) : Int) := by omega
      have i1 : (0 : Int) ≤ k := by omega
      obtain ⟨c1, -⟩ := rowB_cell HR.out (m := k) (by rw [HL.out]; omega)
      rw [HAT.out k (by omega)] at c1
      have HBA := Lib.hid (show Below w.heap.size w ww from HBW.out.trans (HB2.out.mono HBW.out.size))
      have HPL := Lib.hid (printTo_len HRT.out k (by omega))
      have hlp := labP_len cs k (by omega)
      obtain ⟨q, hq⟩ : ∃ q, q = printTo cs k ++ labP cs k := ⟨_, rfl⟩
      have HQL := Lib.hid (show q.length ≤ 58100 by rw [hq, List.length_append]; have := HPL.out; omega)
      have HQ := Lib.hid hq
      clear hq
      cases hab : aimB cs k with
      | true =>
        rw [hab] at c1
        have HLP := Lib.hid (show str (108 :: Lib.itoa k) ++ (⟨#[58, 10]⟩ : ByteArray) = str (labP cs k) by rw [labP, if_pos hab]; exact cat_2 _)
        have HLL := Lib.hid hlp
        have hla := label_any (k : Int) ww (by omega) (by omega) (G.B HBA.out)
        have hil := itoa_lenN k (by omega)
        have l0 : ¬ 9223372036854775807 < (Lib.itoa (k : Int)).length + 1 + 2 := by omega
        obtain ⟨ik, hik⟩ : ∃ ik, Lib.itoa (k : Int) = ik := ⟨_, rfl⟩
        rw [hik] at hla l0 HLP
        clear hil hik hlp hab
        go_wp2_with fail
        refine hla.mono ?_
        rintro e w4 ⟨rfl, hb4⟩
        have HB4 := Lib.hid (show Below w2.heap.size w2 w4 from HB2.out.trans (hb4.mono HB2.out.size))
        have HD4 := Lib.hid (bld_B hb4 HD.out)
        have HR4 := Lib.hid (rowB_B hb4 HR.out)
        clear hb4 hla c1 HBA HB2 HD HR
        go_wp2_with fail
        rw [HLP.out]
        refine (bldWrite_any _ _ _ (labP cs k) _ HD4.out (by have := HPL.out; have := HLL.out; omega) HB4.out.size).mono ?_
        rintro e w7 ⟨rfl, hd6, hb6, ho6⟩
        rw [← HQ.out] at hd6
        obtain ⟨ww, hww⟩ : ∃ ww : World, ww = w7 := ⟨_, rfl⟩
        subst hww
        have HB2 := Lib.hid (show Below w2.heap.size w2 ww from HB4.out.trans hb6)
        have HD := Lib.hid hd6
        have HR := Lib.hid (rowB_o ho6 hgr HR4.out)
        have HBA := Lib.hid (show Below w.heap.size w ww from HBW.out.trans (HB2.out.mono HBW.out.size))
        clear hd6 hb6 ho6 l0 HB4 HD4 HR4
        go_upto_region 10 with fail
        by_cases hkn : k < n
        · have n1 : (k : Int) < n := by omega
          obtain ⟨b, o, x0, x1, x2, x3, rfl, hx, g0, g1, g2, g3⟩ := ins_of (vs_B HBA.out S) hkn
          have hmay : mayB (x0, x1, x2, x3) n = true := HM.out _ (List.mem_of_getElem? hx)
          have htd := told_any (x0, x1, x2, x3) n km none ww (G.B HBA.out) (kindMap_B HB2.out K2.out) hmay hn
          have htl := toldL_len hn hmay
          obtain ⟨td, htd2⟩ : ∃ td, toldL (x0, x1, x2, x3) = td := ⟨_, rfl⟩
          rw [htd2] at htd htl
          have HE := Lib.hid (show q ++ (td ++ [10]) = printTo cs (k + 1) by
            rw [printTo_succ, hx, ← htd2, HQ.out, List.append_assoc]; rfl)
          unfold insV at htd
          have l1 : ¬ 9223372036854775807 < td.length + 1 := by omega
          have HTL := Lib.hid htl
          have q1 : (0 : Int) ≤ k := by omega
          clear htd2 hx hmay htl
          go_wp2_with fail
          refine htd.mono ?_
          rintro e w5 ⟨rfl, hb5⟩
          have HB5 := Lib.hid (show Below w2.heap.size w2 w5 from HB2.out.trans (hb5.mono HB2.out.size))
          have HD5 := Lib.hid (bld_B hb5 HD.out)
          have HR5 := Lib.hid (rowB_B hb5 HR.out)
          clear hb5 htd g0 g1 g2 g3
          go_wp2_with fail
          rw [cat_1]
          refine (bldWrite_any _ _ q (td ++ [10]) _ HD5.out (by have := HQL.out; have := HTL.out; simp; omega) HB5.out.size).mono ?_
          rintro e w6 ⟨rfl, hd6, hb6, ho6⟩
          have HB6 := Lib.hid (show Below w2.heap.size w2 w6 from HB5.out.trans hb6)
          have HD6 := Lib.hid hd6
          have HR6 := Lib.hid (rowB_o ho6 (by omega) HR5.out)
          rw [HE.out] at HD6
          clear hd6 hb6 ho6 l1
          go_wp2
          go_roundw
          case rel => exact ⟨k + 1, by omega, by go_num, HB6.out, HD6.out, HR6.out⟩
          case measure => simp [intOf]; omega
        · obtain rfl : k = n := by omega
          have HE := Lib.hid (show q = printTo cs (k + 1) by
            rw [printTo_succ, ← List.append_assoc, ← HQ.out, List.getElem?_eq_none (by rw [Hn.out]; exact Nat.le_refl _)]; simp [insP])
          rw [HE.out] at HD
          go_wp2
          go_roundw
          case rel => exact ⟨k + 1, by omega, by go_num, HB2.out, HD.out, HR.out⟩
          case measure => simp [intOf]
      | false =>
        rw [hab] at c1
        have HQ2 := Lib.hid (show q = printTo cs k by rw [HQ.out, labP, hab]; simp)
        rw [← HQ2.out] at HD
        clear hab hlp
        go_upto_region 10 with fail
        clear c1
        by_cases hkn : k < n
        · have n1 : (k : Int) < n := by omega
          obtain ⟨b, o, x0, x1, x2, x3, rfl, hx, g0, g1, g2, g3⟩ := ins_of (vs_B HBA.out S) hkn
          have hmay : mayB (x0, x1, x2, x3) n = true := HM.out _ (List.mem_of_getElem? hx)
          have htd := told_any (x0, x1, x2, x3) n km none ww (G.B HBA.out) (kindMap_B HB2.out K2.out) hmay hn
          have htl := toldL_len hn hmay
          obtain ⟨td, htd2⟩ : ∃ td, toldL (x0, x1, x2, x3) = td := ⟨_, rfl⟩
          rw [htd2] at htd htl
          have HE := Lib.hid (show q ++ (td ++ [10]) = printTo cs (k + 1) by
            rw [printTo_succ, hx, ← htd2, HQ.out, List.append_assoc]; rfl)
          unfold insV at htd
          have l1 : ¬ 9223372036854775807 < td.length + 1 := by omega
          have HTL := Lib.hid htl
          have q1 : (0 : Int) ≤ k := by omega
          clear htd2 hx hmay htl
          go_wp2_with fail
          refine htd.mono ?_
          rintro e w5 ⟨rfl, hb5⟩
          have HB5 := Lib.hid (show Below w2.heap.size w2 w5 from HB2.out.trans (hb5.mono HB2.out.size))
          have HD5 := Lib.hid (bld_B hb5 HD.out)
          have HR5 := Lib.hid (rowB_B hb5 HR.out)
          clear hb5 htd g0 g1 g2 g3
          go_wp2_with fail
          rw [cat_1]
          refine (bldWrite_any _ _ q (td ++ [10]) _ HD5.out (by have := HQL.out; have := HTL.out; simp; omega) HB5.out.size).mono ?_
          rintro e w6 ⟨rfl, hd6, hb6, ho6⟩
          have HB6 := Lib.hid (show Below w2.heap.size w2 w6 from HB5.out.trans hb6)
          have HD6 := Lib.hid hd6
          have HR6 := Lib.hid (rowB_o ho6 (by omega) HR5.out)
          rw [HE.out] at HD6
          clear hd6 hb6 ho6 l1
          go_wp2
          go_roundw
          case rel => exact ⟨k + 1, by omega, by go_num, HB6.out, HD6.out, HR6.out⟩
          case measure => simp [intOf]; omega
        · obtain rfl : k = n := by omega
          have HE := Lib.hid (show q = printTo cs (k + 1) by
            rw [printTo_succ, ← List.append_assoc, ← HQ.out, List.getElem?_eq_none (by rw [Hn.out]; exact Nat.le_refl _)]; simp [insP])
          rw [HE.out] at HD
          go_wp2
          go_roundw
          case rel => exact ⟨k + 1, by omega, by go_num, HB2.out, HD.out, HR.out⟩
          case measure => simp [intOf]
    · obtain rfl : k = n + 1 := by omega
      have HPE := Lib.hid (show printTo cs (n + 1) = printL cs by rw [printL, Hn.out])
      rw [HPE.out] at HD
      go_wp2_with fail
      refine (bldString_any _ _ _ _ HD.out HB2.out.size).mono ?_
      rintro e w4 ⟨rfl, hb4⟩
      have HB4 := Lib.hid (show Below w.heap.size w w4 from HBW.out.trans ((HB2.out.trans hb4).mono HBW.out.size))
      clear hb4
      go_wp2
      go_ret2
      exact ⟨rfl, HB4.out⟩
end Go.Proofs.YthcogkcjmhjjmaaDoor
