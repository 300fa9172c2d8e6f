/- respiteref05: Print. -/
import Derived.Test.YthcogkcjmhjjmaaDoorBpH
namespace Go.Proofs.YthcogkcjmhjjmaaDoor
open Go.ChangeShapes Go.WideShapes Go.ChangeAt Go.RowKit
open Gen

theorem cat_1 (a : Bs) (b : UInt8) : str a ++ (⟨#[b]⟩ : ByteArray) = str (a ++ [b]) := by
  apply ByteArray.ext
  simp
theorem cat_114 (q t d : Bs) : str (q ++ t) ++ (⟨#[32]⟩ : ByteArray) ++ ((⟨#[114]⟩ : ByteArray) ++ str d) = str (q ++ (t ++ 32 :: 114 :: d)) := by
  apply ByteArray.ext
  simp
theorem cat_116 (q t d : Bs) : str (q ++ t) ++ (⟨#[32]⟩ : ByteArray) ++ ((⟨#[108]⟩ : ByteArray) ++ str d) = str (q ++ (t ++ 32 :: 108 :: d)) := by
  apply ByteArray.ext
  simp
theorem cat_110 (q t d : Bs) : str (q ++ t) ++ (⟨#[32]⟩ : ByteArray) ++ str d = str (q ++ (t ++ 32 :: d)) := by
  apply ByteArray.ext
  simp
theorem cat_lab (p d : Bs) : str p ++ (⟨#[108]⟩ : ByteArray) ++ str d ++ (⟨#[58, 10]⟩ : ByteArray) = str (p ++ (108 :: d ++ [58, 10])) := by
  apply ByteArray.ext
  simp

set_option maxRecDepth 100000 in
set_option maxHeartbeats 8000000 in
theorem refPrint_any (a : Option Addr) (n c : Nat) (cs : List Ins) (w : World) (S : Vs repIns Any w a n cs) (hr : rightC cs = true) :
    Calls Tryd.prog 17 #[.slice a n c] w fun e w' => e = .returned (.string (str (printL cs))) ∧ Below w.heap.size w w' := by
  have Hn := Lib.hid S.1
  obtain ⟨hn, hm⟩ := rightC_at' hr
  rw [Hn.out] at hn hm
  have HM := Lib.hid hm
  have HRR := Lib.hid (show ∀ i ∈ cs, 0 ≤ i.1 ∧ i.1 < 27 from fun i hi => (mayB_opnd (hm i hi)).1)
  have HR := Lib.hid hr
  clear hm hr
  go_enter Tryd.func17, Tryd.ntmps17
  go_wp2
  go_loopw [4, 3] (fun i s wr => ∃ k : Nat, k ≤ n ∧ i = .int .i64 k ∧ s = .string (str (printTo cs k)) ∧ Below w.heap.size w wr) (fun i _ _ => n + 1 - (intOf i).toNat)
  case atStart => exact ⟨0, by omega, rfl, rfl, Below.refl _ _⟩
  case round =>
    obtain ⟨k, hk, rfl, rfl, hb⟩ := hrel
    obtain ⟨wo, hwo⟩ : ∃ wo : World, wo = wr := ⟨_, rfl⟩
    subst hwo
    have hk2 : (k : Int) ≤ n := by omega
    have ht := refTarget_any a n c cs k wo (vs_B hb S) hn HRR.out
    have HPL := Lib.hid (printTo_len HR.out k (by omega))
    have hll := labP_len cs k (by omega)
    have hil := itoa_lenN k (by omega)
    have hd := fun w' => refDigits_any (k : Int) w' (by omega) (by omega)
    obtain ⟨p, hp⟩ : ∃ p, printTo cs k = p := ⟨_, rfl⟩
    have HB := Lib.hid hb
    clear hb
    cases hab : aimB cs k with
    | true =>
      rw [hab] at ht
      rw [hp] at HPL ⊢
      have hpl := HPL.out
      obtain ⟨q, hq⟩ : ∃ q, p ++ (108 :: Lib.itoa k ++ [58, 10]) = q := ⟨_, rfl⟩
      have HQ := Lib.hid (show q = printTo cs k ++ labP cs k by rw [hp, ← hq, labP, if_pos hab]; rfl)
      have HQL := Lib.hid (show q.length ≤ 58100 by rw [← hq]; simp; omega)
      have HCT := Lib.hid ((cat_lab p (Lib.itoa k)).trans (by rw [hq]))
      have l1 : ¬ 9223372036854775807 < p.length + 1 := by omega
      have l2 : ¬ 9223372036854775807 < p.length + 1 + (Lib.itoa k).length := by omega
      have l3 : ¬ 9223372036854775807 < p.length + 1 + (Lib.itoa k).length + 2 := by omega
      obtain ⟨dk, hdk⟩ : ∃ d, Lib.itoa (k : Int) = d := ⟨_, rfl⟩
      rw [hdk] at l2 l3 HCT
      have HDK := Lib.hid hdk
      clear hdk hq hab hpl hll hil hp
      go_wp2_with fail
      refine ht.mono ?_
      rintro e w1 ⟨rfl, hb1⟩
      have HB0 := Lib.hid (below_from HB.out hb1)
      clear hb1 ht
      go_wp2_with fail
      refine (hd _).mono ?_
      rintro e w2 ⟨rfl, hb2⟩
      rw [HDK.out]
      have HB1 := Lib.hid (below_from HB0.out hb2)
      clear hb2 hd
      go_upto_region 7 with fail
      rw [HCT.out]
      clear l1 l2 l3
      clear hk2
      by_cases hkn : k = n
      · subst hkn
        have HS := Lib.hid (show printL cs = q by
          rw [printL, Hn.out, printTo_succ, ← List.append_assoc, ← HQ.out, List.getElem?_eq_none (by rw [Hn.out]; exact Nat.le_refl _)]
          simp [insP])
        go_wp2
        go_ret
        rw [HS.out]
        exact ⟨rfl, HB1.out⟩
      · have hlt : k < n := by omega
        have n1 : ¬ (k : Int) = (n : Int) := by omega
        have n2 : (k : Int) < (n : Int) := by omega
        obtain ⟨b, o, x0, x1, x2, x3, rfl, hx, g0, g1, g2, g3⟩ := ins_of (vs_B HB1.out S) hlt
        have hmay : mayB (x0, x1, x2, x3) n = true := HM.out _ (List.mem_of_getElem? hx)
        obtain ⟨h0, hok⟩ := mayB_opnd hmay
        have h0 : 0 ≤ x0 ∧ x0 < 27 := h0
        have hlen := tellTo_len hn hmay
        obtain ⟨op, rfl⟩ : ∃ op : Nat, x0 = (op : Int) := ⟨x0.toNat, by omega⟩
        obtain ⟨sg, hsg⟩ : ∃ sg, opSign.getD op [] = sg := ⟨_, rfl⟩
        obtain ⟨nm, hnm⟩ : ∃ nm, opName.getD op [] = nm := ⟨_, rfl⟩
        have hsi : sgOf ((op : Int), x1, x2, x3) = sg := hsg
        obtain ⟨s1, s2⟩ := signs_ok op (by omega)
        have hn5 := (names_ok op (by omega)).2.2.2.2
        have hn1 := fun w' => refName_any op w' (by omega)
        have hk1 := fun w' => refKinds_any op w' (by omega)
        simp only [hnm] at hn1
        simp only [hsg] at hk1
        rw [hsi] at hok hlen
        rw [hsg] at s1 s2
        rw [hnm] at hn5
        obtain ⟨tl, htl⟩ : ∃ tl : Nat → Bs, tl = fun j => nm ++ tellTo ((op : Int), x1, x2, x3) sg j := ⟨_, rfl⟩
        have T0 := Lib.hid (show tl 0 = nm by rw [htl]; simp [tellTo_zero])
        have TE := Lib.hid (show q ++ tl sg.length ++ [10] = printTo cs (k + 1) by
          rw [printTo_succ, ← List.append_assoc, ← HQ.out, hx, List.append_assoc]
          congr 1
          show _ = toldL ((op : Int), x1, x2, x3) ++ [10]
          show _ = opName.getD op [] ++ tellTo ((op : Int), x1, x2, x3) (sgOf ((op : Int), x1, x2, x3)) (sgOf ((op : Int), x1, x2, x3)).length ++ [10]
          rw [htl, hsi, hnm])
        have TS := Lib.hid (show ∀ j, tl (j + 1) = tl j ++ (32 :: tellP (sg.getD j 0).toNat (opnd ((op : Int), x1, x2, x3) j)) by intro j; rw [htl]; dsimp only; rw [tellTo_succ, List.append_assoc])
        have TN := Lib.hid (show ∀ j, j ≤ sg.length → (q ++ tl j).length ≤ 100000 by
          intro j hj
          rw [htl, List.length_append, List.length_append]
          have := hlen j hj
          have := HQL.out
          omega)
        have HOK := Lib.hid hok
        have HSC := Lib.hid s2
        have HNN := Lib.hid (show ¬ 9223372036854775807 < q.length + nm.length by have := HQL.out; omega)
        obtain ⟨W, hW⟩ : ∃ W, W = w2.alloc (Obj.cells #[.int .i64 op, .int .i64 x1, .int .i64 x2, .int .i64 x3] 39) := ⟨_, rfl⟩
        have X : VarN W w2.heap.size [.int .i64 op, .int .i64 x1, .int .i64 x2, .int .i64 x3] := by rw [hW]; exact varN_new _ _ rfl
        have hB2 : Below w.heap.size w W := by rw [hW]; exact HB1.out.alloc HB1.out.size _
        have HXX := Lib.hid X
        have HB2 := Lib.hid hB2
        have HW := Lib.hid hW
        have i1 : (0 : Int) ≤ k := by omega
        have i2 : (k : Int) < n := by omega
        have hnn := HNN.out
        clear hx hW X hB2 hsg hnm hsi hok s2 hlen hmay htl h0 hn5
        go_wp2_with fail
        rw [← HW.out]
        refine (hn1 _).mono ?_
        rintro e w3 ⟨rfl, hb3⟩
        have HX3 := Lib.hid (varN_B hb3 HXX.out)
        have HB3 := Lib.hid hb3
        clear hb3 hn1 g0 g1 g2 g3
        have y0 := (HX3.out 0 _ rfl).1
        have y1 := (HX3.out 1 _ rfl).1
        have y2 := (HX3.out 2 _ rfl).1
        have y3 := (HX3.out 3 _ rfl).1
        go_wp2_with fail
        refine (hk1 _).mono ?_
        rintro e w4 ⟨rfl, hb4⟩
        have HB4 := Lib.hid (below_from HB3.out hb4)
        clear hb4 hk1 HB3 HX3 y0 y1 y2 y3 hnn
        go_wp2
        go_loopw [7, 3] (fun i s wr => ∃ j : Nat, j ≤ sg.length ∧ i = .int .i64 j ∧ s = .string (str (q ++ tl j)) ∧ Hid (Below W.heap.size W wr)) (fun i _ _ => sg.length - (intOf i).toNat)
        case atStart => exact ⟨0, by omega, rfl, by rw [T0.out, app_str], HB4.out⟩
        case round =>
          clear HB4
          obtain ⟨j, hj, rfl, rfl, HBW⟩ := hrel
          by_cases hjl : j < sg.length
          · have HXR := Lib.hid (varN_B HBW.out HXX.out)
            have y0 := (HXR.out 0 _ rfl).1
            have y1 := (HXR.out 1 _ rfl).1
            have y2 := (HXR.out 2 _ rfl).1
            have y3 := (HXR.out 3 _ rfl).1
            clear HXR
            have j1 : (0 : Int) ≤ j := by omega
            have j2 : (j : Int) < (List.length sg : Nat) := by omega
            have hjs : j < (str sg).size := by rw [str_size]; exact hjl
            obtain ⟨ch, hch⟩ : ∃ ch, (sg.getD j 0).toNat = ch := ⟨_, rfl⟩
            have hbt : (str sg)[j].toNat = ch := by rw [bytes_at, str_data]; exact hch
            have hcc := HSC.out j hjl
            have hok := HOK.out j (by omega)
            have htl := TS.out j
            have hlj := TN.out j hj
            obtain ⟨v, hv⟩ : ∃ v, opnd ((op : Int), x1, x2, x3) j = v := ⟨_, rfl⟩
            rw [kOk, if_pos hjl, hch, hv] at hok
            rw [hch, hv] at htl
            rw [hch] at hcc
            have hbd : -1000000000 ≤ v ∧ v ≤ 1000000000 := by
              unfold fitsK at hok
              split at hok
              · rw [decide_eq_true_eq] at hok; omega
              · split at hok
                · rw [decide_eq_true_eq] at hok; omega
                · rw [decide_eq_true_eq] at hok; omega
            have HV := Lib.hid hv
            have hz114 : tellP 114 v = 114 :: Lib.itoa v := rfl
            have hz110 : tellP 110 v = Lib.itoa v := rfl
            have hz116 : tellP 116 v = 108 :: Lib.itoa v := rfl
            clear hok hv
            rcases hcc with rfl | rfl | rfl
            · have HTL := Lib.hid (show str (q ++ tl j) ++ ⟨#[32]⟩ ++ (⟨#[114]⟩ ++ str (Lib.itoa v)) = str (q ++ tl (j + 1)) by
                rw [htl, hz114]; exact cat_114 _ _ _)
              have hlv := itoa_len v hbd.1 hbd.2
              have l1 : ¬ 9223372036854775807 < (q ++ tl j).length + 1 := by omega
              have l2 : ¬ 9223372036854775807 < 1 + (Lib.itoa v).length := by omega
              have l3 : ¬ 9223372036854775807 < (q ++ tl j).length + 1 + (1 + (Lib.itoa v).length) := by omega
              have l4 : ¬ 9223372036854775807 < (q ++ tl j).length + 1 + (Lib.itoa v).length := by omega
              obtain ⟨dv, hdv⟩ : ∃ d, Lib.itoa v = d := ⟨_, rfl⟩
              obtain ⟨qt, hqt⟩ : ∃ d, q ++ tl j = d := ⟨_, rfl⟩
              have hd := fun w' => refDigits_any v w' hbd.1 hbd.2
              rw [hdv] at HTL l2 l3 l4
              rw [hqt] at HTL l1 l3 l4 ⊢
              have HDV := Lib.hid hdv
              clear hz114 hz110 hz116 l4 hqt hdv hlv hbd htl hch hlj
              go_wp2_with fail
              refine (refOpnd_any ((op : Int), x1, x2, x3) j _ (by omega)).mono ?_
              rintro e w3 ⟨rfl, hb3⟩
              rw [HV.out]
              have HB3 := Lib.hid (below_from HBW.out hb3)
              clear hb3 y0 y1 y2 y3
              go_wp2_with fail
              refine (hd _).mono ?_
              rintro e w4 ⟨rfl, hb4⟩
              rw [HDV.out]
              have HB4 := Lib.hid (below_from HB3.out hb4)
              clear hb4 HB3 hd
              go_wp2
              go_roundw
              case rel =>
                refine ⟨j + 1, by omega, by go_num, ?_, HB4.out⟩
                rw [← HTL.out]
              case measure => simp [intOf]; omega
            · have HTL := Lib.hid (show str (q ++ tl j) ++ ⟨#[32]⟩ ++ str (Lib.itoa v) = str (q ++ tl (j + 1)) by
                rw [htl, hz110]; exact cat_110 _ _ _)
              have hlv := itoa_len v hbd.1 hbd.2
              have l1 : ¬ 9223372036854775807 < (q ++ tl j).length + 1 := by omega
              have l2 : ¬ 9223372036854775807 < 1 + (Lib.itoa v).length := by omega
              have l3 : ¬ 9223372036854775807 < (q ++ tl j).length + 1 + (1 + (Lib.itoa v).length) := by omega
              have l4 : ¬ 9223372036854775807 < (q ++ tl j).length + 1 + (Lib.itoa v).length := by omega
              obtain ⟨dv, hdv⟩ : ∃ d, Lib.itoa v = d := ⟨_, rfl⟩
              obtain ⟨qt, hqt⟩ : ∃ d, q ++ tl j = d := ⟨_, rfl⟩
              have hd := fun w' => refDigits_any v w' hbd.1 hbd.2
              rw [hdv] at HTL l2 l3 l4
              rw [hqt] at HTL l1 l3 l4 ⊢
              have HDV := Lib.hid hdv
              clear hz114 hz110 hz116 l2 l3 hqt hdv hlv hbd htl hch hlj
              go_wp2_with fail
              refine (refOpnd_any ((op : Int), x1, x2, x3) j _ (by omega)).mono ?_
              rintro e w3 ⟨rfl, hb3⟩
              rw [HV.out]
              have HB3 := Lib.hid (below_from HBW.out hb3)
              clear hb3 y0 y1 y2 y3
              go_wp2_with fail
              refine (hd _).mono ?_
              rintro e w4 ⟨rfl, hb4⟩
              rw [HDV.out]
              have HB4 := Lib.hid (below_from HB3.out hb4)
              clear hb4 HB3 hd
              go_wp2
              go_roundw
              case rel =>
                refine ⟨j + 1, by omega, by go_num, ?_, HB4.out⟩
                rw [← HTL.out]
              case measure => simp [intOf]; omega
            · have HTL := Lib.hid (show str (q ++ tl j) ++ ⟨#[32]⟩ ++ (⟨#[108]⟩ ++ str (Lib.itoa v)) = str (q ++ tl (j + 1)) by
                rw [htl, hz116]; exact cat_116 _ _ _)
              have hlv := itoa_len v hbd.1 hbd.2
              have l1 : ¬ 9223372036854775807 < (q ++ tl j).length + 1 := by omega
              have l2 : ¬ 9223372036854775807 < 1 + (Lib.itoa v).length := by omega
              have l3 : ¬ 9223372036854775807 < (q ++ tl j).length + 1 + (1 + (Lib.itoa v).length) := by omega
              have l4 : ¬ 9223372036854775807 < (q ++ tl j).length + 1 + (Lib.itoa v).length := by omega
              obtain ⟨dv, hdv⟩ : ∃ d, Lib.itoa v = d := ⟨_, rfl⟩
              obtain ⟨qt, hqt⟩ : ∃ d, q ++ tl j = d := ⟨_, rfl⟩
              have hd := fun w' => refDigits_any v w' hbd.1 hbd.2
              rw [hdv] at HTL l2 l3 l4
              rw [hqt] at HTL l1 l3 l4 ⊢
              have HDV := Lib.hid hdv
              clear hz114 hz110 hz116 l4 hqt hdv hlv hbd htl hch hlj
              go_wp2_with fail
              refine (refOpnd_any ((op : Int), x1, x2, x3) j _ (by omega)).mono ?_
              rintro e w3 ⟨rfl, hb3⟩
              rw [HV.out]
              have HB3 := Lib.hid (below_from HBW.out hb3)
              clear hb3 y0 y1 y2 y3
              go_wp2_with fail
              refine (hd _).mono ?_
              rintro e w4 ⟨rfl, hb4⟩
              rw [HDV.out]
              have HB4 := Lib.hid (below_from HB3.out hb4)
              clear hb4 HB3 hd
              go_wp2
              go_roundw
              case rel =>
                refine ⟨j + 1, by omega, by go_num, ?_, HB4.out⟩
                rw [← HTL.out]
              case measure => simp [intOf]; omega
          · obtain rfl : j = sg.length := by omega
            have HB5 := Lib.hid (below_from HB2.out HBW.out)
            have hl5 : ¬ 9223372036854775807 < (q ++ tl sg.length).length + 1 := by have := TN.out _ hj; omega
            have HTE := Lib.hid (show str (q ++ tl sg.length) ++ ⟨#[10]⟩ = str (printTo cs (k + 1)) by rw [← TE.out]; exact cat_1 _ _)
            obtain ⟨qt, hqt⟩ : ∃ d, q ++ tl sg.length = d := ⟨_, rfl⟩
            rw [hqt] at hl5 HTE ⊢
            clear hqt HBW
            go_wp2
            go_roundw
            case rel =>
              refine ⟨k + 1, by omega, by go_num, ?_, HB5.out⟩
              rw [← HTE.out]
            case measure => simp [intOf]; omega
    | false =>
      rw [hab] at ht
      have HQ := Lib.hid (show p = printTo cs k ++ labP cs k by rw [hp, labP, hab]; simp)
      have HQL := Lib.hid (show p.length ≤ 58100 by rw [← hp]; have := HPL.out; omega)
      rw [hp]
      clear hab hll hil hp hd HPL
      obtain ⟨q, hq⟩ : ∃ q, q = p := ⟨_, rfl⟩
      subst hq
      go_wp2_with fail
      refine ht.mono ?_
      rintro e w2 ⟨rfl, hb2⟩
      have HB1 := Lib.hid (below_from HB.out hb2)
      clear hb2 ht
      clear hk2
      by_cases hkn : k = n
      · subst hkn
        have HS := Lib.hid (show printL cs = q by
          rw [printL, Hn.out, printTo_succ, ← List.append_assoc, ← HQ.out, List.getElem?_eq_none (by rw [Hn.out]; exact Nat.le_refl _)]
          simp [insP])
        go_wp2
        go_ret
        rw [HS.out]
        exact ⟨rfl, HB1.out⟩
      · have hlt : k < n := by omega
        have n1 : ¬ (k : Int) = (n : Int) := by omega
        have n2 : (k : Int) < (n : Int) := by omega
        obtain ⟨b, o, x0, x1, x2, x3, rfl, hx, g0, g1, g2, g3⟩ := ins_of (vs_B HB1.out S) hlt
        have hmay : mayB (x0, x1, x2, x3) n = true := HM.out _ (List.mem_of_getElem? hx)
        obtain ⟨h0, hok⟩ := mayB_opnd hmay
        have h0 : 0 ≤ x0 ∧ x0 < 27 := h0
        have hlen := tellTo_len hn hmay
        obtain ⟨op, rfl⟩ : ∃ op : Nat, x0 = (op : Int) := ⟨x0.toNat, by omega⟩
        obtain ⟨sg, hsg⟩ : ∃ sg, opSign.getD op [] = sg := ⟨_, rfl⟩
        obtain ⟨nm, hnm⟩ : ∃ nm, opName.getD op [] = nm := ⟨_, rfl⟩
        have hsi : sgOf ((op : Int), x1, x2, x3) = sg := hsg
        obtain ⟨s1, s2⟩ := signs_ok op (by omega)
        have hn5 := (names_ok op (by omega)).2.2.2.2
        have hn1 := fun w' => refName_any op w' (by omega)
        have hk1 := fun w' => refKinds_any op w' (by omega)
        simp only [hnm] at hn1
        simp only [hsg] at hk1
        rw [hsi] at hok hlen
        rw [hsg] at s1 s2
        rw [hnm] at hn5
        obtain ⟨tl, htl⟩ : ∃ tl : Nat → Bs, tl = fun j => nm ++ tellTo ((op : Int), x1, x2, x3) sg j := ⟨_, rfl⟩
        have T0 := Lib.hid (show tl 0 = nm by rw [htl]; simp [tellTo_zero])
        have TE := Lib.hid (show q ++ tl sg.length ++ [10] = printTo cs (k + 1) by
          rw [printTo_succ, ← List.append_assoc, ← HQ.out, hx, List.append_assoc]
          congr 1
          show _ = toldL ((op : Int), x1, x2, x3) ++ [10]
          show _ = opName.getD op [] ++ tellTo ((op : Int), x1, x2, x3) (sgOf ((op : Int), x1, x2, x3)) (sgOf ((op : Int), x1, x2, x3)).length ++ [10]
          rw [htl, hsi, hnm])
        have TS := Lib.hid (show ∀ j, tl (j + 1) = tl j ++ (32 :: tellP (sg.getD j 0).toNat (opnd ((op : Int), x1, x2, x3) j)) by intro j; rw [htl]; dsimp only; rw [tellTo_succ, List.append_assoc])
        have TN := Lib.hid (show ∀ j, j ≤ sg.length → (q ++ tl j).length ≤ 100000 by
          intro j hj
          rw [htl, List.length_append, List.length_append]
          have := hlen j hj
          have := HQL.out
          omega)
        have HOK := Lib.hid hok
        have HSC := Lib.hid s2
        have HNN := Lib.hid (show ¬ 9223372036854775807 < q.length + nm.length by have := HQL.out; omega)
        obtain ⟨W, hW⟩ : ∃ W, W = w2.alloc (Obj.cells #[.int .i64 op, .int .i64 x1, .int .i64 x2, .int .i64 x3] 39) := ⟨_, rfl⟩
        have X : VarN W w2.heap.size [.int .i64 op, .int .i64 x1, .int .i64 x2, .int .i64 x3] := by rw [hW]; exact varN_new _ _ rfl
        have hB2 : Below w.heap.size w W := by rw [hW]; exact HB1.out.alloc HB1.out.size _
        have HXX := Lib.hid X
        have HB2 := Lib.hid hB2
        have HW := Lib.hid hW
        have i1 : (0 : Int) ≤ k := by omega
        have i2 : (k : Int) < n := by omega
        have hnn := HNN.out
        clear hx hW X hB2 hsg hnm hsi hok s2 hlen hmay htl h0 hn5
        go_wp2_with fail
        rw [← HW.out]
        refine (hn1 _).mono ?_
        rintro e w3 ⟨rfl, hb3⟩
        have HX3 := Lib.hid (varN_B hb3 HXX.out)
        have HB3 := Lib.hid hb3
        clear hb3 hn1 g0 g1 g2 g3
        have y0 := (HX3.out 0 _ rfl).1
        have y1 := (HX3.out 1 _ rfl).1
        have y2 := (HX3.out 2 _ rfl).1
        have y3 := (HX3.out 3 _ rfl).1
        go_wp2_with fail
        refine (hk1 _).mono ?_
        rintro e w4 ⟨rfl, hb4⟩
        have HB4 := Lib.hid (below_from HB3.out hb4)
        clear hb4 hk1 HB3 HX3 y0 y1 y2 y3 hnn
        go_wp2
        go_loopw [7, 3] (fun i s wr => ∃ j : Nat, j ≤ sg.length ∧ i = .int .i64 j ∧ s = .string (str (q ++ tl j)) ∧ Hid (Below W.heap.size W wr)) (fun i _ _ => sg.length - (intOf i).toNat)
        case atStart => exact ⟨0, by omega, rfl, by rw [T0.out, app_str], HB4.out⟩
        case round =>
          clear HB4
          obtain ⟨j, hj, rfl, rfl, HBW⟩ := hrel
          by_cases hjl : j < sg.length
          · have HXR := Lib.hid (varN_B HBW.out HXX.out)
            have y0 := (HXR.out 0 _ rfl).1
            have y1 := (HXR.out 1 _ rfl).1
            have y2 := (HXR.out 2 _ rfl).1
            have y3 := (HXR.out 3 _ rfl).1
            clear HXR
            have j1 : (0 : Int) ≤ j := by omega
            have j2 : (j : Int) < (List.length sg : Nat) := by omega
            have hjs : j < (str sg).size := by rw [str_size]; exact hjl
            obtain ⟨ch, hch⟩ : ∃ ch, (sg.getD j 0).toNat = ch := ⟨_, rfl⟩
            have hbt : (str sg)[j].toNat = ch := by rw [bytes_at, str_data]; exact hch
            have hcc := HSC.out j hjl
            have hok := HOK.out j (by omega)
            have htl := TS.out j
            have hlj := TN.out j hj
            obtain ⟨v, hv⟩ : ∃ v, opnd ((op : Int), x1, x2, x3) j = v := ⟨_, rfl⟩
            rw [kOk, if_pos hjl, hch, hv] at hok
            rw [hch, hv] at htl
            rw [hch] at hcc
            have hbd : -1000000000 ≤ v ∧ v ≤ 1000000000 := by
              unfold fitsK at hok
              split at hok
              · rw [decide_eq_true_eq] at hok; omega
              · split at hok
                · rw [decide_eq_true_eq] at hok; omega
                · rw [decide_eq_true_eq] at hok; omega
            have HV := Lib.hid hv
            have hz114 : tellP 114 v = 114 :: Lib.itoa v := rfl
            have hz110 : tellP 110 v = Lib.itoa v := rfl
            have hz116 : tellP 116 v = 108 :: Lib.itoa v := rfl
            clear hok hv
            rcases hcc with rfl | rfl | rfl
            · have HTL := Lib.hid (show str (q ++ tl j) ++ ⟨#[32]⟩ ++ (⟨#[114]⟩ ++ str (Lib.itoa v)) = str (q ++ tl (j + 1)) by
                rw [htl, hz114]; exact cat_114 _ _ _)
              have hlv := itoa_len v hbd.1 hbd.2
              have l1 : ¬ 9223372036854775807 < (q ++ tl j).length + 1 := by omega
              have l2 : ¬ 9223372036854775807 < 1 + (Lib.itoa v).length := by omega
              have l3 : ¬ 9223372036854775807 < (q ++ tl j).length + 1 + (1 + (Lib.itoa v).length) := by omega
              have l4 : ¬ 9223372036854775807 < (q ++ tl j).length + 1 + (Lib.itoa v).length := by omega
              obtain ⟨dv, hdv⟩ : ∃ d, Lib.itoa v = d := ⟨_, rfl⟩
              obtain ⟨qt, hqt⟩ : ∃ d, q ++ tl j = d := ⟨_, rfl⟩
              have hd := fun w' => refDigits_any v w' hbd.1 hbd.2
              rw [hdv] at HTL l2 l3 l4
              rw [hqt] at HTL l1 l3 l4 ⊢
              have HDV := Lib.hid hdv
              clear hz114 hz110 hz116 l4 hqt hdv hlv hbd htl hch hlj
              go_wp2_with fail
              refine (refOpnd_any ((op : Int), x1, x2, x3) j _ (by omega)).mono ?_
              rintro e w3 ⟨rfl, hb3⟩
              rw [HV.out]
              have HB3 := Lib.hid (below_from HBW.out hb3)
              clear hb3 y0 y1 y2 y3
              go_wp2_with fail
              refine (hd _).mono ?_
              rintro e w4 ⟨rfl, hb4⟩
              rw [HDV.out]
              have HB4 := Lib.hid (below_from HB3.out hb4)
              clear hb4 HB3 hd
              go_wp2
              go_roundw
              case rel =>
                refine ⟨j + 1, by omega, by go_num, ?_, HB4.out⟩
                rw [← HTL.out]
              case measure => simp [intOf]; omega
            · have HTL := Lib.hid (show str (q ++ tl j) ++ ⟨#[32]⟩ ++ str (Lib.itoa v) = str (q ++ tl (j + 1)) by
                rw [htl, hz110]; exact cat_110 _ _ _)
              have hlv := itoa_len v hbd.1 hbd.2
              have l1 : ¬ 9223372036854775807 < (q ++ tl j).length + 1 := by omega
              have l2 : ¬ 9223372036854775807 < 1 + (Lib.itoa v).length := by omega
              have l3 : ¬ 9223372036854775807 < (q ++ tl j).length + 1 + (1 + (Lib.itoa v).length) := by omega
              have l4 : ¬ 9223372036854775807 < (q ++ tl j).length + 1 + (Lib.itoa v).length := by omega
              obtain ⟨dv, hdv⟩ : ∃ d, Lib.itoa v = d := ⟨_, rfl⟩
              obtain ⟨qt, hqt⟩ : ∃ d, q ++ tl j = d := ⟨_, rfl⟩
              have hd := fun w' => refDigits_any v w' hbd.1 hbd.2
              rw [hdv] at HTL l2 l3 l4
              rw [hqt] at HTL l1 l3 l4 ⊢
              have HDV := Lib.hid hdv
              clear hz114 hz110 hz116 l2 l3 hqt hdv hlv hbd htl hch hlj
              go_wp2_with fail
              refine (refOpnd_any ((op : Int), x1, x2, x3) j _ (by omega)).mono ?_
              rintro e w3 ⟨rfl, hb3⟩
              rw [HV.out]
              have HB3 := Lib.hid (below_from HBW.out hb3)
              clear hb3 y0 y1 y2 y3
              go_wp2_with fail
              refine (hd _).mono ?_
              rintro e w4 ⟨rfl, hb4⟩
              rw [HDV.out]
              have HB4 := Lib.hid (below_from HB3.out hb4)
              clear hb4 HB3 hd
              go_wp2
              go_roundw
              case rel =>
                refine ⟨j + 1, by omega, by go_num, ?_, HB4.out⟩
                rw [← HTL.out]
              case measure => simp [intOf]; omega
            · have HTL := Lib.hid (show str (q ++ tl j) ++ ⟨#[32]⟩ ++ (⟨#[108]⟩ ++ str (Lib.itoa v)) = str (q ++ tl (j + 1)) by
                rw [htl, hz116]; exact cat_116 _ _ _)
              have hlv := itoa_len v hbd.1 hbd.2
              have l1 : ¬ 9223372036854775807 < (q ++ tl j).length + 1 := by omega
              have l2 : ¬ 9223372036854775807 < 1 + (Lib.itoa v).length := by omega
              have l3 : ¬ 9223372036854775807 < (q ++ tl j).length + 1 + (1 + (Lib.itoa v).length) := by omega
              have l4 : ¬ 9223372036854775807 < (q ++ tl j).length + 1 + (Lib.itoa v).length := by omega
              obtain ⟨dv, hdv⟩ : ∃ d, Lib.itoa v = d := ⟨_, rfl⟩
              obtain ⟨qt, hqt⟩ : ∃ d, q ++ tl j = d := ⟨_, rfl⟩
              have hd := fun w' => refDigits_any v w' hbd.1 hbd.2
              rw [hdv] at HTL l2 l3 l4
              rw [hqt] at HTL l1 l3 l4 ⊢
              have HDV := Lib.hid hdv
              clear hz114 hz110 hz116 l4 hqt hdv hlv hbd htl hch hlj
              go_wp2_with fail
              refine (refOpnd_any ((op : Int), x1, x2, x3) j _ (by omega)).mono ?_
              rintro e w3 ⟨rfl, hb3⟩
              rw [HV.out]
              have HB3 := Lib.hid (below_from HBW.out hb3)
              clear hb3 y0 y1 y2 y3
              go_wp2_with fail
              refine (hd _).mono ?_
              rintro e w4 ⟨rfl, hb4⟩
              rw [HDV.out]
              have HB4 := Lib.hid (below_from HB3.out hb4)
              clear hb4 HB3 hd
              go_wp2
              go_roundw
              case rel =>
                refine ⟨j + 1, by omega, by go_num, ?_, HB4.out⟩
                rw [← HTL.out]
              case measure => simp [intOf]; omega
          · obtain rfl : j = sg.length := by omega
            have HB5 := Lib.hid (below_from HB2.out HBW.out)
            have hl5 : ¬ 9223372036854775807 < (q ++ tl sg.length).length + 1 := by have := TN.out _ hj; omega
            have HTE := Lib.hid (show str (q ++ tl sg.length) ++ ⟨#[10]⟩ = str (printTo cs (k + 1)) by rw [← TE.out]; exact cat_1 _ _)
            obtain ⟨qt, hqt⟩ : ∃ d, q ++ tl sg.length = d := ⟨_, rfl⟩
            rw [hqt] at hl5 HTE ⊢
            clear hqt HBW
            go_wp2
            go_roundw
            case rel =>
              refine ⟨k + 1, by omega, by go_num, ?_, HB5.out⟩
              rw [← HTE.out]
            case measure => simp [intOf]; omega
end Go.Proofs.YthcogkcjmhjjmaaDoor
