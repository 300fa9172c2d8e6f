/- The document's own reading (respiteref05): Parse. -/
import Derived.Test.YtlkeacekdmjafaaDoorAsS
import Derived.Test.YtlkeacekdmjafaaDoorAsV
import Derived.Test.YtlkeacekdmjafaaDoorMathV
namespace Go.Proofs.YtlkeacekdmjafaaDoor
open Go.ChangeShapes Go.WideShapes Go.ChangeAt Go.RowKit
open Gen

theorem vs_less {α : Type} {r : Rep α} {Q : Nat → Prop} {w : World} {a : Option Addr} {n : Nat} {ys : List α} {z : α} (h : Vs r Q w a (n + 1) (ys ++ [z])) (hn : ys.length = n) : Vs r Q w a n ys := by
  obtain ⟨h1, h2⟩ := h
  refine ⟨hn, .inr ?_⟩
  obtain ⟨b, o, e, hq, f⟩ := h2.resolve_left (by omega)
  exact ⟨b, o, e, hq, fun i y hi => f i y (by rw [List.getElem?_append_left (List.getElem?_eq_some_iff.1 hi).1]; exact hi)⟩
theorem parseV_nil {n e : Int} {t : Bs} {w w' : World} (h : parseL t = ([], n, e)) (hb : Below w.heap.size w w') : ParseV (parseL t) w (.returned (.tuple #[.slice none 0 0, .int .i64 n, .int .i64 e])) w' := by
  rw [h]
  exact ⟨none, 0, rfl, Nat.le_refl _, by omega, ⟨rfl, .inl rfl⟩, hb⟩
set_option maxRecDepth 100000 in
set_option maxHeartbeats 4000000 in
theorem refParse_any (s : ByteArray) (w : World) (hs : s.size ≤ 40000) : Calls Tryd.prog 10 #[.string s] w (ParseV (parseL s.data.toList) w) := by
  have hsp := refSplit_v s 10 10 rfl
  have hl := bytes_size s
  obtain ⟨ls, z, hz⟩ : ∃ ls z, parts 10 s.data.toList = ls ++ [z] := ⟨_, _, (List.dropLast_concat_getLast (parts_ne 10 _)).symm⟩
  rw [hz] at hsp
  have hn2 : ls.length + 1 ≤ 40001 := by
    have h := parts_len 10 s.data.toList
    rw [hz, List.length_append, List.length_singleton] at h
    omega
  obtain ⟨n, hn⟩ : ∃ n, ls.length = n := ⟨_, rfl⟩
  unfold SplitV at hsp
  simp only [List.length_append, List.length_singleton, hn] at hsp
  rw [hn] at hn2
  have HZ := Lib.hid hz
  have HN := Lib.hid hn
  have h0 : ¬ (40000 : Int) < s.size := by omega
  clear hz hn hl
  go_enter Tryd.func10, Tryd.ntmps10
  go_wp2_with (go_at_call 26; refine (hsp _ (by omega)).mono ?_; rintro e w1 ⟨a1, c1, rfl, hc1, hc2, V1, hb1⟩)
  obtain ⟨ii, hi, hz0, hz1, hz2⟩ := info_parts Tryd.infoIns
  have HI := Lib.hid (And.intro hi (And.intro hz0 (And.intro hz1 hz2)))
  clear hi hz0 hz1 hz2
  obtain ⟨b1, o1, rfl, -, f1⟩ := V1.2.resolve_left (by omega)
  have HL := Lib.hid (vs_less V1 HN.out)
  have HF := Lib.hid f1
  have hpl : ∀ x ∈ ls, x.length ≤ 50000 := fun x hx => by
    have := parts_short 10 s.data.toList x (by rw [HZ.out]; simp [hx])
    have := bytes_size s
    omega
  have HPL := Lib.hid hpl
  have HS := Lib.hid (show s.data.toList.length ≤ 40000 by rw [← bytes_size]; exact hs)
  have B1 := Lib.hid hb1
  obtain ⟨W, hW⟩ : ∃ W, W = w1.alloc (Obj.cells #[] 39) := ⟨_, rfl⟩
  have HO : W.ownsRow w1.heap.size 39 4 (.slice (some ⟨w1.heap.size, 0, none⟩) 0 0) 0 (insCells []) := by
    rw [hW]
    exact World.ownsRow_lit w1 #[] 0 (Nat.le_refl _) (by unfold maxLen; omega) rfl
  have HBW : Below w1.heap.size w1 W := by rw [hW]; exact (Below.refl _ _).alloc (Nat.le_refl _) _
  rw [← hW]
  have HO' := Lib.hid HO
  have HB' := Lib.hid HBW
  clear hW HO HBW hsp V1 f1 hpl hb1
  go_loopw [7, 26] (fun v i wr => ∃ (k m : Nat) (c : List Ins), k ≤ n ∧ i = .int .i64 k ∧ m ≤ 1000 ∧ Hid (Rd ls k m c) ∧ Hid (wr.ownsRow w1.heap.size 39 4 v m (insCells c)) ∧ Hid (Below w1.heap.size w1 wr)) (fun _ i _ => n - (intOf i).toNat)
  case atStart => exact ⟨0, 0, [], by omega, rfl, by omega, rd_zero _, HO'.out, HB'.out⟩
  case round =>
    obtain ⟨k, m, c, hk, rfl, hm, hr, ho, hb⟩ := hrel
    clear HO' HB'
    have HB := Lib.hid (B1.out.trans (hb.out.mono B1.out.size))
    by_cases hlt : k < n
    · have j1 : (0 : Int) ≤ k := by omega
      have j2 : (k : Int) < n := by omega
      obtain ⟨x, hx⟩ : ∃ x, ls[k]? = some x := ⟨_, List.getElem?_eq_getElem (by rw [HN.out]; exact hlt)⟩
      have zc := s_at (at_keep (Q := Any) trivial (kept_B hb.out) (HF.out k x (by rw [List.getElem?_append_left (by rw [HN.out]; exact hlt)]; exact hx)))
      rw [show repS.k = 1 from rfl, Nat.mul_one] at zc
      have hxl := HPL.out x (List.mem_of_getElem? hx)
      have HX := Lib.hid hx
      have hlab := refLabel_any (str x) wr (by rw [str_size]; omega)
      rw [str_data] at hlab
      obtain ⟨va, vc, rfl⟩ := own_sl ho.out
      clear hx
      cases hlb : labB x with
      | true =>
        rw [hlb] at hlab
        have HLB := Lib.hid hlb
        have hform := label_form hlb
        obtain ⟨q, hq⟩ : ∃ q, nmL x = q := ⟨_, rfl⟩
        rw [hq] at hform
        have hxq : x.length = q.length + 1 := by rw [hform]; simp
        have hna := refIsName_any (str q) wr
        rw [str_data] at hna
        have k1 : ((List.length x : Nat) : Int) - 1 = (List.length q : Nat) := by omega
        have k2 : ((List.length q : Nat) : Int) ≤ (List.length x : Nat) := by omega
        have k3 : (0 : Int) ≤ (List.length q : Nat) := by omega
        have k4 : ((List.length x : Nat) : Int) ≤ 50000 := by omega
        have hext : (str x).extract 0 (List.length q) = str q := by
          rw [ext_str, str_data, hform]
          simp
        have HQ := Lib.hid hq
        clear hlb hform hxq hq
        cases hnb : nameB q with
        | false =>
          rw [hnb] at hna
          have HP := Lib.hid (parse_stop HS.out HZ.out hr.out HX.out (err_bad HLB.out (by rw [HQ.out]; exact hnb)) (by decide))
          clear hnb
          go_wp2_with fail
          with_reducible refine hlab.mono ?_
          clear hlab
          rintro e' w' ⟨rfl, hw⟩
          cases hw
          go_wp2_with fail
          with_reducible refine hna.mono ?_
          clear hna
          rintro e' w' ⟨rfl, hw⟩
          cases hw
          go_wp2
          go_ret3
          exact parseV_nil HP.out HB.out
        | true =>
          rw [hnb] at hna
          have HNB := Lib.hid hnb
          clear hnb
          go_wp2_with fail
          with_reducible refine hlab.mono ?_
          clear hlab
          rintro e' w' ⟨rfl, hw⟩
          cases hw
          go_wp2_with fail
          with_reducible refine hna.mono ?_
          clear hna
          rintro e' w' ⟨rfl, hw⟩
          cases hw
          go_wp2
          go_loop [10] (fun i => ∃ j : Nat, j ≤ k ∧ i = .int .i64 j ∧ Hid (∀ j', j' < j → ls[j']? ≠ some x)) (fun i => k - (intOf i).toNat)
          case atStart => exact ⟨0, by omega, rfl, (show ∀ j', j' < 0 → _ from fun j' h => by omega)⟩
          case round =>
            obtain ⟨j, hj, rfl, hno⟩ := hrel
            by_cases hjk : j < k
            · have l1 : (0 : Int) ≤ j := by omega
              have l2 : (j : Int) < k := by omega
              have l3 : (j : Int) < n := by omega
              obtain ⟨y, hy⟩ : ∃ y, ls[j]? = some y := ⟨_, List.getElem?_eq_getElem (by rw [HN.out]; omega)⟩
              have yc := s_at (at_keep (Q := Any) trivial (kept_B hb.out) (HF.out j y (by rw [List.getElem?_append_left (by rw [HN.out]; omega)]; exact hy)))
              rw [show repS.k = 1 from rfl, Nat.mul_one] at yc
              by_cases hyx : y = x
              · have HP := Lib.hid (parse_stop HS.out HZ.out hr.out HX.out (err_old HX.out (by rw [hy, hyx]) hjk HLB.out (by rw [HQ.out]; exact HNB.out)) (by decide))
                have e1 : (y == x) = true := by simpa using hyx
                clear hy hyx
                go_wp2
                go_ret3
                exact parseV_nil HP.out HB.out
              · have HNO := Lib.hid (show ∀ j', j' < j + 1 → ls[j']? ≠ some x by
                  intro j' h
                  by_cases h2 : j' < j
                  · exact hno.out j' h2
                  · obtain rfl : j' = j := by omega
                    rw [hy]
                    intro h3
                    injection h3 with h3
                    exact hyx h3)
                have e1 : (y == x) = false := by simpa using hyx
                clear hy hyx
                go_wp2
                go_round
                case rel => exact ⟨j + 1, by omega, by go_num, HNO.out⟩
                case measure => simp [intOf]; omega
            · obtain rfl : j = k := by omega
              have HRD := Lib.hid (rd_label hr.out HX.out HLB.out (err_new HX.out hno.out HLB.out (by rw [HQ.out]; exact HNB.out)))
              go_wp2
              go_roundw
              case rel => exact ⟨j + 1, m, c, by omega, by go_num, hm, HRD.out, ho.out, hb.out⟩
              case measure => simp [intOf]; omega
      | false =>
        rw [hlb] at hlab
        have HLB := Lib.hid hlb
        clear hlb
        have hins := refInstr_any (some ⟨b1, o1, none⟩) n c1 ls (str x) m wr (vs_B hb.out HL.out) (by omega) HPL.out (by rw [str_size]; omega)
        rw [str_data] at hins
        obtain ⟨⟨⟨i0, i1, i2, i3⟩, e⟩, hie⟩ : ∃ r, capR m (instrG (opRn ls) (parts 32 x)) = r := ⟨_, rfl⟩
        rw [hie] at hins
        unfold InsV insV at hins
        dsimp only at hins
        have HIE := Lib.hid hie
        clear hie
        go_wp2_with fail
        with_reducible refine hlab.mono ?_
        clear hlab
        rintro e' w' ⟨rfl, hw⟩
        cases hw
        go_wp2_with fail
        refine hins.mono ?_
        clear hins
        rintro e' w5 ⟨rfl, hb5⟩
        have hB5 := hb.out.trans (hb5.mono hb.out.size)
        have HO5 := Lib.hid (own_B hb5 ho.out)
        have hs5 := hB5.size
        have HB5 := Lib.hid hB5
        clear hB5 hb5
        by_cases he0 : e = 0
        · subst he0
          have HRD := Lib.hid (rd_ins hr.out hm HX.out HLB.out HIE.out)
          have hm2 : m + 1 ≤ 1000 := HRD.out.2
          go_wp2_with (at_builtin; refine wpList_append_own_at _ rfl _ _ 23 rfl w1.heap.size 39 ii (.agg #[.int .i64 0, .int .i64 0, .int .i64 0, .int .i64 0]) 4 32 Tryd.underlying23 HI.out.1 HI.out.2.1 HI.out.2.2.1 HI.out.2.2.2 rfl (by decide) _ m _ rfl ((HO5.out.alloc _).alloc _) ⟨w5.heap.size + 1, 0, none⟩ 1 1 (insOf (i0, i1, i2, i3)) rfl rfl ?c1 ?c2 ?c3 ?c4 ?c5 ?_)
          case c1 =>
            intro j u hu
            have hj : j < 4 := (List.getElem?_eq_some_iff.1 hu).1
            rw [Gen.add_plain, Nat.zero_add]
            refine cell_new _ _ _ (by simp) ?_
            rcases (show j = 0 ∨ j = 1 ∨ j = 2 ∨ j = 3 by omega) with rfl | rfl | rfl | rfl <;> exact hu
          case c2 => intro u hu; simp [insOf] at hu; rcases hu with rfl | rfl | rfl | rfl <;> rfl
          case c3 => unfold maxLen; omega
          case c4 => omega
          case c5 => simp; omega
          intro v' w6 hown hgrow _ _
          have HOWN := Lib.hid (show w6.ownsRow w1.heap.size 39 4 v' (m + 1) (insCells (c ++ [(i0, i1, i2, i3)])) by rw [insCells_snoc]; exact hown)
          have hx6 := (HB5.out.alloc hs5 (Obj.cells #[Value.int .i64 i0, Value.int .i64 i1, Value.int .i64 i2, Value.int .i64 i3] 39))
          have hx7 := hx6.alloc hx6.size (Obj.cells #[Value.int .i64 i0, Value.int .i64 i1, Value.int .i64 i2, Value.int .i64 i3] 39)
          have HB6 := Lib.hid (hx7.grown hgrow hx7.size (fun r e => (HO5.out.lt r e).1))
          clear hown hgrow hx6 hx7
          go_wp2
          go_roundw
          case rel => exact ⟨k + 1, m + 1, _, by omega, by go_num, hm2, HRD.out.1, HOWN.out, HB6.out⟩
          case measure => simp [intOf]; omega
        · have he2 : (e != 0) = true := by simpa using he0
          have HP := Lib.hid (parse_stop HS.out HZ.out hr.out HX.out (by rw [err_ins HLB.out (by rw [hr.out.ahead]; exact hm), hr.out.ahead, HIE.out]) he0)
          go_wp2
          go_ret3
          exact parseV_nil HP.out ((B1.out.trans (HB5.out.mono B1.out.size)).alloc (B1.out.trans (HB5.out.mono B1.out.size)).size _)
    · obtain rfl : k = n := by omega
      have zc := s_at (at_keep (Q := Any) trivial (kept_B hb.out) (HF.out k z (by rw [List.getElem?_append_right (by rw [HN.out]; omega), HN.out]; simp)))
      rw [show repS.k = 1 from rfl, Nat.mul_one] at zc
      obtain ⟨va, vc, rfl⟩ := own_sl ho.out
      by_cases hz : z = []
      · have HP := parse_all HS.out (by rw [HZ.out, hz]) (by rw [HN.out]; exact hr.out)
        have q1 : (z == []) = true := by simpa using hz
        have q2 : List.isEmpty z = true := by rw [List.isEmpty_iff]; exact hz
        clear hz
        obtain ⟨hp1, hp2⟩ := HP
        have HP1 := Lib.hid hp1
        have HO5 := ho.out
        rw [← hp2] at HO5
        obtain ⟨a5, k5, hv5, g1, g2, -, g4⟩ := vs_own (r := repIns) (Q := Any) HO5 (flat_ins _) (fun _ _ _ => trivial)
        rw [hp2] at hv5 g1 g4
        have HV5 := Lib.hid hv5
        have G1 := Lib.hid g1
        have G2 := Lib.hid g2
        have G4 := Lib.hid g4
        have HP2 := Lib.hid hp2
        clear hp1 hp2 HO5 hv5 g1 g2 g4
        go_wp2
        go_ret3
        rw [HP1.out, HV5.out]
        exact ⟨a5, k5, by rw [HP2.out]; rfl, by rw [HP2.out]; exact G1.out, G2.out, by rw [HP2.out]; exact G4.out, HB.out⟩
      · have HP := Lib.hid (parse_last HS.out HZ.out (by rw [HN.out]; exact hr.out) hz)
        rw [HN.out] at HP
        have q1 : (z == []) = false := by simpa using hz
        have q2 : List.isEmpty z = false := by rw [← Bool.not_eq_true, List.isEmpty_iff]; exact hz
        clear hz
        go_wp2
        go_ret3
        exact parseV_nil HP.out HB.out
end Go.Proofs.YtlkeacekdmjafaaDoor
