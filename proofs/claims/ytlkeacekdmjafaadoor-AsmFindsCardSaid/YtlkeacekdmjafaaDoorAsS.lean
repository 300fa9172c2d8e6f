/- The document's own reading (respiteref05): instr. -/
import Derived.Test.YtlkeacekdmjafaaDoorAsR
import Derived.Test.YtlkeacekdmjafaaDoorAsH
import Derived.Deep.QuietTactic
namespace Go.Proofs.YtlkeacekdmjafaaDoor
open Go.ChangeShapes Go.WideShapes Go.ChangeAt Go.RowKit
open Gen

/-- Split as a slice that is read -/
def SplitV (ps : List Bs) (w : World) (e : Ending) (w' : World) : Prop := ∃ a c, e = .returned (.slice a ps.length c) ∧ ps.length ≤ c ∧ c ≤ 9223372036854775807 ∧ Vs repS Any w' a ps.length ps ∧ Below w.heap.size w w'
theorem refSplit_v (s : ByteArray) (c : UInt8) (cz : Int) (hcz : cz = c.toNat) (w : World) (hs : s.size ≤ 50000) : Calls Tryd.prog 26 #[.string s, .int .u8 cz] w (SplitV (parts c s.data.toList) w) := by
  refine (refSplit_any s c cz hcz w hs).mono ?_
  rintro e w' ⟨v, rfl, ho, hb⟩
  obtain ⟨a, k, rfl, h1, h2, -, h4⟩ := vs_own (r := repS) (Q := Any) ho (flat_s _) (fun _ _ _ => trivial)
  exact ⟨a, k, rfl, h1, h2, h4, hb⟩
/-- an instruction of a line, by whatever reads operands -/
def errG (g : Nat → Bs → Int × Int) (sg : Bs) (ps : List Bs) (i : Nat) : Int := (g (sg.getD i 0).toNat (ps.getD i [])).2
def valG (g : Nat → Bs → Int × Int) (sg : Bs) (ps : List Bs) (i : Nat) : Int := if i < sg.length then (g (sg.getD i 0).toNat (ps.getD i [])).1 else 0
def firstG (g : Nat → Bs → Int × Int) (sg : Bs) (ps : List Bs) : Option Nat := (List.range sg.length).find? (fun i => decide (errG g sg ps i ≠ 0))
def instrG (g : Nat → Bs → Int × Int) (ps : List Bs) : Ins × Int :=
  match opOf (ps.getD 0 []) with
  | none => ((0, 0, 0, 0), 10)
  | some k =>
    if ps.length - 1 ≠ (opSign.getD k []).length then ((0, 0, 0, 0), 12)
    else match firstG g (opSign.getD k []) (ps.drop 1) with
      | some i => ((0, 0, 0, 0), errG g (opSign.getD k []) (ps.drop 1) i)
      | none => (((k : Int), valG g (opSign.getD k []) (ps.drop 1) 0, valG g (opSign.getD k []) (ps.drop 1) 1, valG g (opSign.getD k []) (ps.drop 1) 2), 0)
theorem instrE_G (f : Bs → Option (Int × Int)) (l : Bs) : instrE f l = instrG (opndE f) (parts 32 l) := rfl
theorem firstG_none {g : Nat → Bs → Int × Int} {sg : Bs} {ps : List Bs} (h : ∀ i, i < sg.length → errG g sg ps i = 0) : firstG g sg ps = none := by
  simp only [firstG, List.find?_eq_none, List.mem_range, decide_eq_true_eq]
  exact fun i hi q => q (h i hi)
theorem firstG_some {g : Nat → Bs → Int × Int} {sg : Bs} {ps : List Bs} {k : Nat} (hk : k < sg.length) (h : ∀ i, i < k → errG g sg ps i = 0) (he : errG g sg ps k ≠ 0) : firstG g sg ps = some k := by
  rw [firstG, List.find?_range_eq_some]
  refine ⟨by simpa using he, by simpa using hk, fun j hj => by simpa using h j hj⟩
def vkG (g : Nat → Bs → Int × Int) (sg : Bs) (q : List Bs) (j i : Nat) : Int := if i < j then (g (sg.getD i 0).toNat (q.getD i [])).1 else 0
theorem vkG_set {g : Nat → Bs → Int × Int} {sg : Bs} {q : List Bs} {j : Nat} {x : Int} (hj : j < 3) (hx : (g (sg.getD j 0).toNat (q.getD j [])).1 = x) :
    ([.int .i64 (vkG g sg q j 0), .int .i64 (vkG g sg q j 1), .int .i64 (vkG g sg q j 2)] : List Value).set j (.int .i64 x) = [.int .i64 (vkG g sg q (j + 1) 0), .int .i64 (vkG g sg q (j + 1) 1), .int .i64 (vkG g sg q (j + 1) 2)] := by
  subst hx
  rcases (show j = 0 ∨ j = 1 ∨ j = 2 by omega) with rfl | rfl | rfl <;> simp [vkG]
def opRn (ls : List Bs) (c : Nat) (p : Bs) : Int × Int := opR ls c p
/-- with so many instructions ahead -/
def capR (m : Nat) (r : Ins × Int) : Ins × Int := if r.2 = 0 ∧ 1000 ≤ m then ((0, 0, 0, 0), 2) else r
def InsV (r : Ins × Int) (w : World) (e : Ending) (w' : World) : Prop := e = .returned (.tuple #[insV r.1, .int .i64 r.2]) ∧ Below w.heap.size w w'
set_option maxRecDepth 100000 in
set_option maxHeartbeats 2000000 in
theorem refInstr_any (a : Option Addr) (n c : Nat) (ls : List Bs) (s : ByteArray) (m : Nat) (w : World) (V : Vs repS Any w a n ls) (hn : n ≤ 50001) (hl : ∀ x ∈ ls, x.length ≤ 50000) (hq : s.size ≤ 50000) :
    Calls Tryd.prog 29 #[.slice a n c, .string s, .int .i64 m] w (InsV (capR m (instrG (opRn ls) (parts 32 s.data.toList))) w) := by
  have hsp := refSplit_v s 32 32 rfl
  obtain ⟨ps, hps⟩ : ∃ ps, parts 32 s.data.toList = ps := ⟨_, rfl⟩
  rw [hps] at hsp
  have hn1 : 1 ≤ ps.length := by rw [← hps]; exact parts_pos 32 _
  have hn2 : ps.length ≤ 50001 := by rw [← hps]; have := parts_len 32 s.data.toList; have := bytes_size s; omega
  obtain ⟨p0, q, rfl⟩ : ∃ p0 q, ps = p0 :: q := by
    cases ps with
    | nil => simp at hn1
    | cons p q => exact ⟨p, q, rfl⟩
  obtain ⟨z, hz⟩ : ∃ z, q.length = z := ⟨_, rfl⟩
  have HN := Lib.hid hz
  unfold SplitV at hsp
  rw [List.length_cons, hz] at hn2
  simp only [List.length_cons, hz] at hsp
  have HPS := Lib.hid hps
  clear hps hz hn1
  go_enter Tryd.func29, Tryd.ntmps29
  go_wp2_with (go_at_call 26; refine (hsp _ hq).mono ?_; rintro e w1 ⟨a1, c1, rfl, hc1, hc2, V1, hb1⟩)
  have X1 := Lib.hid (varN_B hb1 (varN_new [.int .i64 0, .int .i64 0, .int .i64 0, .int .i64 0] (t := 39) w.heap.size rfl))
  have B1 := Lib.hid (below_from ((Below.refl _ _).alloc (Nat.le_refl _) _ : Below w.heap.size w (w.alloc (.cells #[.int .i64 0, .int .i64 0, .int .i64 0, .int .i64 0] 39))) hb1)
  have VA := Lib.hid (vs_B hb1 (vs_B ((Below.refl _ _).alloc (Nat.le_refl _) _) V))
  clear V
  obtain ⟨b1, o1, p0', rfl, hp0, -, hA1⟩ := vs_at V1 (i := 0) (by omega)
  obtain rfl : p0 = p0' := by simpa using hp0
  have z1 := s_at hA1
  rw [show repS.k = 1 from rfl, Nat.mul_one, Nat.add_zero] at z1
  have HV1 := Lib.hid V1
  have Hc1 := Lib.hid hc1
  have Hc2 := Lib.hid hc2
  have Z1 := Lib.hid z1
  have hs1 := hb1.size
  clear hA1 hp0 V1 hsp hc1 hc2 z1
  go_loopw [9] (fun v wr => ∃ k : Nat, k ≤ 27 ∧ v = .int .i64 k ∧ Hid (∀ j, j < k → opName.getD j [] ≠ p0) ∧ Hid (Below w1.heap.size w1 wr)) (fun v _ => 27 - (intOf v).toNat)
  case atStart => exact ⟨0, by omega, rfl, (fun j hj => by omega), Below.refl _ _⟩
  case round =>
    obtain ⟨k, hk, rfl, hno, hb⟩ := hrel
    have z2 := cellB hb.out Z1.out
    by_cases hlt : k < 27
    · have j1 : (k : Int) < 27 := by omega
      have j2 : (0 : Int) ≤ k := by omega
      by_cases hp : opName.getD k [] = p0
      · have e1 : (opName.getD k [] == p0) = true := by simpa using hp
        have e27 : ((k : Int) == 27) = false := by simp; omega
        obtain ⟨nm, hnm⟩ : ∃ nm, opName.getD k [] = nm := ⟨_, rfl⟩
        have hname := fun (W : World) => refName_any k W hlt
        rw [hnm] at e1 hname
        have HB := Lib.hid hb.out
        have HOP := Lib.hid (opOf_some hlt hno.out hp)
        clear hp hnm hb hno
        go_wp2
        go_region_with (go_at_call 39; refine (hname _).mono ?_; rintro e w2 ⟨rfl, hb2⟩; have z3 := cellB hb2 (by assumption))
        all_goals
          have HB2 := Lib.hid (HB.out.drew.trans (hb2.mono HB.out.drew.size))
          clear hb2
          have X2 := varN_B HB2.out X1.out
          obtain ⟨sg, hsg⟩ : ∃ sg, opSign.getD k [] = sg := ⟨_, rfl⟩
          have hki := fun (W : World) => refKinds_any k W hlt
          rw [hsg] at hki
          have HSG := Lib.hid hsg
          clear hsg
          have h6 : ((List.length sg : Nat) : Int) ≤ 3 := by have := (signs_ok k hlt).1; rw [HSG.out] at this; omega
          by_cases hlen : z = sg.length
          · subst hlen
            have h5 : (((List.length sg : Nat) : Int) + 1 != 1 + (List.length sg : Nat)) = false := by simp; omega
            have hsok := (signs_ok k hlt).1
            rw [HSG.out] at hsok
            go_wp2_with (go_at_call 40; refine (hki _).mono ?_; rintro e w3 ⟨rfl, hb3⟩)
            obtain ⟨W3, hW3⟩ : ∃ W3, W3 = w3.alloc (Obj.cells #[Value.int IntKind.i64 0, Value.int IntKind.i64 0, Value.int IntKind.i64 0] 86) := ⟨_, rfl⟩
            have B3 : Below w1.heap.size w1 W3 := by rw [hW3]; exact (HB2.out.trans (hb3.mono HB2.out.size)).alloc (HB2.out.trans (hb3.mono HB2.out.size)).size _
            have V3 : VarN W3 w3.heap.size [.int .i64 0, .int .i64 0, .int .i64 0] := by rw [hW3]; exact varN_new [.int .i64 0, .int .i64 0, .int .i64 0] _ rfl
            have hgl : w1.heap.size ≤ w3.heap.size := by have := hb3.size; have := HB2.out.size; omega
            have hgw : w.heap.size < w1.heap.size := varN_lt X1.out (by simp)
            obtain ⟨gv, hgv⟩ : ∃ gv, w3.heap.size = gv := ⟨_, rfl⟩
            rw [← hW3]
            rw [hgv] at V3 hgl ⊢
            have HB3 := Lib.hid B3
            have HV3 := Lib.hid V3
            clear hW3 hgv hb3 B3 V3 X2 z3 hki
            go_loopw [12] (fun i wr => ∃ j : Nat, j ≤ sg.length ∧ i = .int .i64 j ∧ Hid (∀ x, x < j → errG (opRn ls) sg q x = 0) ∧ Hid (VarN wr gv [.int .i64 (vkG (opRn ls) sg q j 0), .int .i64 (vkG (opRn ls) sg q j 1), .int .i64 (vkG (opRn ls) sg q j 2)]) ∧ Hid (Below w1.heap.size w1 wr)) (fun i _ => sg.length - (intOf i).toNat)
            case atStart => exact ⟨0, Nat.zero_le _, rfl, (show ∀ x, x < 0 → _ from fun x hx => by omega), HV3.out, HB3.out⟩
            case round =>
              obtain ⟨j, hj, rfl, hno, hv, hbw⟩ := hrel
              have X5 := varN_B hbw.out X1.out
              have BW := Lib.hid (B1.out.trans (hbw.out.mono B1.out.size))
              have x0 := X5 0 _ rfl
              have x1 := X5 1 _ rfl
              have x2 := X5 2 _ rfl
              have x3 := X5 3 _ rfl
              have HX5 := Lib.hid X5
              clear X5
              by_cases hlt2 : j < sg.length
              · have j1 : (0 : Int) ≤ j := by omega
                have j2 : (j : Int) < (List.length sg : Nat) := by omega
                have j3 : j < 3 := by omega
                have j4 : (j : Int) ≤ 2 := by omega
                have j5 : (1 : Int) + j < (List.length sg : Nat) + 1 := by omega
                obtain ⟨bq, oq, p, hbo, hp, -, hA⟩ := vs_at (vs_B hbw.out HV1.out) (i := 1 + j) (by omega)
                obtain ⟨rfl, rfl⟩ : bq = b1 ∧ oq = o1 := by simpa using hbo.symm
                have qc := s_at hA
                rw [show repS.k = 1 from rfl, Nat.mul_one] at qc
                have hpq : q.getD j [] = p := by
                  rw [Nat.add_comm 1 j, List.getElem?_cons_succ] at hp
                  rw [List.getD_eq_getElem?_getD, hp]; rfl
                have hpl : p.length ≤ 50000 := by
                  have := parts_short 32 s.data.toList p (by rw [HPS.out]; exact List.mem_of_getElem? hp)
                  have := bytes_size s
                  omega
                obtain ⟨c4, hc4⟩ : ∃ c, (sg.getD j 0).toNat = c := ⟨_, rfl⟩
                have hjs : j < (str sg).size := by rw [str_size]; exact hlt2
                have hbt : (str sg)[j].toNat = c4 := by rw [bytes_at, str_data]; exact hc4
                have hopn := fun (d : Nat) => refOperand_any a n c ls ((str sg)[j].toNat : Nat) (str p) (wr.drewN d) (vs_B (below_drewN (Below.refl _ _) d) (vs_B hbw.out VA.out)) hn hl (by rw [str_size]; exact hpl)
                obtain ⟨⟨x, y⟩, hxy⟩ : ∃ r, opR ls (c4 : Nat) p = r := ⟨_, rfl⟩
                simp only [hbt, hxy, pairV] at hopn
                have hbt2 : ((str sg)[j].toNat : Int) = (c4 : Nat) := by rw [hbt]
                have HEA := Lib.hid (show errG (opRn ls) sg q j = y by simp only [errG, opRn, hc4, hpq, hxy])
                have HVA := Lib.hid (show (opRn ls (sg.getD j 0).toNat (q.getD j [])).1 = x by simp only [opRn, hc4, hpq, hxy])
                obtain ⟨v0, k1, k2⟩ := varN_at hv.out j (show j < 3 by omega)
                clear hbo hA hp hpq hpl hc4 hxy
                by_cases hy0 : y = 0
                · subst hy0
                  go_wp2
                  go_quiet ((go_at_call 55; exact Calls.quiet_of_same (hopn _)))
                  clear hopn
                  go_wp2
                  go_roundw
                  case rel =>
                    refine ⟨j + 1, by omega, by go_num, (show ∀ x, x < j + 1 → _ from fun z hz => ?_), ?_, ?_⟩
                    · by_cases e : z = j
                      · subst e; exact HEA.out
                      · exact hno.out z (by omega)
                    · have h6 := varN_set (varN_B (below_drewN (Below.refl _ _) nq) hv.out) j (show j < 3 by omega) (.int .i64 x)
                      rw [vkG_set (by omega) HVA.out] at h6
                      exact h6
                    · exact (below_drewN hbw.out nq).setCell (p := ⟨gv, j, none⟩) hgl _
                  case measure => simp [intOf]; omega
                · have hy : (y != 0) = true := by simpa using hy0
                  have HY0 := Lib.hid hy0
                  clear hy0
                  go_wp2
                  go_quiet ((go_at_call 55; exact Calls.quiet_of_same (hopn _)))
                  clear hopn
                  go_wp2
                  refine bp_cell_tmp ⟨w.heap.size, 0, none⟩ rfl rfl rfl (load_ins (varN_all (xs := [.int .i64 0, .int .i64 0, .int .i64 0, .int .i64 0]) (varN_B (below_drewN (Below.refl _ _) nq) HX5.out) rfl)) ?_
                  refine ⟨?_, below_setN (xs := [.int .i64 0, .int .i64 0, .int .i64 0, .int .i64 0]) (Nat.le_refl _) (below_drewN BW.out nq)⟩
                  have hfe := firstG_some hlt2 hno.out (by rw [HEA.out]; exact HY0.out)
                  rw [HPS.out, instrG, List.getD_cons_zero, HOP.out]
                  simp only [HSG.out, List.length_cons, HN.out, Nat.add_sub_cancel, List.drop_succ_cons, List.drop_zero, hfe, HEA.out]
                  rw [if_neg (fun h => h rfl), capR, if_neg (fun h => HY0.out h.1)]
                  rfl
              · obtain rfl : j = sg.length := by omega
                have v0 := hv.out 0 _ rfl
                have v1 := hv.out 1 _ rfl
                have v2 := hv.out 2 _ rfl
                have hfe := Lib.hid (firstG_none hno.out)
                obtain ⟨a0, e0⟩ : ∃ a, vkG (opRn ls) sg q sg.length 0 = a := ⟨_, rfl⟩
                obtain ⟨a1, e2⟩ : ∃ a, vkG (opRn ls) sg q sg.length 1 = a := ⟨_, rfl⟩
                obtain ⟨a2, e3⟩ : ∃ a, vkG (opRn ls) sg q sg.length 2 = a := ⟨_, rfl⟩
                rw [e0] at v0
                rw [e2] at v1
                rw [e3] at v2
                have HE := Lib.hid (show instrG (opRn ls) (parts 32 s.data.toList) = (((k : Int), a0, a1, a2), 0) by
                  rw [HPS.out, instrG, List.getD_cons_zero, HOP.out]
                  simp only [HSG.out, List.length_cons, HN.out, Nat.add_sub_cancel, List.drop_succ_cons, List.drop_zero, hfe.out]
                  rw [if_neg (fun h => h rfl), ← e0, ← e2, ← e3]
                  rfl)
                clear e0 e2 e3
                by_cases hm : 1000 ≤ m
                · have hm2 : (1000 : Int) ≤ m := by omega
                  have HC := Lib.hid (show capR m (instrG (opRn ls) (parts 32 s.data.toList)) = ((0, 0, 0, 0), 2) by rw [HE.out, capR, if_pos ⟨rfl, hm⟩])
                  go_wp2
                  refine bp_cell_tmp ⟨w.heap.size, 0, none⟩ rfl rfl rfl (load_ins (varN_all (xs := [.int .i64 0, .int .i64 0, .int .i64 0, .int .i64 0]) HX5.out rfl)) ?_
                  exact ⟨by rw [HC.out]; rfl, below_setN (xs := [.int .i64 0, .int .i64 0, .int .i64 0, .int .i64 0]) (Nat.le_refl _) BW.out⟩
                · have hm2 : ¬ (1000 : Int) ≤ m := by omega
                  have HC := Lib.hid (show capR m (instrG (opRn ls) (parts 32 s.data.toList)) = (((k : Int), a0, a1, a2), 0) by rw [HE.out, capR, if_neg (fun h => hm h.2)])
                  go_wp2
                  refine bp_cell_tmp ⟨w.heap.size, 0, none⟩ rfl rfl rfl (load_ins (varN_all (xs := [.int .i64 k, .int .i64 a0, .int .i64 a1, .int .i64 a2]) HX5.out rfl)) ?_
                  exact ⟨by rw [HC.out]; rfl, below_setN (xs := [.int .i64 k, .int .i64 a0, .int .i64 a1, .int .i64 a2]) (Nat.le_refl _) BW.out⟩
          · have HE := Lib.hid (show capR m (instrG (opRn ls) (parts 32 s.data.toList)) = ((0, 0, 0, 0), 12) by
              rw [HPS.out, instrG, List.getD_cons_zero, HOP.out]
              simp only [HSG.out, List.length_cons, HN.out, Nat.add_sub_cancel]
              rw [if_pos hlen]
              rfl)
            have h5 : ((z : Int) + 1 != 1 + (List.length sg : Nat)) = true := by simp; omega
            go_wp2_with fail
            refine (hki _).mono ?_
            rintro e w3 ⟨rfl, hb3⟩
            have X3 := varN_B hb3 X2
            have x0 := X3 0 _ rfl
            have x1 := X3 1 _ rfl
            have x2 := X3 2 _ rfl
            have x3 := X3 3 _ rfl
            go_wp2
            all_goals
              refine bp_cell_tmp ⟨w.heap.size, 0, none⟩ rfl rfl rfl (load_ins (varN_all (xs := [.int .i64 0, .int .i64 0, .int .i64 0, .int .i64 0]) X3 rfl)) ?_
              exact ⟨by rw [HE.out]; rfl, below_setN (xs := [.int .i64 0, .int .i64 0, .int .i64 0, .int .i64 0]) (Nat.le_refl _) (below_from (B1.out.trans (HB2.out.mono B1.out.size)) hb3)⟩
      · have e1 : (opName.getD k [] == p0) = false := by simpa using hp
        obtain ⟨nm, hnm⟩ : ∃ nm, opName.getD k [] = nm := ⟨_, rfl⟩
        have hname := fun (W : World) => refName_any k W hlt
        rw [hnm] at e1 hname
        have HB := Lib.hid hb.out
        have HNO := Lib.hid (show ∀ j, j < k + 1 → opName.getD j [] ≠ p0 by
          intro j hj; by_cases q : j < k
          · exact hno.out j q
          · obtain rfl : j = k := by omega
            exact hp)
        clear hp hnm hb hno
        go_wp2
        go_region_with (go_at_call 39; refine (hname _).mono ?_; rintro e w2 ⟨rfl, hb2⟩; have z3 := cellB hb2 (by assumption))
        all_goals
          have HB2 := Lib.hid (HB.out.drew.trans (hb2.mono HB.out.drew.size))
          clear hb2
          go_wp2
          go_roundw
          case rel => exact ⟨k + 1, by omega, by go_num, HNO.out, HB2.out⟩
          case measure => simp [intOf]; omega
    · obtain rfl : k = 27 := by omega
      have HE := Lib.hid (show capR m (instrG (opRn ls) (parts 32 s.data.toList)) = ((0, 0, 0, 0), 10) by
        rw [HPS.out, instrG, List.getD_cons_zero, opOf_none hno.out]; rfl)
      have HB := Lib.hid hb.out
      clear hb hno
      go_wp2
      have X2 := varN_B HB.out X1.out
      have x0 := X2 0 _ rfl
      have x1 := X2 1 _ rfl
      have x2 := X2 2 _ rfl
      have x3 := X2 3 _ rfl
      go_region
      all_goals
        go_wp2
        refine bp_cell_tmp ⟨w.heap.size, 0, none⟩ rfl rfl rfl (load_ins (varN_D (varN_all (xs := [.int .i64 0, .int .i64 0, .int .i64 0, .int .i64 0]) X2 rfl))) ?_
        exact ⟨by rw [HE.out]; rfl, (below_setN (xs := [.int .i64 0, .int .i64 0, .int .i64 0, .int .i64 0]) (Nat.le_refl _) (B1.out.trans (HB.out.mono B1.out.size))).drew⟩
end Go.Proofs.YtlkeacekdmjafaaDoor
