/- Package asm: aimed. -/
import Derived.Test.YthcogkcjmhjjmaaDoorBpG
import Derived.Test.YthcogkcjmhjjmaaDoorBpD
import Derived.Lib.OthersKept
import Derived.Deep.OwnRows
import Derived.Laws.OwnMore
namespace Go.Proofs.YthcogkcjmhjjmaaDoor
open Go.ChangeShapes Go.WideShapes Go.ChangeAt Go.RowKit
open Gen

def RowB (w : World) (g : Nat) (l : List Bool) : Prop := w.heap[g]? = some (.cells (l.map Value.bool).toArray 4 (0, 0))
theorem rowB_cell {w : World} {g : Nat} {l : List Bool} (h : RowB w g l) {m : Nat} (hm : m < l.length) : w.cell? ⟨g, m, none⟩ = some (.bool (l.getD m false)) ∧ w.frozen? ⟨g, m, none⟩ = false := by
  unfold RowB at h
  refine ⟨?_, free_row h⟩
  simp [World.cell?, h, hm]
theorem rowB_set {w : World} {g : Nat} {l : List Bool} (h : RowB w g l) (m : Nat) (b : Bool) : RowB (w.setCell ⟨g, m, none⟩ (.bool b)) g (l.set m b) := by
  unfold RowB at h ⊢
  simp [World.setCell, Array.getElem?_modify, h, List.map_set]
theorem rowB_B {w w' : World} (hb : Below w.heap.size w w') {g : Nat} {l : List Bool} (h : RowB w g l) : RowB w' g l := by
  unfold RowB at h ⊢
  rw [hb.block g (Array.getElem?_eq_some_iff.1 h).1]; exact h
/-- what is known of each place behind k instructions, and j operands of the next one -/
structure Acc (cs : List Ins) (n k : Nat) (i : Ins) (sg : Bs) (j : Nat) (l : List Bool) : Prop where
  len : l.length = n + 1
  at_ : ∀ m, m ≤ n → l.getD m false = (aimB (cs.take k) m || (List.range j).any fun q => decide ((sg.getD q 0).toNat = 116 ∧ opnd i q = (m : Int)))
theorem acc_skip {cs : List Ins} {n k j : Nat} {i : Ins} {sg : Bs} {l : List Bool} (h : Acc cs n k i sg j l) (hc : (sg.getD j 0).toNat ≠ 116) : Acc cs n k i sg (j + 1) l := by
  refine ⟨h.len, fun m hm => ?_⟩
  have e : decide ((sg.getD j 0).toNat = 116 ∧ opnd i j = (m : Int)) = false := decide_eq_false (fun h => hc h.1)
  rw [h.at_ m hm, List.range_succ, List.any_append, List.any_cons, List.any_nil, e, Bool.or_false, Bool.or_false]
theorem acc_hit {cs : List Ins} {n k j v : Nat} {i : Ins} {sg : Bs} {l : List Bool} (h : Acc cs n k i sg j l) (hc : (sg.getD j 0).toNat = 116) (hv : opnd i j = (v : Int)) (hn : v ≤ n) : Acc cs n k i sg (j + 1) (l.set v true) := by
  refine ⟨by rw [List.length_set]; exact h.len, fun m hm => ?_⟩
  have hl := h.len
  have e : decide ((sg.getD j 0).toNat = 116 ∧ opnd i j = (m : Int)) = decide (v = m) := by
    rw [decide_eq_decide]
    exact ⟨fun h => by have := h.2; omega, fun h => ⟨hc, by omega⟩⟩
  rw [List.range_succ, List.any_append, List.any_cons, List.any_nil, e, Bool.or_false, ← Bool.or_assoc, ← h.at_ m hm]
  simp only [List.getD_eq_getElem?_getD, List.getElem?_set]
  by_cases e : v = m
  · rw [if_pos e, if_pos (by omega), decide_eq_true e, Bool.or_true]
    rfl
  · rw [if_neg e, decide_eq_false e, Bool.or_false]
theorem acc_next {cs : List Ins} {n k : Nat} {i j : Ins} {sg sg2 : Bs} {l : List Bool} (h : Acc cs n k i sg sg.length l) (hs : sgOf i = sg) (hi : cs[k]? = some i) : Acc cs n (k + 1) j sg2 0 l := by
  refine ⟨h.len, fun m hm => ?_⟩
  rw [h.at_ m hm, List.take_add_one, hi]
  simp only [aimB, List.any_append, Option.toList_some, List.any_cons, List.any_nil, Bool.or_false, List.range_zero]
  congr 1
  rw [aimI, hs]
theorem Tryd.infoBool : (Tryd.prog.info? 4).map (fun i => (i.zero, i.size, i.bytes)) = some (some (.bool false), 1, 1) := by kernel_rfl

set_option maxRecDepth 100000 in
set_option maxHeartbeats 4000000 in
theorem aimed_any (a : Option Addr) (n c : Nat) (cs : List Ins) (w : World) (S : Vs repIns Any w a n cs) (hr : rightC cs = true) (G : Glob w) :
    Calls Tryd.prog 30 #[.slice a n c] w fun e w' => e = .returned (.slice (some ⟨w.heap.size, 0, none⟩) (n + 1) (n + 1)) ∧ Below w.heap.size w w' ∧ ∃ l : List Bool, RowB w' w.heap.size l ∧ l.length = n + 1 ∧ ∀ m, m ≤ n → l.getD m false = aimB cs m := by
  have Hn := Lib.hid S.1
  obtain ⟨hn, hm⟩ := rightC_at' hr
  rw [Hn.out] at hn hm
  have HM := Lib.hid hm
  have hmk : ∀ w' : World, (Instr.makeSlice 58 (.int .i64 ((n : Int) + 1)) (.int .i64 ((n : Int) + 1))).run Tryd.prog w' = .ok (.slice (some ⟨w'.heap.size, 0, none⟩) (n + 1) (n + 1)) (w'.alloc (.cells (madeCells #[.bool false] (n + 1)) 4)) := fun w' => by
    have h := run_make_row' (P := Tryd.prog) 58 4 (.bool false) 1 Tryd.underlying58 Tryd.infoBool rfl .i64 .i64 (n + 1) (by omega) (by omega) w'
    rwa [Int.natCast_add] at h
  obtain ⟨W0, hW0⟩ : ∃ W0, W0 = w.alloc (.cells (madeCells #[.bool false] (n + 1)) 4) := ⟨_, rfl⟩
  have hR0 : RowB W0 w.heap.size (List.replicate (n + 1) false) := by
    rw [hW0, RowB, heap_new _ _ _ rfl]
    congr 2
    exact Array.toList_inj.1 (by rw [toList_madeCells_one]; simp)
  have hB0 : Below w.heap.size w W0 := by rw [hW0]; go_grown
  have HR0 := Lib.hid hR0
  have HB0 := Lib.hid hB0
  have HW0 := Lib.hid hW0
  clear hm hr hW0 hR0 hB0
  go_enter Tryd.func30, Tryd.ntmps30
  go_wp2
  rw [← HW0.out]
  go_loopw [15] (fun i wr => ∃ (k : Nat) (l : List Bool), k ≤ n ∧ i = .int .i64 k ∧ Hid (Below w.heap.size w wr ∧ w.heap.size < wr.heap.size) ∧ Hid (RowB wr w.heap.size l) ∧ Hid (Acc cs n k (0, 0, 0, 0) [] 0 l)) (fun i _ => n - (intOf i).toNat)
  case atStart => exact ⟨0, _, Nat.zero_le _, rfl, ⟨HB0.out, by rw [HW0.out]; simp⟩, HR0.out, ⟨List.length_replicate, fun m hm => by
    rw [List.getD_eq_getElem?_getD, List.getElem?_replicate]; split <;> rfl⟩⟩
  case round =>
    obtain ⟨k, l, hk, rfl, hb, hR, hA⟩ := hrel
    obtain ⟨wo, hwo⟩ : ∃ wo : World, wo = wr := ⟨_, rfl⟩
    subst hwo
    by_cases hlt : k < n
    · obtain ⟨b, o, x0, x1, x2, x3, rfl, hx, g0, g1, g2, g3⟩ := ins_of (vs_B hb.out.1 S) hlt
      have hmay : mayB (x0, x1, x2, x3) n = true := HM.out _ (List.mem_of_getElem? hx)
      obtain ⟨h0, hok⟩ := mayB_opnd hmay
      have h0 : 0 ≤ x0 ∧ x0 < 27 := h0
      obtain ⟨op, rfl⟩ : ∃ op : Nat, x0 = (op : Int) := ⟨x0.toNat, by omega⟩
      obtain ⟨sg, hsg⟩ : ∃ sg, opSign.getD op [] = sg := ⟨_, rfl⟩
      obtain ⟨s1, s2⟩ := signs_ok op (by omega)
      have hsi : sgOf ((op : Int), x1, x2, x3) = sg := hsg
      rw [hsg] at s1 s2
      rw [hsi] at hok
      have hG5 := (G.B hb.out.1).A (Obj.cells #[.int .i64 op, .int .i64 x1, .int .i64 x2, .int .i64 x3] 39)
      have hG6 := hG5.A (Obj.cells #[.int .i64 x1, .int .i64 x2, .int .i64 x3] 86)
      have xs := ops_sign hG6 op (by omega)
      rw [hsg] at xs
      have HSC := Lib.hid s2
      have HOK := Lib.hid hok
      have HX := Lib.hid hx
      have HSI := Lib.hid hsi
      obtain ⟨W, hW⟩ : ∃ W, W = ((wo.alloc (Obj.cells #[.int .i64 op, .int .i64 x1, .int .i64 x2, .int .i64 x3] 39)).alloc (Obj.cells #[.int .i64 x1, .int .i64 x2, .int .i64 x3] 86)).iter (str sg) 0 := ⟨_, rfl⟩
      have i1 : (0 : Int) ≤ k := by omega
      have i2 : (k : Int) < n := by omega
      have i3 : (0 : Int) ≤ op := by omega
      have i4 : (op : Int) < 27 := by omega
      have hsz : W.heap.size = wo.heap.size + 3 := by rw [hW]; simp [World.iter]
      have hbW : Below wo.heap.size wo W := by rw [hW]; exact (((Below.refl _ _).alloc (Nat.le_refl _) _).alloc (by simp) _).alloc (by simp; omega) _
      have hit : W.heap[wo.heap.size + 1 + 1]? = some (.stringIter (str sg) 0) := by
        rw [hW]
        have := World.iter_heap ((wo.alloc (Obj.cells #[.int .i64 op, .int .i64 x1, .int .i64 x2, .int .i64 x3] 39)).alloc (Obj.cells #[.int .i64 x1, .int .i64 x2, .int .i64 x3] 86)) (str sg) 0
        simpa using this
      have h6 : VarN W (wo.heap.size + 1) [.int .i64 x1, .int .i64 x2, .int .i64 x3] := by rw [hW]; exact varN_A _ (varN_new [.int .i64 x1, .int .i64 x2, .int .i64 x3] _ (by simp))
      obtain ⟨g6, hg6⟩ : ∃ g6, wo.heap.size + 1 = g6 := ⟨_, rfl⟩
      obtain ⟨gi, hgi⟩ : ∃ gi, wo.heap.size + 1 + 1 = gi := ⟨_, rfl⟩
      have HGL := Lib.hid (show w.heap.size < g6 ∧ g6 < gi ∧ gi < W.heap.size by have := hb.out.2; omega)
      have HG6 := Lib.hid hg6
      have HGI := Lib.hid hgi
      have HBW := Lib.hid (show Below w.heap.size w W from hb.out.1.trans (hbW.mono (Nat.le_of_lt hb.out.2)))
      have HRW := Lib.hid (rowB_B hbW hR.out)
      rw [hgi] at hit
      rw [hg6] at h6
      have HIT := Lib.hid hit
      have H6 := Lib.hid h6
      have HA0 := Lib.hid (show Acc cs n k ((op : Int), x1, x2, x3) sg 0 l from ⟨hA.out.len, fun m hm => (hA.out.at_ m hm).trans rfl⟩)
      have HW := Lib.hid hW
      clear s2 hok hx hsi hG5 hG6 hmay h0 hsg hmk hW hsz hbW hit h6 hg6 hgi hA hR
      go_wp2
      rw [← HW.out, HGI.out, HG6.out]
      clear xs g0 g1 g2 g3 HW HGI HG6
      go_loopw [] (fun wr => ∃ (j : Nat) (l : List Bool), j ≤ sg.length ∧ Hid (Below w.heap.size w wr ∧ gi < wr.heap.size) ∧ Hid (RowB wr w.heap.size l) ∧ Hid (VarN wr g6 [.int .i64 x1, .int .i64 x2, .int .i64 x3]) ∧ Hid (wr.heap[gi]? = some (.stringIter (str sg) j)) ∧ Hid (Acc cs n k ((op : Int), x1, x2, x3) sg j l)) (fun wr => sg.length - wr.iterPos gi)
      case atStart => exact ⟨0, l, Nat.zero_le _, ⟨HBW.out, HGL.out.2.2⟩, HRW.out, H6.out, HIT.out, HA0.out⟩
      case round =>
        clear HBW HRW H6 HIT HA0
        obtain ⟨j, l2, hj, hb2, hR2, h62, hit2, hA2⟩ := hrel
        obtain ⟨wi, hwi⟩ : ∃ wi : World, wi = wr := ⟨_, rfl⟩
        subst hwi
        have hgl := HGL.out
        by_cases hjl : j < sg.length
        · have hjs : j < (str sg).size := by rw [str_size]; exact hjl
          obtain ⟨ch, hch⟩ : ∃ ch, (sg.getD j 0).toNat = ch := ⟨_, rfl⟩
          have hbt : (str sg)[j].toNat = ch := by rw [bytes_at, str_data]; exact hch
          have hcc := HSC.out j hjl
          have hno := HOK.out j (by omega)
          rw [hch] at hcc
          have h128 : (str sg)[j].toNat < 128 := by rw [hbt]; omega
          obtain ⟨W2, hW2⟩ : ∃ W2, W2 = wi.iterAt gi (str sg) (j + 1) := ⟨_, rfl⟩
          have hnx : ∀ ty, (Instr.next (.pointer (some ⟨gi, 0, none⟩)) true ty).run Tryd.prog wi = .ok (.tuple #[.bool true, .int .i64 j, .int .i32 (ch : Nat)]) W2 := fun ty => by
            rw [Lib.run_next_ascii_at wi gi (str sg) j ty hit2.out hjs h128, hbt, hW2]
          have hbi : Below gi wi W2 := by rw [hW2]; exact Lib.below_iterAt (Below.refl gi wi) (Nat.le_refl gi) _ _
          have HB3 := Lib.hid (show Below w.heap.size w W2 from hb2.out.1.trans (hbi.mono (by omega)))
          have HS3 := Lib.hid (show gi < W2.heap.size by rw [hW2, Lib.iterAt_size]; exact hb2.out.2)
          have HR3 := Lib.hid (show RowB W2 w.heap.size l2 by rw [RowB, hbi.block w.heap.size (by omega)]; exact hR2.out)
          have HV3 := Lib.hid (varN_low hbi hgl.2.1 h62.out)
          have HI3 := Lib.hid (show W2.heap[gi]? = some (.stringIter (str sg) (j + 1)) by rw [hW2]; exact Lib.iterAt_heap wi gi (str sg) j (j + 1) hit2.out)
          have HC := Lib.hid hch
          clear hW2 hbt h128 hch hbi
          rcases hcc with rfl | rfl | rfl
          · have HAC := Lib.hid (acc_skip hA2.out (by rw [HC.out]; decide))
            clear hno
            go_wp2
            go_roundw
            case rel => exact ⟨j + 1, l2, by omega, ⟨HB3.out, HS3.out⟩, HR3.out, HV3.out, HI3.out, HAC.out⟩
            case measure => simp only [World.iterPos, HI3.out, hit2.out]; omega
          · have HAC := Lib.hid (acc_skip hA2.out (by rw [HC.out]; decide))
            clear hno
            go_wp2
            go_roundw
            case rel => exact ⟨j + 1, l2, by omega, ⟨HB3.out, HS3.out⟩, HR3.out, HV3.out, HI3.out, HAC.out⟩
            case measure => simp only [World.iterPos, HI3.out, hit2.out]; omega
          · obtain ⟨v, hv⟩ : ∃ v, opnd ((op : Int), x1, x2, x3) j = v := ⟨_, rfl⟩
            rw [kOk, if_pos hjl, HC.out, hv] at hno
            have hv2 : 0 ≤ v ∧ v ≤ n := by simpa [fitsK] using hno
            obtain ⟨vn, rfl⟩ : ∃ vn : Nat, v = (vn : Int) := ⟨v.toNat, by omega⟩
            have hvn : vn ≤ n := by omega
            have HAC := Lib.hid (acc_hit hA2.out HC.out hv hvn)
            have cj : W2.cell? ⟨g6, j, none⟩ = some (.int .i64 vn) := by
              refine (HV3.out j _ ?_).1
              rw [← hv]
              rcases (show j = 0 ∨ j = 1 ∨ j = 2 by omega) with rfl | rfl | rfl <;> rfl
            obtain ⟨r1, r2⟩ := rowB_cell HR3.out (m := vn) (by rw [hA2.out.len]; omega)
            have j1 : (0 : Int) ≤ j := by omega
            have j3 : (j : Int) < 3 := by omega
            have q1 : (0 : Int) ≤ vn := by omega
            have q2 : (vn : Int) < (n : Int) + 1 := by omega
            have q3 : vn < n + 1 := by omega
            have q4 : (vn : Int) < ((n + 1 : Nat) : Int) := by omega
            clear hno hv hv2
            go_wp2
            go_roundw
            case rel =>
              refine ⟨j + 1, l2.set vn true, by omega, ⟨HB3.out.setCell (p := ⟨w.heap.size, vn, none⟩) (Nat.le_refl _) _, ?_⟩, rowB_set HR3.out vn true, varN_other HV3.out (by omega) _, ?_, HAC.out⟩
              · rw [Go.Deep.nblk_setCell]; exact HS3.out
              · show ((W2.setCell ⟨w.heap.size, vn, none⟩ (.bool true)).heap[gi]? = _)
                rw [Below.heap_setCell _ _ _ _ (by simp; omega)]; exact HI3.out
            case measure =>
              have h9 : (W2.setCell ⟨w.heap.size, vn, none⟩ (.bool true)).heap[gi]? = some (.stringIter (str sg) (j + 1)) := by
                rw [Below.heap_setCell _ _ _ _ (by simp; omega)]; exact HI3.out
              simp only [World.iterPos, h9, hit2.out]; omega
        · obtain rfl : j = sg.length := by omega
          have hnx : ∀ ty, (Instr.next (.pointer (some ⟨gi, 0, none⟩)) true ty).run Tryd.prog wi = .ok (.tuple #[.bool false]) wi := fun ty => Lib.run_next_end_at wi gi (str sg) sg.length ty hit2.out (by rw [str_size]; omega)
          have HAC := Lib.hid (acc_next (j := (0, 0, 0, 0)) (sg2 := []) hA2.out HSI.out HX.out)
          go_wp2
          go_roundw
          case rel => exact ⟨k + 1, l2, by omega, by go_num, ⟨hb2.out.1, by have := hb2.out.2; omega⟩, hR2.out, HAC.out⟩
          case measure => simp [intOf]; omega
    · obtain rfl : k = n := by omega
      go_wp2
      go_ret
      refine ⟨rfl, hb.out.1, l, hR.out, hA.out.len, fun m hm => ?_⟩
      have := hA.out.at_ m hm
      rw [List.take_of_length_le (by rw [Hn.out]; exact Nat.le_refl _)] at this
      simpa using this
end Go.Proofs.YthcogkcjmhjjmaaDoor
