/- Package local: Apply. -/
import Derived.Test.YtjddflnecfokaaaLoL
import Derived.Test.YtjddflnecfokaaaLoC
namespace Go.Proofs.Ytjddflnecfokaaa
open Go.ChangeShapes Go.WideShapes Go.ChangeAt Go.RowKit
open Gen

inductive InvA (t : Thr) (i : In4) (k g : Nat) (fa la : Option Addr) (fn fc ln lc : Nat) (a0 : Act) (w0 : World) (listed : Array Bool) (act' : Act) (w' : World) : Prop
  | mk (p32 p33 p34 p35 p8 : Value) (v : Nat) (c0 : Value) (c1 : Value) (ea : act' = (((((a0.put (some 32) p32).put (some 33) p33).put (some 34) p34).put (some 35) p35).put (some 8) p8)) (hb : Below g w0 w' ∧ VarN w' g [.int .i64 t.pc, .int .i64 (t.r 0), .int .i64 (t.r 1), .int .i64 (t.r 2), .int .i64 (t.r 3), .int .i64 (t.r 4), .int .i64 (t.r 5), .int .i64 (t.r 6), .int .i64 (t.r 7), .slice fa fn fc, .int .i64 t.st, .int .i64 t.ft, .slice la ln lc] ∧ VarN w' (g + 1) [.int .i64 i.1, .int .i64 i.2.1, .int .i64 i.2.2.1, .int .i64 i.2.2.2] ∧ VarN w' (g + 2) [.int .i64 0, .int .i64 0, .int .i64 0, .int .i64 0, .int .i64 0, .int .i64 0, .int .i64 0, .int .i64 0, .int .i64 0, .slice none 0 0, .int .i64 0, .int .i64 0, .slice none 0 0]) (hf0 : Up listed 0 → p32 = .agg opsL.toArray) (hf1 : Up listed 1 → p33 = .pointer (some ⟨g + 1, 0, none⟩)) (hf2 : Up listed 2 → p34 = .int .i64 (k : Nat)) (hf3 : Up listed 3 → p35 = .agg #[.string ⟨(loSg k).toArray⟩, .func (.func (fk k)) #[] #[]]) (hA : Up listed 4 → p8 = .pointer (some ⟨v, 0, none⟩) ∧ g + 3 ≤ v ∧ VarN w' v [c0, c1]) (hT : Up listed 5 → Up listed 4 ∧ c0 = .string ⟨(loSg k).toArray⟩ ∧ c1 = .func (.func (fk k)) #[] #[]) : InvA t i k g fa la fn fc ln lc a0 w0 listed act' w'
inductive InvB (t : Thr) (self : Int) (i : In4) (k g v : Nat) (fa la : Option Addr) (fn fc ln lc : Nat) (z : Thr) (x : Int) (a0 : Act) (w0 : World) (listed : Array Bool) (act' : Act) (w' : World) : Prop
  | mk (p42 p43 p44 p45 p46 p47 p48 p49 p50 p51 p7 : Value) (fa2 : Option Addr) (fc2 : Nat) (la2 : Option Addr) (lc2 : Nat) (fa3 : Option Addr) (fn3 : Nat) (fc3 : Nat) (la3 : Option Addr) (ln3 : Nat) (lc3 : Nat) (xs : List Value) (ea : act' = (((((((((((a0.put (some 42) p42).put (some 43) p43).put (some 44) p44).put (some 45) p45).put (some 46) p46).put (some 47) p47).put (some 48) p48).put (some 49) p49).put (some 50) p50).put (some 51) p51).put (some 7) p7)) (hb : Below g w0 w' ∧ VarN w' g [.int .i64 t.pc, .int .i64 (t.r 0), .int .i64 (t.r 1), .int .i64 (t.r 2), .int .i64 (t.r 3), .int .i64 (t.r 4), .int .i64 (t.r 5), .int .i64 (t.r 6), .int .i64 (t.r 7), .slice fa fn fc, .int .i64 t.st, .int .i64 t.ft, .slice la ln lc] ∧ VarN w' (g + 1) [.int .i64 i.1, .int .i64 i.2.1, .int .i64 i.2.2.1, .int .i64 i.2.2.2] ∧ VarN w' v [.string ⟨(loSg k).toArray⟩, .func (.func (fk k)) #[] #[]] ∧ VarN w' (g + 2) xs ∧ xs.length = 13) (hf0 : Up listed 0 → p42 = .pointer (some ⟨v, 1, none⟩)) (hf1 : Up listed 1 → p43 = .func (.func (fk k)) #[] #[]) (hf2 : Up listed 2 → p44 = .agg #[.int .i64 t.pc, .int .i64 (t.r 0), .int .i64 (t.r 1), .int .i64 (t.r 2), .int .i64 (t.r 3), .int .i64 (t.r 4), .int .i64 (t.r 5), .int .i64 (t.r 6), .int .i64 (t.r 7), .slice fa fn fc, .int .i64 t.st, .int .i64 t.ft, .slice la ln lc]) (hC : Up listed 3 → p45 = .agg #[.int .i64 t.pc, .int .i64 (t.r 0), .int .i64 (t.r 1), .int .i64 (t.r 2), .int .i64 (t.r 3), .int .i64 (t.r 4), .int .i64 (t.r 5), .int .i64 (t.r 6), .int .i64 (t.r 7), .slice fa2 fn fc2, .int .i64 t.st, .int .i64 t.ft, .slice la2 ln lc2] ∧ ThQ (fun b => w0.heap.size ≤ b) w' fa2 fn fc2 la2 ln lc2 t) (hf4 : Up listed 4 → p46 = .int .i64 self) (hf5 : Up listed 5 → p47 = .agg #[.int .i64 i.1, .int .i64 i.2.1, .int .i64 i.2.2.1, .int .i64 i.2.2.2]) (hf6 : Up listed 6 → p48 = .agg #[.int .i64 t.pc, .int .i64 (t.r 0), .int .i64 (t.r 1), .int .i64 (t.r 2), .int .i64 (t.r 3), .int .i64 (t.r 4), .int .i64 (t.r 5), .int .i64 (t.r 6), .int .i64 (t.r 7), .slice fa2 fn fc2, .int .i64 t.st, .int .i64 t.ft, .slice la2 ln lc2, .int .i64 self, .int .i64 i.1, .int .i64 i.2.1, .int .i64 i.2.2.1, .int .i64 i.2.2.2]) (hW6 : Up listed 6 → Up listed 3) (hD : Up listed 7 → p49 = .tuple #[.agg #[.int .i64 z.pc, .int .i64 (z.r 0), .int .i64 (z.r 1), .int .i64 (z.r 2), .int .i64 (z.r 3), .int .i64 (z.r 4), .int .i64 (z.r 5), .int .i64 (z.r 6), .int .i64 (z.r 7), .slice fa3 fn3 fc3, .int .i64 z.st, .int .i64 z.ft, .slice la3 ln3 lc3], .int .i64 x] ∧ ThQ (fun b => w0.heap.size ≤ b) w' fa3 fn3 fc3 la3 ln3 lc3 z) (hf8 : Up listed 8 → p50 = .agg #[.int .i64 z.pc, .int .i64 (z.r 0), .int .i64 (z.r 1), .int .i64 (z.r 2), .int .i64 (z.r 3), .int .i64 (z.r 4), .int .i64 (z.r 5), .int .i64 (z.r 6), .int .i64 (z.r 7), .slice fa3 fn3 fc3, .int .i64 z.st, .int .i64 z.ft, .slice la3 ln3 lc3]) (hW8 : Up listed 8 → Up listed 7) (hf9 : Up listed 9 → p51 = .int .i64 x) (hS : Up listed 10 → Up listed 7 ∧ xs = [.int .i64 z.pc, .int .i64 (z.r 0), .int .i64 (z.r 1), .int .i64 (z.r 2), .int .i64 (z.r 3), .int .i64 (z.r 4), .int .i64 (z.r 5), .int .i64 (z.r 6), .int .i64 (z.r 7), .slice fa3 fn3 fc3, .int .i64 z.st, .int .i64 z.ft, .slice la3 ln3 lc3]) (hf11 : Up listed 11 → p7 = .int .i64 x) : InvB t self i k g v fa la fn fc ln lc z x a0 w0 listed act' w'
theorem doT_no {t : Thr} {self : Int} {i : In4} (h : doE t i ≠ 0) : doT t self i = zThr := by
  unfold doE at h
  split at h
  · rename_i h13
    rw [doT, if_neg (by omega), if_neg (by omega), if_neg (by omega), if_pos h13]
    exact callT_no h
  · split at h
    · rename_i hn h14
      rw [doT, if_neg (by omega), if_neg (by omega), if_neg (by omega), if_neg hn, if_pos h14]
      exact backT_no h
    · exact absurd rfl h
set_option maxRecDepth 100000 in
set_option maxHeartbeats 16000000 in
theorem apply_any (t : Thr) (self : Int) (i : In4) (fa la : Option Addr) (fn fc ln lc : Nat) (w : World) (F : ThF w fa fn fc la ln lc t) :
    Calls Try.prog 9 #[.agg #[.int .i64 t.pc, .int .i64 (t.r 0), .int .i64 (t.r 1), .int .i64 (t.r 2), .int .i64 (t.r 3), .int .i64 (t.r 4), .int .i64 (t.r 5), .int .i64 (t.r 6), .int .i64 (t.r 7), .slice fa fn fc, .int .i64 t.st, .int .i64 t.ft, .slice la ln lc], .int .i64 self, .agg #[.int .i64 i.1, .int .i64 i.2.1, .int .i64 i.2.2.1, .int .i64 i.2.2.2]] w (ThPostF (apT t self i) (apE t self i) w) := by
  obtain ⟨W, hW⟩ : ∃ W, W = ((w.alloc (Obj.cells #[.int .i64 t.pc, .int .i64 (t.r 0), .int .i64 (t.r 1), .int .i64 (t.r 2), .int .i64 (t.r 3), .int .i64 (t.r 4), .int .i64 (t.r 5), .int .i64 (t.r 6), .int .i64 (t.r 7), .slice fa fn fc, .int .i64 t.st, .int .i64 t.ft, .slice la ln lc] 27)).alloc (Obj.cells #[.int .i64 i.1, .int .i64 i.2.1, .int .i64 i.2.2.1, .int .i64 i.2.2.2] 29)).alloc (Obj.cells #[.int .i64 0, .int .i64 0, .int .i64 0, .int .i64 0, .int .i64 0, .int .i64 0, .int .i64 0, .int .i64 0, .int .i64 0, .slice none 0 0, .int .i64 0, .int .i64 0, .slice none 0 0] 27) := ⟨_, rfl⟩
  have X : VarN W w.heap.size [.int .i64 t.pc, .int .i64 (t.r 0), .int .i64 (t.r 1), .int .i64 (t.r 2), .int .i64 (t.r 3), .int .i64 (t.r 4), .int .i64 (t.r 5), .int .i64 (t.r 6), .int .i64 (t.r 7), .slice fa fn fc, .int .i64 t.st, .int .i64 t.ft, .slice la ln lc] := by rw [hW]; exact varN_A _ (varN_A _ (varN_new [.int .i64 t.pc, .int .i64 (t.r 0), .int .i64 (t.r 1), .int .i64 (t.r 2), .int .i64 (t.r 3), .int .i64 (t.r 4), .int .i64 (t.r 5), .int .i64 (t.r 6), .int .i64 (t.r 7), .slice fa fn fc, .int .i64 t.st, .int .i64 t.ft, .slice la ln lc] _ rfl))
  have IV : VarN W (w.heap.size + 1) [.int .i64 i.1, .int .i64 i.2.1, .int .i64 i.2.2.1, .int .i64 i.2.2.2] := by rw [hW]; exact varN_A _ (varN_new [.int .i64 i.1, .int .i64 i.2.1, .int .i64 i.2.2.1, .int .i64 i.2.2.2] _ (by simp))
  have R : VarN W (w.heap.size + 2) [.int .i64 0, .int .i64 0, .int .i64 0, .int .i64 0, .int .i64 0, .int .i64 0, .int .i64 0, .int .i64 0, .int .i64 0, .slice none 0 0, .int .i64 0, .int .i64 0, .slice none 0 0] := by rw [hW]; exact varN_new [.int .i64 0, .int .i64 0, .int .i64 0, .int .i64 0, .int .i64 0, .int .i64 0, .int .i64 0, .int .i64 0, .int .i64 0, .slice none 0 0, .int .i64 0, .int .i64 0, .slice none 0 0] _ (by simp)
  have hB : Below w.heap.size w W := by rw [hW]; go_grown
  have hF : ThF W fa fn fc la ln lc t := thF_B hB F
  have HFl := Lib.hid (And.intro F.fs.1 F.lf.1)
  have HX := Lib.hid X
  have HI := Lib.hid IV
  have HR := Lib.hid R
  have HB := Lib.hid hB
  have HW := Lib.hid hW
  have HF := Lib.hid F
  have HFW := Lib.hid hF
  have HFB := Lib.hid hB
  clear hW X IV R hB F hF
  go_enter Try.func9, Try.ntmps9
  go_upto_region 1 with fail
  rw [← HW.out]
  have k0 := (HX.out 0 _ rfl).1
  by_cases hm : mayT7 t self = true
  · have hm' := Lib.hid hm
    have hr : Hid (rightT t = true) := by simp only [mayT7, Bool.and_eq_true] at hm; exact hm.1
    clear hm
    go_wp2_with (refine wpList_load_mid rfl 27 _ rfl w.heap.size 0 rfl [.int .i64 t.pc, .int .i64 (t.r 0), .int .i64 (t.r 1), .int .i64 (t.r 2), .int .i64 (t.r 3), .int .i64 (t.r 4), .int .i64 (t.r 5), .int .i64 (t.r 6), .int .i64 (t.r 7), .slice fa fn fc, .int .i64 t.st, .int .i64 t.ft, .slice la ln lc] _ (varN_range HX.out) Try.underlying27 rfl (by kernel_rfl) ?_)
    refine (loMay_any t self fa la fn fc ln lc W HFW.out).mono ?_
    rintro e w1 ⟨rfl, hb1⟩
    rw [hm'.out]
    have HB1 := Lib.hid (below_from HB.out hb1)
    have HX1 := Lib.hid (varN_B hb1 HX.out)
    have HI1 := Lib.hid (varN_B hb1 HI.out)
    have HR1 := Lib.hid (varN_B hb1 HR.out)
    clear hb1 HX HI HR HFW HB k0
    have k0 := (HX1.out 0 _ rfl).1
    by_cases hp : t.pc = 1000
    · have HE := Lib.hid (show apE t self i = 1 by rw [apE, if_pos (.inr hp)])
      rw [hp] at k0
      clear hp
      go_wp2_with (refine wpList_store_var rfl 27 _ _ rfl (w.heap.size + 2) #[.int .i64 0, .int .i64 0, .int .i64 0, .int .i64 0, .int .i64 0, .int .i64 0, .int .i64 0, .int .i64 0, .int .i64 0, .slice none 0 0, .int .i64 0, .int .i64 0, .slice none 0 0] rfl rfl _ HR1.out rfl (by kernel_rfl) (one_thr zThr none none 0 0 0 0) ?_; intro U HU)
      refine bp_cell_tmp ⟨w.heap.size + 2, 0, none⟩ rfl rfl rfl (load_set (t := zThr) HU HR1.out rfl) ?_
      exact zThr_postF (apT_no (by rw [HE.out]; decide)) HE.out (below_set HU (by omega) HB1.out)
    · have hpb : (t.pc == 1000) = false := by simpa using hp
      have HPC := Lib.hid hp
      clear hp
      by_cases hy : readyT t = true
      · have hy' := Lib.hid hy
        clear hy
        go_wp2_with (refine wpList_load_mid rfl 27 _ rfl w.heap.size 0 rfl [.int .i64 t.pc, .int .i64 (t.r 0), .int .i64 (t.r 1), .int .i64 (t.r 2), .int .i64 (t.r 3), .int .i64 (t.r 4), .int .i64 (t.r 5), .int .i64 (t.r 6), .int .i64 (t.r 7), .slice fa fn fc, .int .i64 t.st, .int .i64 t.ft, .slice la ln lc] _ (varN_range HX1.out) Try.underlying27 rfl (by kernel_rfl) ?_)
        refine (loReady_any t fa la fn fc ln lc _ HFl.out.2).mono ?_
        rintro e w2 ⟨rfl, hb2⟩
        rw [hy'.out]
        have HB2 := Lib.hid (below_from HB1.out hb2)
        have HX2 := Lib.hid (varN_B hb2 HX1.out)
        have HI2 := Lib.hid (varN_B hb2 HI1.out)
        have HR2 := Lib.hid (varN_B hb2 HR1.out)
        clear hb2 HX1 HI1 HR1 HB1 k0 hpb
        have j0 := (HI2.out 0 _ rfl).1
        have HA : Hid (∀ {y : Int}, (if i.1 < 1 ∨ 15 < i.1 then 10 else if fitsI i = false then 3 else doE t i) = y → apE t self i = y) := fun h => by
          rw [apE, if_neg (fun h1 => h1.elim (fun h1 => by rw [hm'.out] at h1; cases h1) HPC.out), if_neg (by rw [hy'.out]; decide)]; exact h
        by_cases ho : i.1 < 1 ∨ 15 < i.1
        · have HE := Lib.hid (show apE t self i = 10 from HA.out (if_pos ho))
          rcases ho with ho | ho
          · have HO := ho
            go_wp2_with (refine wpList_store_var rfl 27 _ _ rfl (w.heap.size + 2) #[.int .i64 0, .int .i64 0, .int .i64 0, .int .i64 0, .int .i64 0, .int .i64 0, .int .i64 0, .int .i64 0, .int .i64 0, .slice none 0 0, .int .i64 0, .int .i64 0, .slice none 0 0] rfl rfl _ HR2.out rfl (by kernel_rfl) (one_thr zThr none none 0 0 0 0) ?_; intro U HU)
            refine bp_cell_tmp ⟨w.heap.size + 2, 0, none⟩ rfl rfl rfl (load_set (t := zThr) HU HR2.out rfl) ?_
            exact zThr_postF (apT_no (by rw [HE.out]; decide)) HE.out (below_set HU (by omega) HB2.out)
          · have ho1 : ¬ i.1 < 1 := by omega
            go_wp2_with (refine wpList_store_var rfl 27 _ _ rfl (w.heap.size + 2) #[.int .i64 0, .int .i64 0, .int .i64 0, .int .i64 0, .int .i64 0, .int .i64 0, .int .i64 0, .int .i64 0, .int .i64 0, .slice none 0 0, .int .i64 0, .int .i64 0, .slice none 0 0] rfl rfl _ HR2.out rfl (by kernel_rfl) (one_thr zThr none none 0 0 0 0) ?_; intro U HU)
            refine bp_cell_tmp ⟨w.heap.size + 2, 0, none⟩ rfl rfl rfl (load_set (t := zThr) HU HR2.out rfl) ?_
            exact zThr_postF (apT_no (by rw [HE.out]; decide)) HE.out (below_set HU (by omega) HB2.out)
        · have ho1 : ¬ i.1 < 1 := by omega
          have ho2 : ¬ 15 < i.1 := by omega
          obtain ⟨k, hk⟩ : ∃ k : Nat, i.1 = k := ⟨i.1.toNat, by omega⟩
          have HK := Lib.hid hk
          have HKK := Lib.hid (show 1 ≤ k ∧ k ≤ 15 by omega)
          have HA2 : Hid (∀ {y : Int}, (if fitsI i = false then 3 else doE t i) = y → apE t self i = y) := fun h => HA.out (by rw [if_neg ho]; exact h)
          clear ho hk HA
          go_upto_region 7 with fail
          clear ho1 ho2 j0
          have HX := HX2
          have HI := HI2
          have HR := HR2
          clear HX2 HI2 HR2
          refine wp_region_inv (InvA t i k w.heap.size fa la fn fc ln lc) (by kernel_rfl) (by kernel_rfl) ?_ ?_ ?_
          · intro listed hl
            exact .mk undef undef undef undef undef 0 undef undef (by simp only [Act.put, List.setIfInBounds_toArray, List.set_cons_zero, List.set_cons_succ]) (⟨(Below.refl _ _).drew, varN_D HX.out, varN_D HI.out, varN_D HR.out⟩) (fun h => absurd h (hl 0 (by decide))) (fun h => absurd h (hl 1 (by decide))) (fun h => absurd h (hl 2 (by decide))) (fun h => absurd h (hl 3 (by decide))) (fun h => absurd h (hl 4 (by decide))) (fun h => absurd h (hl 5 (by decide)))
          · show StepsL _ _ _ _ _ _ _
            refine StepsL.cons (k := 0) rfl (fun listed a1 w1 hI hn hw K hK => ?_) ?_
            · cases hI with | mk p32 p33 p34 p35 p8 v c0 c1 ea hb hf0 hf1 hf2 hf3 hA hT =>
                have Hhf0 := Lib.hid hf0
                have Hhf1 := Lib.hid hf1
                have Hhf2 := Lib.hid hf2
                have Hhf3 := Lib.hid hf3
                have HhA := Lib.hid hA
                have HhT := Lib.hid hT
                have Hhb := Lib.hid hb
                have Hhw := Lib.hid hw
                clear hf0 hf1 hf2 hf3 hA hT hb hw
                rw [ea]
                clear ea
                simp only [Act.put, List.setIfInBounds_toArray, List.set_cons_zero, List.set_cons_succ]
                refine step_pos (by rfl) ?_
                refine wp_calls _ _ _ rfl 21 rfl [] rfl (by kernel_rfl) ((operations_any w1).mono ?_)
                rintro e w2 ⟨rfl, hb2⟩
                refine ⟨_, rfl, ?_⟩
                have hf0 := Hhf0.out
                have hf1 := Hhf1.out
                have hf2 := Hhf2.out
                have hf3 := Hhf3.out
                have hA := HhA.out
                have hT := HhT.out
                have hb := Hhb.out
                have hw := Hhw.out
                refine hK.out _ _ ?_
                exact .mk (.agg opsL.toArray) p33 p34 p35 p8 v c0 c1 (by simp only [Act.put, List.setIfInBounds_toArray, List.set_cons_zero, List.set_cons_succ]) (⟨hb.1.trans (hb2.mono (Nat.le_of_lt (varN_lt hb.2.1 (by simp)))), varN_B hb2 hb.2.1, varN_B hb2 hb.2.2.1, varN_B hb2 hb.2.2.2⟩) (fun _ => rfl) (fun h => hf1 (up_back h (by decide))) (fun h => hf2 (up_back h (by decide))) (fun h => hf3 (up_back h (by decide))) (fun h => ⟨(hA (up_back h (by decide))).1, (hA (up_back h (by decide))).2.1, varN_B hb2 (hA (up_back h (by decide))).2.2⟩) (fun h => ⟨up_old (hT (up_back h (by decide))).1, (hT (up_back h (by decide))).2⟩)
            refine StepsL.cons (k := 1) rfl (fun listed a1 w1 hI hn hw K hK => ?_) ?_
            · cases hI with | mk p32 p33 p34 p35 p8 v c0 c1 ea hb hf0 hf1 hf2 hf3 hA hT =>
                have Hhf0 := Lib.hid hf0
                have Hhf1 := Lib.hid hf1
                have Hhf2 := Lib.hid hf2
                have Hhf3 := Lib.hid hf3
                have HhA := Lib.hid hA
                have HhT := Lib.hid hT
                have Hhb := Lib.hid hb
                have Hhw := Lib.hid hw
                clear hf0 hf1 hf2 hf3 hA hT hb hw
                rw [ea]
                clear ea
                simp only [Act.put, List.setIfInBounds_toArray, List.set_cons_zero, List.set_cons_succ]
                go_simp
                have hf0 := Hhf0.out
                have hf1 := Hhf1.out
                have hf2 := Hhf2.out
                have hf3 := Hhf3.out
                have hA := HhA.out
                have hT := HhT.out
                have hb := Hhb.out
                have hw := Hhw.out
                refine hK.out _ _ ?_
                exact .mk p32 (.pointer (some ⟨w.heap.size + 1, 0, none⟩)) p34 p35 p8 v c0 c1 (by simp only [Act.put, List.setIfInBounds_toArray, List.set_cons_zero, List.set_cons_succ]) (hb) (fun h => hf0 (up_back h (by decide))) (fun _ => rfl) (fun h => hf2 (up_back h (by decide))) (fun h => hf3 (up_back h (by decide))) (fun h => hA (up_back h (by decide))) (fun h => ⟨up_old (hT (up_back h (by decide))).1, (hT (up_back h (by decide))).2⟩)
            refine StepsL.cons (k := 2) rfl (fun listed a1 w1 hI hn hw K hK => ?_) ?_
            · cases hI with | mk p32 p33 p34 p35 p8 v c0 c1 ea hb hf0 hf1 hf2 hf3 hA hT =>
                have e_f1 := hf1 (hw 1 (by decide))
                subst e_f1
                have kc := (hb.2.2.1 0 _ rfl).1
                rw [HK.out] at kc
                have Hhf0 := Lib.hid hf0
                have Hhf1 := Lib.hid hf1
                have Hhf2 := Lib.hid hf2
                have Hhf3 := Lib.hid hf3
                have HhA := Lib.hid hA
                have HhT := Lib.hid hT
                have Hhb := Lib.hid hb
                have Hhw := Lib.hid hw
                clear hf0 hf1 hf2 hf3 hA hT hb hw
                rw [ea]
                clear ea
                simp only [Act.put, List.setIfInBounds_toArray, List.set_cons_zero, List.set_cons_succ]
                go_simp
                have hf0 := Hhf0.out
                have hf1 := Hhf1.out
                have hf2 := Hhf2.out
                have hf3 := Hhf3.out
                have hA := HhA.out
                have hT := HhT.out
                have hb := Hhb.out
                have hw := Hhw.out
                refine hK.out _ _ ?_
                exact .mk p32 (.pointer (some ⟨w.heap.size + 1, 0, none⟩)) (.int .i64 (k : Nat)) p35 p8 v c0 c1 (by simp only [Act.put, List.setIfInBounds_toArray, List.set_cons_zero, List.set_cons_succ]) (hb) (fun h => hf0 (up_back h (by decide))) (fun _ => rfl) (fun _ => rfl) (fun h => hf3 (up_back h (by decide))) (fun h => hA (up_back h (by decide))) (fun h => ⟨up_old (hT (up_back h (by decide))).1, (hT (up_back h (by decide))).2⟩)
            refine StepsL.cons (k := 3) rfl (fun listed a1 w1 hI hn hw K hK => ?_) ?_
            · cases hI with | mk p32 p33 p34 p35 p8 v c0 c1 ea hb hf0 hf1 hf2 hf3 hA hT =>
                have e_f0 := hf0 (hw 0 (by decide))
                have e_f2 := hf2 (hw 2 (by decide))
                subst e_f0 e_f2
                have Hhf0 := Lib.hid hf0
                have Hhf1 := Lib.hid hf1
                have Hhf2 := Lib.hid hf2
                have Hhf3 := Lib.hid hf3
                have HhA := Lib.hid hA
                have HhT := Lib.hid hT
                have Hhb := Lib.hid hb
                have Hhw := Lib.hid hw
                clear hf0 hf1 hf2 hf3 hA hT hb hw
                rw [ea]
                clear ea
                simp only [Act.put, List.setIfInBounds_toArray, List.set_cons_zero, List.set_cons_succ]
                refine step_pos (by rfl) ?_
                refine wp_index _ _ _ rfl _ _ _ rfl rfl (run_index_ops k HKK.out.1 HKK.out.2 w1) ?_
                have hf0 := Hhf0.out
                have hf1 := Hhf1.out
                have hf2 := Hhf2.out
                have hf3 := Hhf3.out
                have hA := HhA.out
                have hT := HhT.out
                have hb := Hhb.out
                have hw := Hhw.out
                refine hK.out _ _ ?_
                exact .mk (.agg opsL.toArray) p33 (.int .i64 (k : Nat)) (.agg #[.string ⟨(loSg k).toArray⟩, .func (.func (fk k)) #[] #[]]) p8 v c0 c1 (by simp only [Act.put, List.setIfInBounds_toArray, List.set_cons_zero, List.set_cons_succ]) (hb) (fun _ => rfl) (fun h => hf1 (up_back h (by decide))) (fun _ => rfl) (fun _ => rfl) (fun h => hA (up_back h (by decide))) (fun h => ⟨up_old (hT (up_back h (by decide))).1, (hT (up_back h (by decide))).2⟩)
            refine StepsL.cons (k := 4) rfl (fun listed a1 w1 hI hn hw K hK => ?_) ?_
            · cases hI with | mk p32 p33 p34 p35 p8 v c0 c1 ea hb hf0 hf1 hf2 hf3 hA hT =>
                have Hhf0 := Lib.hid hf0
                have Hhf1 := Lib.hid hf1
                have Hhf2 := Lib.hid hf2
                have Hhf3 := Lib.hid hf3
                have HhA := Lib.hid hA
                have HhT := Lib.hid hT
                have Hhb := Lib.hid hb
                have Hhw := Lib.hid hw
                clear hf0 hf1 hf2 hf3 hA hT hb hw
                rw [ea]
                clear ea
                simp only [Act.put, List.setIfInBounds_toArray, List.set_cons_zero, List.set_cons_succ]
                refine step_pos (by rfl) ?_
                go_simp
                have hf0 := Hhf0.out
                have hf1 := Hhf1.out
                have hf2 := Hhf2.out
                have hf3 := Hhf3.out
                have hA := HhA.out
                have hT := HhT.out
                have hb := Hhb.out
                have hw := Hhw.out
                refine hK.out _ _ ?_
                exact .mk p32 p33 p34 p35 (.pointer (some ⟨w1.heap.size, 0, none⟩)) w1.heap.size (.string ⟨#[]⟩) .nilFunc (by simp only [Act.put, List.setIfInBounds_toArray, List.set_cons_zero, List.set_cons_succ]) (⟨hb.1.alloc (Nat.le_of_lt (varN_lt hb.2.1 (by simp))) _, varN_A _ hb.2.1, varN_A _ hb.2.2.1, varN_A _ hb.2.2.2⟩) (fun h => hf0 (up_back h (by decide))) (fun h => hf1 (up_back h (by decide))) (fun h => hf2 (up_back h (by decide))) (fun h => hf3 (up_back h (by decide))) (fun _ => ⟨rfl, by have := varN_lt hb.2.2.2 (by simp); omega, varN_new [.string ⟨#[]⟩, .nilFunc] _ rfl⟩) (fun h => absurd (hT (up_back h (by decide))).1 hn)
            refine StepsL.cons (k := 5) rfl (fun listed a1 w1 hI hn hw K hK => ?_) ?_
            · cases hI with | mk p32 p33 p34 p35 p8 v c0 c1 ea hb hf0 hf1 hf2 hf3 hA hT =>
                have e_f3 := hf3 (hw 3 (by decide))
                subst e_f3
                obtain ⟨e8, hv3, hV⟩ := hA (hw 4 (by decide))
                subst e8
                have HV9 := Lib.hid hV
                clear hV
                have Hhf0 := Lib.hid hf0
                have Hhf1 := Lib.hid hf1
                have Hhf2 := Lib.hid hf2
                have Hhf3 := Lib.hid hf3
                have HhA := Lib.hid hA
                have HhT := Lib.hid hT
                have Hhb := Lib.hid hb
                have Hhw := Lib.hid hw
                clear hf0 hf1 hf2 hf3 hA hT hb hw
                rw [ea]
                clear ea
                simp only [Act.put, List.setIfInBounds_toArray, List.set_cons_zero, List.set_cons_succ]
                refine step_pos (by rfl) ?_
                refine wp_store_var 50 _ _ rfl v #[.string ⟨(loSg k).toArray⟩, .func (.func (fk k)) #[] #[]] rfl rfl [c0, c1] HV9.out rfl (by kernel_rfl) (by simp [Value.oneCell']) ?_
                intro U HU
                have hf0 := Hhf0.out
                have hf1 := Hhf1.out
                have hf2 := Hhf2.out
                have hf3 := Hhf3.out
                have hA := HhA.out
                have hT := HhT.out
                have hb := Hhb.out
                have hw := Hhw.out
                refine hK.out _ _ ?_
                exact .mk p32 p33 p34 (.agg #[.string ⟨(loSg k).toArray⟩, .func (.func (fk k)) #[] #[]]) (.pointer (some ⟨v, 0, none⟩)) v (.string ⟨(loSg k).toArray⟩) (.func (.func (fk k)) #[] #[]) (by simp only [Act.put, List.setIfInBounds_toArray, List.set_cons_zero, List.set_cons_succ]) (⟨below_set HU (by omega) hb.1, by rw [HU.out]; exact varN_others (by omega) hb.2.1, by rw [HU.out]; exact varN_others (by omega) hb.2.2.1, by rw [HU.out]; exact varN_others (by omega) hb.2.2.2⟩) (fun h => hf0 (up_back h (by decide))) (fun h => hf1 (up_back h (by decide))) (fun h => hf2 (up_back h (by decide))) (fun _ => rfl) (fun _ => ⟨rfl, hv3, by rw [HU.out]; exact varN_all (xs := [.string ⟨(loSg k).toArray⟩, .func (.func (fk k)) #[] #[]]) HV9.out rfl⟩) (fun _ => ⟨up_old (hw 4 (by decide)), rfl, rfl⟩)
            exact StepsL.nil
          · intro listed a1 w3 hI hu
            cases hI with | mk p32 p33 p34 p35 p8 v c0 c1 ea hb hf0 hf1 hf2 hf3 hA hT =>
              obtain ⟨e8, hv3, hV⟩ := hA (hu 4)
              obtain ⟨-, hc0, hc1⟩ := hT (hu 5)
              subst e8 hc0 hc1
              have HB3 := Lib.hid (HB2.out.trans hb.1)
              have HX3 := Lib.hid hb.2.1
              have HI3 := Lib.hid hb.2.2.1
              have HR3 := Lib.hid hb.2.2.2
              have HV3 := Lib.hid hV
              have HGV := Lib.hid hv3
              clear hf0 hf1 hf2 hf3 hA hT hb hu hV HX HI HR HB2 hv3
              rw [ea]
              clear ea
              simp only [Act.put, List.setIfInBounds_toArray, List.set_cons_zero, List.set_cons_succ]
              have kv := (HV3.out 0 _ rfl).1
              by_cases hfi : fitsI i = true
              · have HFI := Lib.hid hfi
                clear hfi
                go_wp2_with (refine wpList_load_mid rfl 29 _ rfl (w.heap.size + 1) 0 rfl [.int .i64 i.1, .int .i64 i.2.1, .int .i64 i.2.2.1, .int .i64 i.2.2.2] _ (varN_range HI3.out) Try.underlying29 rfl (by kernel_rfl) ?_)
                have h0 := fits_any i (loSg k) w3 (sgs_len k)
                refine h0.mono ?_
                clear h0
                rintro e w4 ⟨rfl, hb4⟩
                rw [show fitsS i (loSg k) = true by have h := HFI.out; rw [fitsI, HK.out] at h; exact h]
                have HB4 := Lib.hid (below_from HB3.out hb4)
                have HX4 := Lib.hid (varN_B hb4 HX3.out)
                have HI4 := Lib.hid (varN_B hb4 HI3.out)
                have HR4 := Lib.hid (varN_B hb4 HR3.out)
                have HV4 := Lib.hid (varN_B hb4 HV3.out)
                clear hb4 HX3 HI3 HR3 HV3 HB3 kv
                go_upto_region 10 with fail
                have HRT := hr
                have HFB := HB4
                have HX2 := HX4
                have HI2 := HI4
                have HR2 := HR4
                have HV2 := HV4
                have HG := Lib.hid (show w.heap.size + 2 < w4.heap.size ∧ w.heap.size ≤ v ∧ v ≠ w.heap.size ∧ v ≠ w.heap.size + 1 ∧ v ≠ w.heap.size + 2 from ⟨varN_lt HR4.out (by simp), by have := HGV.out; omega, by have := HGV.out; omega, by have := HGV.out; omega, by have := HGV.out; omega⟩)
                clear HGV HX4 HI4 HR4 HV4 hr HB4
                obtain ⟨z, hz⟩ : ∃ z, doT t self i = z := ⟨_, rfl⟩
                obtain ⟨x, hx⟩ : ∃ x, doE t i = x := ⟨_, rfl⟩
                have HZ := Lib.hid hz
                have HXE := Lib.hid hx
                have HN := HFl
                have HL := Lib.hid (show fn ≤ 1000 ∧ ln ≤ 1000 from by have h := rightT_len HRT.out; have h2 := HFl.out; omega)
                have HGV := HG
                clear hz hx HG HFl
                refine wp_region_inv (InvB t self i k w.heap.size v fa la fn fc ln lc z x) (by kernel_rfl) (by kernel_rfl) ?_ ?_ ?_
                · intro listed hl
                  exact .mk undef undef undef undef undef undef undef undef undef undef (.int .i64 0) none 0 none 0 none 0 0 none 0 0 [.int .i64 0, .int .i64 0, .int .i64 0, .int .i64 0, .int .i64 0, .int .i64 0, .int .i64 0, .int .i64 0, .int .i64 0, .slice none 0 0, .int .i64 0, .int .i64 0, .slice none 0 0] (by simp only [Act.put, List.setIfInBounds_toArray, List.set_cons_zero, List.set_cons_succ]) (⟨(Below.refl _ _).drew, varN_D HX2.out, varN_D HI2.out, varN_D HV2.out, varN_D HR2.out, rfl⟩) (fun h => absurd h (hl 0 (by decide))) (fun h => absurd h (hl 1 (by decide))) (fun h => absurd h (hl 2 (by decide))) (fun h => absurd h (hl 3 (by decide))) (fun h => absurd h (hl 4 (by decide))) (fun h => absurd h (hl 5 (by decide))) (fun h => absurd h (hl 6 (by decide))) (fun h => absurd h (hl 6 (by decide))) (fun h => absurd h (hl 7 (by decide))) (fun h => absurd h (hl 8 (by decide))) (fun h => absurd h (hl 8 (by decide))) (fun h => absurd h (hl 9 (by decide))) (fun h => absurd h (hl 10 (by decide))) (fun h => absurd h (hl 11 (by decide)))
                · show StepsL _ _ _ _ _ _ _
                  refine StepsL.cons (k := 0) rfl (fun listed a1 w1 hI hn hw K hK => ?_) ?_
                  · cases hI with | mk p42 p43 p44 p45 p46 p47 p48 p49 p50 p51 p7 fa2 fc2 la2 lc2 fa3 fn3 fc3 la3 ln3 lc3 xs ea hb hf0 hf1 hf2 hC hf4 hf5 hf6 hW6 hD hf8 hW8 hf9 hS hf11 =>
                      have Hhf0 := Lib.hid hf0
                      have Hhf1 := Lib.hid hf1
                      have Hhf2 := Lib.hid hf2
                      have HhC := Lib.hid hC
                      have Hhf4 := Lib.hid hf4
                      have Hhf5 := Lib.hid hf5
                      have Hhf6 := Lib.hid hf6
                      have HhW6 := Lib.hid hW6
                      have HhD := Lib.hid hD
                      have Hhf8 := Lib.hid hf8
                      have HhW8 := Lib.hid hW8
                      have Hhf9 := Lib.hid hf9
                      have HhS := Lib.hid hS
                      have Hhf11 := Lib.hid hf11
                      have Hhb := Lib.hid hb
                      have Hhw := Lib.hid hw
                      clear hf0 hf1 hf2 hC hf4 hf5 hf6 hW6 hD hf8 hW8 hf9 hS hf11 hb hw
                      rw [ea]
                      clear ea
                      simp only [Act.put, List.setIfInBounds_toArray, List.set_cons_zero, List.set_cons_succ]
                      go_simp
                      have hf0 := Hhf0.out
                      have hf1 := Hhf1.out
                      have hf2 := Hhf2.out
                      have hC := HhC.out
                      have hf4 := Hhf4.out
                      have hf5 := Hhf5.out
                      have hf6 := Hhf6.out
                      have hW6 := HhW6.out
                      have hD := HhD.out
                      have hf8 := Hhf8.out
                      have hW8 := HhW8.out
                      have hf9 := Hhf9.out
                      have hS := HhS.out
                      have hf11 := Hhf11.out
                      have hb := Hhb.out
                      have hw := Hhw.out
                      refine hK.out _ _ ?_
                      exact .mk (.pointer (some ⟨v, 1, none⟩)) p43 p44 p45 p46 p47 p48 p49 p50 p51 p7 fa2 fc2 la2 lc2 fa3 fn3 fc3 la3 ln3 lc3 xs (by simp only [Act.put, List.setIfInBounds_toArray, List.set_cons_zero, List.set_cons_succ]) (hb) (fun _ => rfl) (fun h => hf1 (up_back h (by decide))) (fun h => hf2 (up_back h (by decide))) (fun h => hC (up_back h (by decide))) (fun h => hf4 (up_back h (by decide))) (fun h => hf5 (up_back h (by decide))) (fun h => hf6 (up_back h (by decide))) (fun h => up_old (hW6 (up_back h (by decide)))) (fun h => hD (up_back h (by decide))) (fun h => hf8 (up_back h (by decide))) (fun h => up_old (hW8 (up_back h (by decide)))) (fun h => hf9 (up_back h (by decide))) (fun h => ⟨up_old (hS (up_back h (by decide))).1, (hS (up_back h (by decide))).2⟩) (fun h => hf11 (up_back h (by decide)))
                  refine StepsL.cons (k := 1) rfl (fun listed a1 w1 hI hn hw K hK => ?_) ?_
                  · cases hI with | mk p42 p43 p44 p45 p46 p47 p48 p49 p50 p51 p7 fa2 fc2 la2 lc2 fa3 fn3 fc3 la3 ln3 lc3 xs ea hb hf0 hf1 hf2 hC hf4 hf5 hf6 hW6 hD hf8 hW8 hf9 hS hf11 =>
                      have e_f0 := hf0 (hw 0 (by decide))
                      subst e_f0
                      have kc := (hb.2.2.2.1 1 _ rfl).1
                      have Hhf0 := Lib.hid hf0
                      have Hhf1 := Lib.hid hf1
                      have Hhf2 := Lib.hid hf2
                      have HhC := Lib.hid hC
                      have Hhf4 := Lib.hid hf4
                      have Hhf5 := Lib.hid hf5
                      have Hhf6 := Lib.hid hf6
                      have HhW6 := Lib.hid hW6
                      have HhD := Lib.hid hD
                      have Hhf8 := Lib.hid hf8
                      have HhW8 := Lib.hid hW8
                      have Hhf9 := Lib.hid hf9
                      have HhS := Lib.hid hS
                      have Hhf11 := Lib.hid hf11
                      have Hhb := Lib.hid hb
                      have Hhw := Lib.hid hw
                      clear hf0 hf1 hf2 hC hf4 hf5 hf6 hW6 hD hf8 hW8 hf9 hS hf11 hb hw
                      rw [ea]
                      clear ea
                      simp only [Act.put, List.setIfInBounds_toArray, List.set_cons_zero, List.set_cons_succ]
                      go_simp
                      have hf0 := Hhf0.out
                      have hf1 := Hhf1.out
                      have hf2 := Hhf2.out
                      have hC := HhC.out
                      have hf4 := Hhf4.out
                      have hf5 := Hhf5.out
                      have hf6 := Hhf6.out
                      have hW6 := HhW6.out
                      have hD := HhD.out
                      have hf8 := Hhf8.out
                      have hW8 := HhW8.out
                      have hf9 := Hhf9.out
                      have hS := HhS.out
                      have hf11 := Hhf11.out
                      have hb := Hhb.out
                      have hw := Hhw.out
                      refine hK.out _ _ ?_
                      exact .mk (.pointer (some ⟨v, 1, none⟩)) (.func (.func (fk k)) #[] #[]) p44 p45 p46 p47 p48 p49 p50 p51 p7 fa2 fc2 la2 lc2 fa3 fn3 fc3 la3 ln3 lc3 xs (by simp only [Act.put, List.setIfInBounds_toArray, List.set_cons_zero, List.set_cons_succ]) (hb) (fun _ => rfl) (fun _ => rfl) (fun h => hf2 (up_back h (by decide))) (fun h => hC (up_back h (by decide))) (fun h => hf4 (up_back h (by decide))) (fun h => hf5 (up_back h (by decide))) (fun h => hf6 (up_back h (by decide))) (fun h => up_old (hW6 (up_back h (by decide)))) (fun h => hD (up_back h (by decide))) (fun h => hf8 (up_back h (by decide))) (fun h => up_old (hW8 (up_back h (by decide)))) (fun h => hf9 (up_back h (by decide))) (fun h => ⟨up_old (hS (up_back h (by decide))).1, (hS (up_back h (by decide))).2⟩) (fun h => hf11 (up_back h (by decide)))
                  refine StepsL.cons (k := 2) rfl (fun listed a1 w1 hI hn hw K hK => ?_) ?_
                  · cases hI with | mk p42 p43 p44 p45 p46 p47 p48 p49 p50 p51 p7 fa2 fc2 la2 lc2 fa3 fn3 fc3 la3 ln3 lc3 xs ea hb hf0 hf1 hf2 hC hf4 hf5 hf6 hW6 hD hf8 hW8 hf9 hS hf11 =>
                      have Hhf0 := Lib.hid hf0
                      have Hhf1 := Lib.hid hf1
                      have Hhf2 := Lib.hid hf2
                      have HhC := Lib.hid hC
                      have Hhf4 := Lib.hid hf4
                      have Hhf5 := Lib.hid hf5
                      have Hhf6 := Lib.hid hf6
                      have HhW6 := Lib.hid hW6
                      have HhD := Lib.hid hD
                      have Hhf8 := Lib.hid hf8
                      have HhW8 := Lib.hid hW8
                      have Hhf9 := Lib.hid hf9
                      have HhS := Lib.hid hS
                      have Hhf11 := Lib.hid hf11
                      have Hhb := Lib.hid hb
                      have Hhw := Lib.hid hw
                      clear hf0 hf1 hf2 hC hf4 hf5 hf6 hW6 hD hf8 hW8 hf9 hS hf11 hb hw
                      rw [ea]
                      clear ea
                      simp only [Act.put, List.setIfInBounds_toArray, List.set_cons_zero, List.set_cons_succ]
                      refine step_pos (by rfl) ?_
                      refine wp_load_mid 27 _ rfl w.heap.size 0 rfl [.int .i64 t.pc, .int .i64 (t.r 0), .int .i64 (t.r 1), .int .i64 (t.r 2), .int .i64 (t.r 3), .int .i64 (t.r 4), .int .i64 (t.r 5), .int .i64 (t.r 6), .int .i64 (t.r 7), .slice fa fn fc, .int .i64 t.st, .int .i64 t.ft, .slice la ln lc] _ (varN_range Hhb.out.2.1) Try.underlying27 rfl (by kernel_rfl) ?_
                      have hf0 := Hhf0.out
                      have hf1 := Hhf1.out
                      have hf2 := Hhf2.out
                      have hC := HhC.out
                      have hf4 := Hhf4.out
                      have hf5 := Hhf5.out
                      have hf6 := Hhf6.out
                      have hW6 := HhW6.out
                      have hD := HhD.out
                      have hf8 := Hhf8.out
                      have hW8 := HhW8.out
                      have hf9 := Hhf9.out
                      have hS := HhS.out
                      have hf11 := Hhf11.out
                      have hb := Hhb.out
                      have hw := Hhw.out
                      refine hK.out _ _ ?_
                      exact .mk p42 p43 (.agg #[.int .i64 t.pc, .int .i64 (t.r 0), .int .i64 (t.r 1), .int .i64 (t.r 2), .int .i64 (t.r 3), .int .i64 (t.r 4), .int .i64 (t.r 5), .int .i64 (t.r 6), .int .i64 (t.r 7), .slice fa fn fc, .int .i64 t.st, .int .i64 t.ft, .slice la ln lc]) p45 p46 p47 p48 p49 p50 p51 p7 fa2 fc2 la2 lc2 fa3 fn3 fc3 la3 ln3 lc3 xs (by simp only [Act.put, List.setIfInBounds_toArray, List.set_cons_zero, List.set_cons_succ]) (hb) (fun h => hf0 (up_back h (by decide))) (fun h => hf1 (up_back h (by decide))) (fun _ => rfl) (fun h => hC (up_back h (by decide))) (fun h => hf4 (up_back h (by decide))) (fun h => hf5 (up_back h (by decide))) (fun h => hf6 (up_back h (by decide))) (fun h => up_old (hW6 (up_back h (by decide)))) (fun h => hD (up_back h (by decide))) (fun h => hf8 (up_back h (by decide))) (fun h => up_old (hW8 (up_back h (by decide)))) (fun h => hf9 (up_back h (by decide))) (fun h => ⟨up_old (hS (up_back h (by decide))).1, (hS (up_back h (by decide))).2⟩) (fun h => hf11 (up_back h (by decide)))
                  refine StepsL.cons (k := 3) rfl (fun listed a1 w1 hI hn hw K hK => ?_) ?_
                  · cases hI with | mk p42 p43 p44 p45 p46 p47 p48 p49 p50 p51 p7 fa2 fc2 la2 lc2 fa3 fn3 fc3 la3 ln3 lc3 xs ea hb hf0 hf1 hf2 hC hf4 hf5 hf6 hW6 hD hf8 hW8 hf9 hS hf11 =>
                      have e_f2 := hf2 (hw 2 (by decide))
                      subst e_f2
                      have HSZ1 : w4.heap.size ≤ w1.heap.size := hb.1.size
                      have Hhf0 := Lib.hid hf0
                      have Hhf1 := Lib.hid hf1
                      have Hhf2 := Lib.hid hf2
                      have HhC := Lib.hid hC
                      have Hhf4 := Lib.hid hf4
                      have Hhf5 := Lib.hid hf5
                      have Hhf6 := Lib.hid hf6
                      have HhW6 := Lib.hid hW6
                      have HhD := Lib.hid hD
                      have Hhf8 := Lib.hid hf8
                      have HhW8 := Lib.hid hW8
                      have Hhf9 := Lib.hid hf9
                      have HhS := Lib.hid hS
                      have Hhf11 := Lib.hid hf11
                      have Hhb := Lib.hid hb
                      have Hhw := Lib.hid hw
                      clear hf0 hf1 hf2 hC hf4 hf5 hf6 hW6 hD hf8 hW8 hf9 hS hf11 hb hw
                      rw [ea]
                      clear ea
                      simp only [Act.put, List.setIfInBounds_toArray, List.set_cons_zero, List.set_cons_succ]
                      refine step_pos (by rfl) ?_
                      refine wp_calls _ _ _ rfl 23 rfl [.agg #[.int .i64 t.pc, .int .i64 (t.r 0), .int .i64 (t.r 1), .int .i64 (t.r 2), .int .i64 (t.r 3), .int .i64 (t.r 4), .int .i64 (t.r 5), .int .i64 (t.r 6), .int .i64 (t.r 7), .slice fa fn fc, .int .i64 t.st, .int .i64 t.ft, .slice la ln lc]] rfl (by kernel_rfl) ((loCopied_any t fa la fn fc ln lc w1 (thF_B (HFB.out.trans Hhb.out.1) HF.out) HL.out.1 HL.out.2).mono ?_)
                      rintro e w2 ⟨fa9, fc9, la9, lc9, rfl, d1, -, d2, d3, d4, hb2⟩
                      rw [HN.out.1] at d1 d2 ⊢
                      rw [HN.out.2] at d3 d4 ⊢
                      refine ⟨_, rfl, ?_⟩
                      have hf0 := Hhf0.out
                      have hf1 := Hhf1.out
                      have hf2 := Hhf2.out
                      have hC := HhC.out
                      have hf4 := Hhf4.out
                      have hf5 := Hhf5.out
                      have hf6 := Hhf6.out
                      have hW6 := HhW6.out
                      have hD := HhD.out
                      have hf8 := Hhf8.out
                      have hW8 := HhW8.out
                      have hf9 := Hhf9.out
                      have hS := HhS.out
                      have hf11 := Hhf11.out
                      have hb := Hhb.out
                      have hw := Hhw.out
                      refine hK.out _ _ ?_
                      exact .mk p42 p43 (.agg #[.int .i64 t.pc, .int .i64 (t.r 0), .int .i64 (t.r 1), .int .i64 (t.r 2), .int .i64 (t.r 3), .int .i64 (t.r 4), .int .i64 (t.r 5), .int .i64 (t.r 6), .int .i64 (t.r 7), .slice fa fn fc, .int .i64 t.st, .int .i64 t.ft, .slice la ln lc]) (.agg #[.int .i64 t.pc, .int .i64 (t.r 0), .int .i64 (t.r 1), .int .i64 (t.r 2), .int .i64 (t.r 3), .int .i64 (t.r 4), .int .i64 (t.r 5), .int .i64 (t.r 6), .int .i64 (t.r 7), .slice fa9 fn fc9, .int .i64 t.st, .int .i64 t.ft, .slice la9 ln lc9]) p46 p47 p48 p49 p50 p51 p7 fa9 fc9 la9 lc9 fa3 fn3 fc3 la3 ln3 lc3 xs (by simp only [Act.put, List.setIfInBounds_toArray, List.set_cons_zero, List.set_cons_succ]) (⟨hb.1.trans (hb2.mono (Nat.le_of_lt (varN_lt hb.2.1 (by simp)))), varN_B hb2 hb.2.1, varN_B hb2 hb.2.2.1, varN_B hb2 hb.2.2.2.1, varN_B hb2 hb.2.2.2.2.1, hb.2.2.2.2.2⟩) (fun h => hf0 (up_back h (by decide))) (fun h => hf1 (up_back h (by decide))) (fun _ => rfl) (fun _ => ⟨rfl, d1, vs_mono (fun b hq => Nat.le_trans HSZ1 hq) d2, d3, vs_mono (fun b hq => Nat.le_trans HSZ1 hq.1) d4⟩) (fun h => hf4 (up_back h (by decide))) (fun h => hf5 (up_back h (by decide))) (fun h => absurd (hW6 (up_back h (by decide))) hn) (fun h => up_old (hW6 (up_back h (by decide)))) (fun h => ⟨(hD (up_back h (by decide))).1, thQ_keep (kept_B hb2) (hD (up_back h (by decide))).2⟩) (fun h => hf8 (up_back h (by decide))) (fun h => up_old (hW8 (up_back h (by decide)))) (fun h => hf9 (up_back h (by decide))) (fun h => ⟨up_old (hS (up_back h (by decide))).1, (hS (up_back h (by decide))).2⟩) (fun h => hf11 (up_back h (by decide)))
                  refine StepsL.cons (k := 4) rfl (fun listed a1 w1 hI hn hw K hK => ?_) ?_
                  · cases hI with | mk p42 p43 p44 p45 p46 p47 p48 p49 p50 p51 p7 fa2 fc2 la2 lc2 fa3 fn3 fc3 la3 ln3 lc3 xs ea hb hf0 hf1 hf2 hC hf4 hf5 hf6 hW6 hD hf8 hW8 hf9 hS hf11 =>
                      have Hhf0 := Lib.hid hf0
                      have Hhf1 := Lib.hid hf1
                      have Hhf2 := Lib.hid hf2
                      have HhC := Lib.hid hC
                      have Hhf4 := Lib.hid hf4
                      have Hhf5 := Lib.hid hf5
                      have Hhf6 := Lib.hid hf6
                      have HhW6 := Lib.hid hW6
                      have HhD := Lib.hid hD
                      have Hhf8 := Lib.hid hf8
                      have HhW8 := Lib.hid hW8
                      have Hhf9 := Lib.hid hf9
                      have HhS := Lib.hid hS
                      have Hhf11 := Lib.hid hf11
                      have Hhb := Lib.hid hb
                      have Hhw := Lib.hid hw
                      clear hf0 hf1 hf2 hC hf4 hf5 hf6 hW6 hD hf8 hW8 hf9 hS hf11 hb hw
                      rw [ea]
                      clear ea
                      simp only [Act.put, List.setIfInBounds_toArray, List.set_cons_zero, List.set_cons_succ]
                      go_simp
                      have hf0 := Hhf0.out
                      have hf1 := Hhf1.out
                      have hf2 := Hhf2.out
                      have hC := HhC.out
                      have hf4 := Hhf4.out
                      have hf5 := Hhf5.out
                      have hf6 := Hhf6.out
                      have hW6 := HhW6.out
                      have hD := HhD.out
                      have hf8 := Hhf8.out
                      have hW8 := HhW8.out
                      have hf9 := Hhf9.out
                      have hS := HhS.out
                      have hf11 := Hhf11.out
                      have hb := Hhb.out
                      have hw := Hhw.out
                      refine hK.out _ _ ?_
                      exact .mk p42 p43 p44 p45 (.int .i64 self) p47 p48 p49 p50 p51 p7 fa2 fc2 la2 lc2 fa3 fn3 fc3 la3 ln3 lc3 xs (by simp only [Act.put, List.setIfInBounds_toArray, List.set_cons_zero, List.set_cons_succ]) (hb) (fun h => hf0 (up_back h (by decide))) (fun h => hf1 (up_back h (by decide))) (fun h => hf2 (up_back h (by decide))) (fun h => hC (up_back h (by decide))) (fun _ => rfl) (fun h => hf5 (up_back h (by decide))) (fun h => hf6 (up_back h (by decide))) (fun h => up_old (hW6 (up_back h (by decide)))) (fun h => hD (up_back h (by decide))) (fun h => hf8 (up_back h (by decide))) (fun h => up_old (hW8 (up_back h (by decide)))) (fun h => hf9 (up_back h (by decide))) (fun h => ⟨up_old (hS (up_back h (by decide))).1, (hS (up_back h (by decide))).2⟩) (fun h => hf11 (up_back h (by decide)))
                  refine StepsL.cons (k := 5) rfl (fun listed a1 w1 hI hn hw K hK => ?_) ?_
                  · cases hI with | mk p42 p43 p44 p45 p46 p47 p48 p49 p50 p51 p7 fa2 fc2 la2 lc2 fa3 fn3 fc3 la3 ln3 lc3 xs ea hb hf0 hf1 hf2 hC hf4 hf5 hf6 hW6 hD hf8 hW8 hf9 hS hf11 =>
                      have Hhf0 := Lib.hid hf0
                      have Hhf1 := Lib.hid hf1
                      have Hhf2 := Lib.hid hf2
                      have HhC := Lib.hid hC
                      have Hhf4 := Lib.hid hf4
                      have Hhf5 := Lib.hid hf5
                      have Hhf6 := Lib.hid hf6
                      have HhW6 := Lib.hid hW6
                      have HhD := Lib.hid hD
                      have Hhf8 := Lib.hid hf8
                      have HhW8 := Lib.hid hW8
                      have Hhf9 := Lib.hid hf9
                      have HhS := Lib.hid hS
                      have Hhf11 := Lib.hid hf11
                      have Hhb := Lib.hid hb
                      have Hhw := Lib.hid hw
                      clear hf0 hf1 hf2 hC hf4 hf5 hf6 hW6 hD hf8 hW8 hf9 hS hf11 hb hw
                      rw [ea]
                      clear ea
                      simp only [Act.put, List.setIfInBounds_toArray, List.set_cons_zero, List.set_cons_succ]
                      refine step_pos (by rfl) ?_
                      refine wp_load_mid 29 _ rfl (w.heap.size + 1) 0 rfl [.int .i64 i.1, .int .i64 i.2.1, .int .i64 i.2.2.1, .int .i64 i.2.2.2] _ (varN_range Hhb.out.2.2.1) Try.underlying29 rfl (by kernel_rfl) ?_
                      have hf0 := Hhf0.out
                      have hf1 := Hhf1.out
                      have hf2 := Hhf2.out
                      have hC := HhC.out
                      have hf4 := Hhf4.out
                      have hf5 := Hhf5.out
                      have hf6 := Hhf6.out
                      have hW6 := HhW6.out
                      have hD := HhD.out
                      have hf8 := Hhf8.out
                      have hW8 := HhW8.out
                      have hf9 := Hhf9.out
                      have hS := HhS.out
                      have hf11 := Hhf11.out
                      have hb := Hhb.out
                      have hw := Hhw.out
                      refine hK.out _ _ ?_
                      exact .mk p42 p43 p44 p45 p46 (.agg #[.int .i64 i.1, .int .i64 i.2.1, .int .i64 i.2.2.1, .int .i64 i.2.2.2]) p48 p49 p50 p51 p7 fa2 fc2 la2 lc2 fa3 fn3 fc3 la3 ln3 lc3 xs (by simp only [Act.put, List.setIfInBounds_toArray, List.set_cons_zero, List.set_cons_succ]) (hb) (fun h => hf0 (up_back h (by decide))) (fun h => hf1 (up_back h (by decide))) (fun h => hf2 (up_back h (by decide))) (fun h => hC (up_back h (by decide))) (fun h => hf4 (up_back h (by decide))) (fun _ => rfl) (fun h => hf6 (up_back h (by decide))) (fun h => up_old (hW6 (up_back h (by decide)))) (fun h => hD (up_back h (by decide))) (fun h => hf8 (up_back h (by decide))) (fun h => up_old (hW8 (up_back h (by decide)))) (fun h => hf9 (up_back h (by decide))) (fun h => ⟨up_old (hS (up_back h (by decide))).1, (hS (up_back h (by decide))).2⟩) (fun h => hf11 (up_back h (by decide)))
                  refine StepsL.cons (k := 6) rfl (fun listed a1 w1 hI hn hw K hK => ?_) ?_
                  · cases hI with | mk p42 p43 p44 p45 p46 p47 p48 p49 p50 p51 p7 fa2 fc2 la2 lc2 fa3 fn3 fc3 la3 ln3 lc3 xs ea hb hf0 hf1 hf2 hC hf4 hf5 hf6 hW6 hD hf8 hW8 hf9 hS hf11 =>
                      have e_f4 := hf4 (hw 4 (by decide))
                      have e_f5 := hf5 (hw 5 (by decide))
                      subst e_f4 e_f5
                      obtain ⟨e45, hC2⟩ := hC (hw 3 (by decide))
                      subst e45
                      have Hhf0 := Lib.hid hf0
                      have Hhf1 := Lib.hid hf1
                      have Hhf2 := Lib.hid hf2
                      have HhC := Lib.hid hC
                      have Hhf4 := Lib.hid hf4
                      have Hhf5 := Lib.hid hf5
                      have Hhf6 := Lib.hid hf6
                      have HhW6 := Lib.hid hW6
                      have HhD := Lib.hid hD
                      have Hhf8 := Lib.hid hf8
                      have HhW8 := Lib.hid hW8
                      have Hhf9 := Lib.hid hf9
                      have HhS := Lib.hid hS
                      have Hhf11 := Lib.hid hf11
                      have Hhb := Lib.hid hb
                      have Hhw := Lib.hid hw
                      clear hf0 hf1 hf2 hC hf4 hf5 hf6 hW6 hD hf8 hW8 hf9 hS hf11 hb hw
                      rw [ea]
                      clear ea
                      simp only [Act.put, List.setIfInBounds_toArray, List.set_cons_zero, List.set_cons_succ]
                      go_simp
                      have hf0 := Hhf0.out
                      have hf1 := Hhf1.out
                      have hf2 := Hhf2.out
                      have hC := HhC.out
                      have hf4 := Hhf4.out
                      have hf5 := Hhf5.out
                      have hf6 := Hhf6.out
                      have hW6 := HhW6.out
                      have hD := HhD.out
                      have hf8 := Hhf8.out
                      have hW8 := HhW8.out
                      have hf9 := Hhf9.out
                      have hS := HhS.out
                      have hf11 := Hhf11.out
                      have hb := Hhb.out
                      have hw := Hhw.out
                      refine hK.out _ _ ?_
                      exact .mk p42 p43 p44 (.agg #[.int .i64 t.pc, .int .i64 (t.r 0), .int .i64 (t.r 1), .int .i64 (t.r 2), .int .i64 (t.r 3), .int .i64 (t.r 4), .int .i64 (t.r 5), .int .i64 (t.r 6), .int .i64 (t.r 7), .slice fa2 fn fc2, .int .i64 t.st, .int .i64 t.ft, .slice la2 ln lc2]) (.int .i64 self) (.agg #[.int .i64 i.1, .int .i64 i.2.1, .int .i64 i.2.2.1, .int .i64 i.2.2.2]) (.agg #[.int .i64 t.pc, .int .i64 (t.r 0), .int .i64 (t.r 1), .int .i64 (t.r 2), .int .i64 (t.r 3), .int .i64 (t.r 4), .int .i64 (t.r 5), .int .i64 (t.r 6), .int .i64 (t.r 7), .slice fa2 fn fc2, .int .i64 t.st, .int .i64 t.ft, .slice la2 ln lc2, .int .i64 self, .int .i64 i.1, .int .i64 i.2.1, .int .i64 i.2.2.1, .int .i64 i.2.2.2]) p49 p50 p51 p7 fa2 fc2 la2 lc2 fa3 fn3 fc3 la3 ln3 lc3 xs (by simp only [Act.put, List.setIfInBounds_toArray, List.set_cons_zero, List.set_cons_succ]) (hb) (fun h => hf0 (up_back h (by decide))) (fun h => hf1 (up_back h (by decide))) (fun h => hf2 (up_back h (by decide))) (fun _ => ⟨rfl, hC2⟩) (fun _ => rfl) (fun _ => rfl) (fun _ => rfl) (fun _ => up_old (hw 3 (by decide))) (fun h => hD (up_back h (by decide))) (fun h => hf8 (up_back h (by decide))) (fun h => up_old (hW8 (up_back h (by decide)))) (fun h => hf9 (up_back h (by decide))) (fun h => ⟨up_old (hS (up_back h (by decide))).1, (hS (up_back h (by decide))).2⟩) (fun h => hf11 (up_back h (by decide)))
                  refine StepsL.cons (k := 7) rfl (fun listed a1 w1 hI hn hw K hK => ?_) ?_
                  · cases hI with | mk p42 p43 p44 p45 p46 p47 p48 p49 p50 p51 p7 fa2 fc2 la2 lc2 fa3 fn3 fc3 la3 ln3 lc3 xs ea hb hf0 hf1 hf2 hC hf4 hf5 hf6 hW6 hD hf8 hW8 hf9 hS hf11 =>
                      have e_f1 := hf1 (hw 1 (by decide))
                      have e_f6 := hf6 (hw 6 (by decide))
                      subst e_f1 e_f6
                      obtain ⟨e45, hC2⟩ := hC (hW6 (hw 6 (by decide)))
                      have HSZ1 : w4.heap.size ≤ w1.heap.size := hb.1.size
                      have Hhf0 := Lib.hid hf0
                      have Hhf1 := Lib.hid hf1
                      have Hhf2 := Lib.hid hf2
                      have HhC := Lib.hid hC
                      have Hhf4 := Lib.hid hf4
                      have Hhf5 := Lib.hid hf5
                      have Hhf6 := Lib.hid hf6
                      have HhW6 := Lib.hid hW6
                      have HhD := Lib.hid hD
                      have Hhf8 := Lib.hid hf8
                      have HhW8 := Lib.hid hW8
                      have Hhf9 := Lib.hid hf9
                      have HhS := Lib.hid hS
                      have Hhf11 := Lib.hid hf11
                      have Hhb := Lib.hid hb
                      have Hhw := Lib.hid hw
                      clear hf0 hf1 hf2 hC hf4 hf5 hf6 hW6 hD hf8 hW8 hf9 hS hf11 hb hw
                      rw [ea]
                      clear ea
                      simp only [Act.put, List.setIfInBounds_toArray, List.set_cons_zero, List.set_cons_succ]
                      refine step_pos (by rfl) ?_
                      have h0 := does_any (fun b => w4.heap.size ≤ b) t self i k fa2 la2 fn fc2 ln lc2 w1 HK.out HKK.out.1 HKK.out.2 HFI.out HRT.out hC2 (fun b hq => Nat.le_trans HSZ1 hq)
                      rw [HZ.out, HXE.out] at h0
                      refine wp_calls _ _ _ rfl (fk k) rfl [.agg #[.int .i64 t.pc, .int .i64 (t.r 0), .int .i64 (t.r 1), .int .i64 (t.r 2), .int .i64 (t.r 3), .int .i64 (t.r 4), .int .i64 (t.r 5), .int .i64 (t.r 6), .int .i64 (t.r 7), .slice fa2 fn fc2, .int .i64 t.st, .int .i64 t.ft, .slice la2 ln lc2, .int .i64 self, .int .i64 i.1, .int .i64 i.2.1, .int .i64 i.2.2.1, .int .i64 i.2.2.2]] rfl (fk_body k HKK.out.1 HKK.out.2) (h0.mono ?_)
                      rintro e w2 ⟨fa9, fn9, fc9, la9, ln9, lc9, rfl, hq9, hb2⟩
                      refine ⟨_, rfl, ?_⟩
                      have hf0 := Hhf0.out
                      have hf1 := Hhf1.out
                      have hf2 := Hhf2.out
                      have hC := HhC.out
                      have hf4 := Hhf4.out
                      have hf5 := Hhf5.out
                      have hf6 := Hhf6.out
                      have hW6 := HhW6.out
                      have hD := HhD.out
                      have hf8 := Hhf8.out
                      have hW8 := HhW8.out
                      have hf9 := Hhf9.out
                      have hS := HhS.out
                      have hf11 := Hhf11.out
                      have hb := Hhb.out
                      have hw := Hhw.out
                      refine hK.out _ _ ?_
                      exact .mk p42 (.func (.func (fk k)) #[] #[]) p44 p45 p46 p47 (.agg #[.int .i64 t.pc, .int .i64 (t.r 0), .int .i64 (t.r 1), .int .i64 (t.r 2), .int .i64 (t.r 3), .int .i64 (t.r 4), .int .i64 (t.r 5), .int .i64 (t.r 6), .int .i64 (t.r 7), .slice fa2 fn fc2, .int .i64 t.st, .int .i64 t.ft, .slice la2 ln lc2, .int .i64 self, .int .i64 i.1, .int .i64 i.2.1, .int .i64 i.2.2.1, .int .i64 i.2.2.2]) (.tuple #[.agg #[.int .i64 z.pc, .int .i64 (z.r 0), .int .i64 (z.r 1), .int .i64 (z.r 2), .int .i64 (z.r 3), .int .i64 (z.r 4), .int .i64 (z.r 5), .int .i64 (z.r 6), .int .i64 (z.r 7), .slice fa9 fn9 fc9, .int .i64 z.st, .int .i64 z.ft, .slice la9 ln9 lc9], .int .i64 x]) p50 p51 p7 fa2 fc2 la2 lc2 fa9 fn9 fc9 la9 ln9 lc9 xs (by simp only [Act.put, List.setIfInBounds_toArray, List.set_cons_zero, List.set_cons_succ]) (⟨hb.1.trans (hb2.mono (Nat.le_of_lt (varN_lt hb.2.1 (by simp)))), varN_B hb2 hb.2.1, varN_B hb2 hb.2.2.1, varN_B hb2 hb.2.2.2.1, varN_B hb2 hb.2.2.2.2.1, hb.2.2.2.2.2⟩) (fun h => hf0 (up_back h (by decide))) (fun _ => rfl) (fun h => hf2 (up_back h (by decide))) (fun h => ⟨(hC (up_back h (by decide))).1, thQ_keep (kept_B hb2) (hC (up_back h (by decide))).2⟩) (fun h => hf4 (up_back h (by decide))) (fun h => hf5 (up_back h (by decide))) (fun _ => rfl) (fun h => up_old (hW6 (up_back h (by decide)))) (fun _ => ⟨rfl, hq9⟩) (fun h => absurd (hW8 (up_back h (by decide))) hn) (fun h => up_old (hW8 (up_back h (by decide)))) (fun h => hf9 (up_back h (by decide))) (fun h => absurd (hS (up_back h (by decide))).1 hn) (fun h => hf11 (up_back h (by decide)))
                  refine StepsL.cons (k := 8) rfl (fun listed a1 w1 hI hn hw K hK => ?_) ?_
                  · cases hI with | mk p42 p43 p44 p45 p46 p47 p48 p49 p50 p51 p7 fa2 fc2 la2 lc2 fa3 fn3 fc3 la3 ln3 lc3 xs ea hb hf0 hf1 hf2 hC hf4 hf5 hf6 hW6 hD hf8 hW8 hf9 hS hf11 =>
                      obtain ⟨e49, hD2⟩ := hD (hw 7 (by decide))
                      subst e49
                      have Hhf0 := Lib.hid hf0
                      have Hhf1 := Lib.hid hf1
                      have Hhf2 := Lib.hid hf2
                      have HhC := Lib.hid hC
                      have Hhf4 := Lib.hid hf4
                      have Hhf5 := Lib.hid hf5
                      have Hhf6 := Lib.hid hf6
                      have HhW6 := Lib.hid hW6
                      have HhD := Lib.hid hD
                      have Hhf8 := Lib.hid hf8
                      have HhW8 := Lib.hid hW8
                      have Hhf9 := Lib.hid hf9
                      have HhS := Lib.hid hS
                      have Hhf11 := Lib.hid hf11
                      have Hhb := Lib.hid hb
                      have Hhw := Lib.hid hw
                      clear hf0 hf1 hf2 hC hf4 hf5 hf6 hW6 hD hf8 hW8 hf9 hS hf11 hb hw
                      rw [ea]
                      clear ea
                      simp only [Act.put, List.setIfInBounds_toArray, List.set_cons_zero, List.set_cons_succ]
                      go_simp
                      have hf0 := Hhf0.out
                      have hf1 := Hhf1.out
                      have hf2 := Hhf2.out
                      have hC := HhC.out
                      have hf4 := Hhf4.out
                      have hf5 := Hhf5.out
                      have hf6 := Hhf6.out
                      have hW6 := HhW6.out
                      have hD := HhD.out
                      have hf8 := Hhf8.out
                      have hW8 := HhW8.out
                      have hf9 := Hhf9.out
                      have hS := HhS.out
                      have hf11 := Hhf11.out
                      have hb := Hhb.out
                      have hw := Hhw.out
                      refine hK.out _ _ ?_
                      exact .mk p42 p43 p44 p45 p46 p47 p48 (.tuple #[.agg #[.int .i64 z.pc, .int .i64 (z.r 0), .int .i64 (z.r 1), .int .i64 (z.r 2), .int .i64 (z.r 3), .int .i64 (z.r 4), .int .i64 (z.r 5), .int .i64 (z.r 6), .int .i64 (z.r 7), .slice fa3 fn3 fc3, .int .i64 z.st, .int .i64 z.ft, .slice la3 ln3 lc3], .int .i64 x]) (.agg #[.int .i64 z.pc, .int .i64 (z.r 0), .int .i64 (z.r 1), .int .i64 (z.r 2), .int .i64 (z.r 3), .int .i64 (z.r 4), .int .i64 (z.r 5), .int .i64 (z.r 6), .int .i64 (z.r 7), .slice fa3 fn3 fc3, .int .i64 z.st, .int .i64 z.ft, .slice la3 ln3 lc3]) p51 p7 fa2 fc2 la2 lc2 fa3 fn3 fc3 la3 ln3 lc3 xs (by simp only [Act.put, List.setIfInBounds_toArray, List.set_cons_zero, List.set_cons_succ]) (hb) (fun h => hf0 (up_back h (by decide))) (fun h => hf1 (up_back h (by decide))) (fun h => hf2 (up_back h (by decide))) (fun h => hC (up_back h (by decide))) (fun h => hf4 (up_back h (by decide))) (fun h => hf5 (up_back h (by decide))) (fun h => hf6 (up_back h (by decide))) (fun h => up_old (hW6 (up_back h (by decide)))) (fun _ => ⟨rfl, hD2⟩) (fun _ => rfl) (fun _ => up_old (hw 7 (by decide))) (fun h => hf9 (up_back h (by decide))) (fun h => ⟨up_old (hS (up_back h (by decide))).1, (hS (up_back h (by decide))).2⟩) (fun h => hf11 (up_back h (by decide)))
                  refine StepsL.cons (k := 9) rfl (fun listed a1 w1 hI hn hw K hK => ?_) ?_
                  · cases hI with | mk p42 p43 p44 p45 p46 p47 p48 p49 p50 p51 p7 fa2 fc2 la2 lc2 fa3 fn3 fc3 la3 ln3 lc3 xs ea hb hf0 hf1 hf2 hC hf4 hf5 hf6 hW6 hD hf8 hW8 hf9 hS hf11 =>
                      obtain ⟨e49, hD2⟩ := hD (hw 7 (by decide))
                      subst e49
                      have Hhf0 := Lib.hid hf0
                      have Hhf1 := Lib.hid hf1
                      have Hhf2 := Lib.hid hf2
                      have HhC := Lib.hid hC
                      have Hhf4 := Lib.hid hf4
                      have Hhf5 := Lib.hid hf5
                      have Hhf6 := Lib.hid hf6
                      have HhW6 := Lib.hid hW6
                      have HhD := Lib.hid hD
                      have Hhf8 := Lib.hid hf8
                      have HhW8 := Lib.hid hW8
                      have Hhf9 := Lib.hid hf9
                      have HhS := Lib.hid hS
                      have Hhf11 := Lib.hid hf11
                      have Hhb := Lib.hid hb
                      have Hhw := Lib.hid hw
                      clear hf0 hf1 hf2 hC hf4 hf5 hf6 hW6 hD hf8 hW8 hf9 hS hf11 hb hw
                      rw [ea]
                      clear ea
                      simp only [Act.put, List.setIfInBounds_toArray, List.set_cons_zero, List.set_cons_succ]
                      go_simp
                      have hf0 := Hhf0.out
                      have hf1 := Hhf1.out
                      have hf2 := Hhf2.out
                      have hC := HhC.out
                      have hf4 := Hhf4.out
                      have hf5 := Hhf5.out
                      have hf6 := Hhf6.out
                      have hW6 := HhW6.out
                      have hD := HhD.out
                      have hf8 := Hhf8.out
                      have hW8 := HhW8.out
                      have hf9 := Hhf9.out
                      have hS := HhS.out
                      have hf11 := Hhf11.out
                      have hb := Hhb.out
                      have hw := Hhw.out
                      refine hK.out _ _ ?_
                      exact .mk p42 p43 p44 p45 p46 p47 p48 (.tuple #[.agg #[.int .i64 z.pc, .int .i64 (z.r 0), .int .i64 (z.r 1), .int .i64 (z.r 2), .int .i64 (z.r 3), .int .i64 (z.r 4), .int .i64 (z.r 5), .int .i64 (z.r 6), .int .i64 (z.r 7), .slice fa3 fn3 fc3, .int .i64 z.st, .int .i64 z.ft, .slice la3 ln3 lc3], .int .i64 x]) p50 (.int .i64 x) p7 fa2 fc2 la2 lc2 fa3 fn3 fc3 la3 ln3 lc3 xs (by simp only [Act.put, List.setIfInBounds_toArray, List.set_cons_zero, List.set_cons_succ]) (hb) (fun h => hf0 (up_back h (by decide))) (fun h => hf1 (up_back h (by decide))) (fun h => hf2 (up_back h (by decide))) (fun h => hC (up_back h (by decide))) (fun h => hf4 (up_back h (by decide))) (fun h => hf5 (up_back h (by decide))) (fun h => hf6 (up_back h (by decide))) (fun h => up_old (hW6 (up_back h (by decide)))) (fun _ => ⟨rfl, hD2⟩) (fun h => hf8 (up_back h (by decide))) (fun h => up_old (hW8 (up_back h (by decide)))) (fun _ => rfl) (fun h => ⟨up_old (hS (up_back h (by decide))).1, (hS (up_back h (by decide))).2⟩) (fun h => hf11 (up_back h (by decide)))
                  refine StepsL.cons (k := 10) rfl (fun listed a1 w1 hI hn hw K hK => ?_) ?_
                  · cases hI with | mk p42 p43 p44 p45 p46 p47 p48 p49 p50 p51 p7 fa2 fc2 la2 lc2 fa3 fn3 fc3 la3 ln3 lc3 xs ea hb hf0 hf1 hf2 hC hf4 hf5 hf6 hW6 hD hf8 hW8 hf9 hS hf11 =>
                      have e_f8 := hf8 (hw 8 (by decide))
                      subst e_f8
                      have hup7 := hW8 (hw 8 (by decide))
                      have HSZ1 : w.heap.size + 2 < w4.heap.size ∧ w.heap.size ≤ v ∧ v ≠ w.heap.size ∧ v ≠ w.heap.size + 1 ∧ v ≠ w.heap.size + 2 := HGV.out
                      have Hhf0 := Lib.hid hf0
                      have Hhf1 := Lib.hid hf1
                      have Hhf2 := Lib.hid hf2
                      have HhC := Lib.hid hC
                      have Hhf4 := Lib.hid hf4
                      have Hhf5 := Lib.hid hf5
                      have Hhf6 := Lib.hid hf6
                      have HhW6 := Lib.hid hW6
                      have HhD := Lib.hid hD
                      have Hhf8 := Lib.hid hf8
                      have HhW8 := Lib.hid hW8
                      have Hhf9 := Lib.hid hf9
                      have HhS := Lib.hid hS
                      have Hhf11 := Lib.hid hf11
                      have Hhb := Lib.hid hb
                      have Hhw := Lib.hid hw
                      clear hf0 hf1 hf2 hC hf4 hf5 hf6 hW6 hD hf8 hW8 hf9 hS hf11 hb hw
                      rw [ea]
                      clear ea
                      simp only [Act.put, List.setIfInBounds_toArray, List.set_cons_zero, List.set_cons_succ]
                      refine step_pos (by rfl) ?_
                      refine wp_store_var 27 _ _ rfl (w.heap.size + 2) #[.int .i64 z.pc, .int .i64 (z.r 0), .int .i64 (z.r 1), .int .i64 (z.r 2), .int .i64 (z.r 3), .int .i64 (z.r 4), .int .i64 (z.r 5), .int .i64 (z.r 6), .int .i64 (z.r 7), .slice fa3 fn3 fc3, .int .i64 z.st, .int .i64 z.ft, .slice la3 ln3 lc3] rfl rfl xs Hhb.out.2.2.2.2.1 Hhb.out.2.2.2.2.2.symm (by kernel_rfl) (one_thr _ _ _ _ _ _ _) ?_
                      intro U HU
                      have hf0 := Hhf0.out
                      have hf1 := Hhf1.out
                      have hf2 := Hhf2.out
                      have hC := HhC.out
                      have hf4 := Hhf4.out
                      have hf5 := Hhf5.out
                      have hf6 := Hhf6.out
                      have hW6 := HhW6.out
                      have hD := HhD.out
                      have hf8 := Hhf8.out
                      have hW8 := HhW8.out
                      have hf9 := Hhf9.out
                      have hS := HhS.out
                      have hf11 := Hhf11.out
                      have hb := Hhb.out
                      have hw := Hhw.out
                      refine hK.out _ _ ?_
                      exact .mk p42 p43 p44 p45 p46 p47 p48 p49 (.agg #[.int .i64 z.pc, .int .i64 (z.r 0), .int .i64 (z.r 1), .int .i64 (z.r 2), .int .i64 (z.r 3), .int .i64 (z.r 4), .int .i64 (z.r 5), .int .i64 (z.r 6), .int .i64 (z.r 7), .slice fa3 fn3 fc3, .int .i64 z.st, .int .i64 z.ft, .slice la3 ln3 lc3]) p51 p7 fa2 fc2 la2 lc2 fa3 fn3 fc3 la3 ln3 lc3 [.int .i64 z.pc, .int .i64 (z.r 0), .int .i64 (z.r 1), .int .i64 (z.r 2), .int .i64 (z.r 3), .int .i64 (z.r 4), .int .i64 (z.r 5), .int .i64 (z.r 6), .int .i64 (z.r 7), .slice fa3 fn3 fc3, .int .i64 z.st, .int .i64 z.ft, .slice la3 ln3 lc3] (by simp only [Act.put, List.setIfInBounds_toArray, List.set_cons_zero, List.set_cons_succ]) (⟨below_set HU (by omega) hb.1, by rw [HU.out]; exact varN_others (by omega) hb.2.1, by rw [HU.out]; exact varN_others (by omega) hb.2.2.1, by rw [HU.out]; exact varN_others (by omega) hb.2.2.2.1, by rw [HU.out]; exact varN_all (xs := [.int .i64 z.pc, .int .i64 (z.r 0), .int .i64 (z.r 1), .int .i64 (z.r 2), .int .i64 (z.r 3), .int .i64 (z.r 4), .int .i64 (z.r 5), .int .i64 (z.r 6), .int .i64 (z.r 7), .slice fa3 fn3 fc3, .int .i64 z.st, .int .i64 z.ft, .slice la3 ln3 lc3]) hb.2.2.2.2.1 hb.2.2.2.2.2.symm, rfl⟩) (fun h => hf0 (up_back h (by decide))) (fun h => hf1 (up_back h (by decide))) (fun h => hf2 (up_back h (by decide))) (fun h => ⟨(hC (up_back h (by decide))).1, thQ_keep (by rw [HU.out]; exact kept_setN (fun b hq => by omega)) (hC (up_back h (by decide))).2⟩) (fun h => hf4 (up_back h (by decide))) (fun h => hf5 (up_back h (by decide))) (fun h => hf6 (up_back h (by decide))) (fun h => up_old (hW6 (up_back h (by decide)))) (fun h => ⟨(hD (up_back h (by decide))).1, thQ_keep (by rw [HU.out]; exact kept_setN (fun b hq => by omega)) (hD (up_back h (by decide))).2⟩) (fun _ => rfl) (fun h => up_old (hW8 (up_back h (by decide)))) (fun h => hf9 (up_back h (by decide))) (fun _ => ⟨up_old hup7, rfl⟩) (fun h => hf11 (up_back h (by decide)))
                  refine StepsL.cons (k := 11) rfl (fun listed a1 w1 hI hn hw K hK => ?_) ?_
                  · cases hI with | mk p42 p43 p44 p45 p46 p47 p48 p49 p50 p51 p7 fa2 fc2 la2 lc2 fa3 fn3 fc3 la3 ln3 lc3 xs ea hb hf0 hf1 hf2 hC hf4 hf5 hf6 hW6 hD hf8 hW8 hf9 hS hf11 =>
                      have e_f9 := hf9 (hw 9 (by decide))
                      subst e_f9
                      have Hhf0 := Lib.hid hf0
                      have Hhf1 := Lib.hid hf1
                      have Hhf2 := Lib.hid hf2
                      have HhC := Lib.hid hC
                      have Hhf4 := Lib.hid hf4
                      have Hhf5 := Lib.hid hf5
                      have Hhf6 := Lib.hid hf6
                      have HhW6 := Lib.hid hW6
                      have HhD := Lib.hid hD
                      have Hhf8 := Lib.hid hf8
                      have HhW8 := Lib.hid hW8
                      have Hhf9 := Lib.hid hf9
                      have HhS := Lib.hid hS
                      have Hhf11 := Lib.hid hf11
                      have Hhb := Lib.hid hb
                      have Hhw := Lib.hid hw
                      clear hf0 hf1 hf2 hC hf4 hf5 hf6 hW6 hD hf8 hW8 hf9 hS hf11 hb hw
                      rw [ea]
                      clear ea
                      simp only [Act.put, List.setIfInBounds_toArray, List.set_cons_zero, List.set_cons_succ]
                      go_simp
                      have hf0 := Hhf0.out
                      have hf1 := Hhf1.out
                      have hf2 := Hhf2.out
                      have hC := HhC.out
                      have hf4 := Hhf4.out
                      have hf5 := Hhf5.out
                      have hf6 := Hhf6.out
                      have hW6 := HhW6.out
                      have hD := HhD.out
                      have hf8 := Hhf8.out
                      have hW8 := HhW8.out
                      have hf9 := Hhf9.out
                      have hS := HhS.out
                      have hf11 := Hhf11.out
                      have hb := Hhb.out
                      have hw := Hhw.out
                      refine hK.out _ _ ?_
                      exact .mk p42 p43 p44 p45 p46 p47 p48 p49 p50 (.int .i64 x) (.int .i64 x) fa2 fc2 la2 lc2 fa3 fn3 fc3 la3 ln3 lc3 xs (by simp only [Act.put, List.setIfInBounds_toArray, List.set_cons_zero, List.set_cons_succ]) (hb) (fun h => hf0 (up_back h (by decide))) (fun h => hf1 (up_back h (by decide))) (fun h => hf2 (up_back h (by decide))) (fun h => hC (up_back h (by decide))) (fun h => hf4 (up_back h (by decide))) (fun h => hf5 (up_back h (by decide))) (fun h => hf6 (up_back h (by decide))) (fun h => up_old (hW6 (up_back h (by decide)))) (fun h => hD (up_back h (by decide))) (fun h => hf8 (up_back h (by decide))) (fun h => up_old (hW8 (up_back h (by decide)))) (fun _ => rfl) (fun h => ⟨up_old (hS (up_back h (by decide))).1, (hS (up_back h (by decide))).2⟩) (fun _ => rfl)
                  exact StepsL.nil
                · intro listed a1 w5 hI hu
                  cases hI with | mk p42 p43 p44 p45 p46 p47 p48 p49 p50 p51 p7 fa2 fc2 la2 lc2 fa3 fn3 fc3 la3 ln3 lc3 xs ea hb hf0 hf1 hf2 hC hf4 hf5 hf6 hW6 hD hf8 hW8 hf9 hS hf11 =>
                    obtain ⟨-, hxs⟩ := hS (hu 10)
                    have hD2 := (hD (hu 7)).2
                    have h11 := hf11 (hu 11)
                    subst hxs h11
                    have HB5 := Lib.hid (HFB.out.trans hb.1)
                    have HR5 := Lib.hid hb.2.2.2.2.1
                    have HD5 := Lib.hid (thQ_mono (fun b hq => Nat.le_trans HFB.out.size hq) hD2)
                    clear hf0 hf1 hf2 hC hf4 hf5 hf6 hW6 hD hf8 hW8 hf9 hS hf11 hb hu hD2
                    rw [ea]
                    clear ea
                    simp only [Act.put, List.setIfInBounds_toArray, List.set_cons_zero, List.set_cons_succ]
                    go_wp2
                    refine bp_cell_tmp ⟨w.heap.size + 2, 0, none⟩ rfl rfl rfl (load_thr _ _ z fa3 la3 fn3 fc3 ln3 lc3 HR5.out) ?_
                    have hE : apE t self i = x := HA2.out (by rw [if_neg (by rw [HFI.out]; decide)]; exact HXE.out)
                    by_cases hx0 : x = 0
                    · have hT0 : apT t self i = z := by rw [apT, hE, if_pos hx0, HZ.out]
                      rw [hE, hT0]
                      exact thPostF_mk HD5.out.fs.1 HD5.out.lf.1 HD5.out HB5.out
                    · have hT0 : apT t self i = z := by
                        rw [apT, hE, if_neg hx0, ← HZ.out]
                        exact (doT_no (by rw [HXE.out]; exact hx0)).symm
                      rw [hE, hT0]
                      exact thPostF_mk HD5.out.fs.1 HD5.out.lf.1 HD5.out HB5.out
              · have HE := Lib.hid (show apE t self i = 3 from HA2.out (by rw [if_pos (by simpa using hfi)]))
                have HFI := Lib.hid (show fitsI i = false by simpa using hfi)
                clear hfi
                go_wp2_with (refine wpList_load_mid rfl 29 _ rfl (w.heap.size + 1) 0 rfl [.int .i64 i.1, .int .i64 i.2.1, .int .i64 i.2.2.1, .int .i64 i.2.2.2] _ (varN_range HI3.out) Try.underlying29 rfl (by kernel_rfl) ?_)
                have h0 := fits_any i (loSg k) w3 (sgs_len k)
                refine h0.mono ?_
                clear h0
                rintro e w4 ⟨rfl, hb4⟩
                rw [show fitsS i (loSg k) = false by have h := HFI.out; rw [fitsI, HK.out] at h; exact h]
                have HB4 := Lib.hid (below_from HB3.out hb4)
                have HR4 := Lib.hid (varN_B hb4 HR3.out)
                clear hb4 kv
                go_wp2_with (refine wpList_store_var rfl 27 _ _ rfl (w.heap.size + 2) #[.int .i64 0, .int .i64 0, .int .i64 0, .int .i64 0, .int .i64 0, .int .i64 0, .int .i64 0, .int .i64 0, .int .i64 0, .slice none 0 0, .int .i64 0, .int .i64 0, .slice none 0 0] rfl rfl _ HR4.out rfl (by kernel_rfl) (one_thr zThr none none 0 0 0 0) ?_; intro U HU)
                refine bp_cell_tmp ⟨w.heap.size + 2, 0, none⟩ rfl rfl rfl (load_set (t := zThr) HU HR4.out rfl) ?_
                exact zThr_postF (apT_no (by rw [HE.out]; decide)) HE.out (below_set HU (by omega) HB4.out)
      · have HE := Lib.hid (show apE t self i = 9 by rw [apE, if_neg (fun h1 => h1.elim (fun h1 => by rw [hm'.out] at h1; cases h1) HPC.out), if_pos (by simpa using hy)])
        have hy' := Lib.hid (show readyT t = false by simpa using hy)
        clear hy
        go_wp2_with (refine wpList_load_mid rfl 27 _ rfl w.heap.size 0 rfl [.int .i64 t.pc, .int .i64 (t.r 0), .int .i64 (t.r 1), .int .i64 (t.r 2), .int .i64 (t.r 3), .int .i64 (t.r 4), .int .i64 (t.r 5), .int .i64 (t.r 6), .int .i64 (t.r 7), .slice fa fn fc, .int .i64 t.st, .int .i64 t.ft, .slice la ln lc] _ (varN_range HX1.out) Try.underlying27 rfl (by kernel_rfl) ?_)
        refine (loReady_any t fa la fn fc ln lc _ HFl.out.2).mono ?_
        rintro e w2 ⟨rfl, hb2⟩
        rw [hy'.out]
        have HB2 := Lib.hid (below_from HB1.out hb2)
        have HR2 := Lib.hid (varN_B hb2 HR1.out)
        clear hb2 HX1 HI1 HR1 HB1 k0 hpb
        go_wp2_with (refine wpList_store_var rfl 27 _ _ rfl (w.heap.size + 2) #[.int .i64 0, .int .i64 0, .int .i64 0, .int .i64 0, .int .i64 0, .int .i64 0, .int .i64 0, .int .i64 0, .int .i64 0, .slice none 0 0, .int .i64 0, .int .i64 0, .slice none 0 0] rfl rfl _ HR2.out rfl (by kernel_rfl) (one_thr zThr none none 0 0 0 0) ?_; intro U HU)
        refine bp_cell_tmp ⟨w.heap.size + 2, 0, none⟩ rfl rfl rfl (load_set (t := zThr) HU HR2.out rfl) ?_
        exact zThr_postF (apT_no (by rw [HE.out]; decide)) HE.out (below_set HU (by omega) HB2.out)
  · have HE := Lib.hid (show apE t self i = 1 by rw [apE, if_pos (.inl (by simpa using hm))])
    have hm' := Lib.hid (show mayT7 t self = false by simpa using hm)
    clear hm
    go_wp2_with (refine wpList_load_mid rfl 27 _ rfl w.heap.size 0 rfl [.int .i64 t.pc, .int .i64 (t.r 0), .int .i64 (t.r 1), .int .i64 (t.r 2), .int .i64 (t.r 3), .int .i64 (t.r 4), .int .i64 (t.r 5), .int .i64 (t.r 6), .int .i64 (t.r 7), .slice fa fn fc, .int .i64 t.st, .int .i64 t.ft, .slice la ln lc] _ (varN_range HX.out) Try.underlying27 rfl (by kernel_rfl) ?_)
    refine (loMay_any t self fa la fn fc ln lc W HFW.out).mono ?_
    rintro e w1 ⟨rfl, hb1⟩
    rw [hm'.out]
    have HB1 := Lib.hid (below_from HB.out hb1)
    have HR1 := Lib.hid (varN_B hb1 HR.out)
    clear hb1 HX HI HR HFW HB k0
    go_wp2_with (refine wpList_store_var rfl 27 _ _ rfl (w.heap.size + 2) #[.int .i64 0, .int .i64 0, .int .i64 0, .int .i64 0, .int .i64 0, .int .i64 0, .int .i64 0, .int .i64 0, .int .i64 0, .slice none 0 0, .int .i64 0, .int .i64 0, .slice none 0 0] rfl rfl _ HR1.out rfl (by kernel_rfl) (one_thr zThr none none 0 0 0 0) ?_; intro U HU)
    refine bp_cell_tmp ⟨w.heap.size + 2, 0, none⟩ rfl rfl rfl (load_set (t := zThr) HU HR1.out rfl) ?_
    exact zThr_postF (apT_no (by rw [HE.out]; decide)) HE.out (below_set HU (by omega) HB1.out)
end Go.Proofs.Ytjddflnecfokaaa
