/- Package weigh: Picks. -/
import Derived.Test.YtmdkokhlfflokaaWhD
namespace Go.Proofs.Ytmdkokhlfflokaa
open Go.ChangeShapes Go.WideShapes Go.ChangeAt Go.RowKit
open Gen
theorem store_flw (a : Addr) (x : Nat) (m : Mode) (P : Program) (w : World) : (store a (.float .f64 x) m).run P w = stored P w a (.float .f64 x) m := run_store P w a _ m rfl
attribute [local go_sem] store_flw
def fls10 (l : List Nat) : List Value := l.map (Value.float .f64)
theorem fls10_at {l : List Nat} {k : Nat} (h : k < l.length) : (fls10 l)[k]? = some (.float .f64 (l.getD k 0)) := by simp [fls10, h]
theorem fls10_set (l : List Nat) (k x : Nat) : (fls10 l).set k (.float .f64 x) = fls10 (l.set k x) := by simp [fls10, List.map_set]
theorem made_f (n : Nat) : madeCells #[.float .f64 0] n = (fls10 (List.replicate n 0)).toArray := by
  unfold madeCells fls10
  apply Array.ext
  · simp
  · intro i h1 h2
    simp only [Array.getElem_map, Array.getElem_range]
    simp [Nat.mod_one]
theorem make_f (n : Nat) (h : n ≤ 1000) (w : World) : (Instr.makeSlice 22 (.int .i64 n) (.int .i64 n)).run Try.prog w = .ok (.slice (some ⟨w.heap.size, 0, none⟩) n n) (w.alloc (.cells (madeCells #[.float .f64 0] n) 23)) :=
  run_make_row' 22 23 (.float .f64 0) 8 Try.underlying22 infoF10 rfl .i64 .i64 n (by omega) (by omega) w
theorem var_mf (w : World) (n g : Nat) (hg : g = w.heap.size) : VarN (w.alloc (.cells (madeCells #[.float .f64 0] n) 23)) g (fls10 (List.replicate n 0)) := by
  rw [made_f]; exact varN_new _ _ hg

set_option maxRecDepth 100000 in
set_option maxHeartbeats 8000000 in
theorem wPicks_any (a : Option Addr) (n c : Nat) (ws : List Nat) (m : Int) (w : World) (S : Vs repFl Any w a n ws) (hz : ∀ z ∈ ws, FlWf z) (hn : n ≤ 1000) :
    Calls Try.prog 13 #[.slice a n c, .int .i64 m] w (ListE (pkL n ws m) (pkE n ws m) w) := by
  have HS := Lib.hid S
  have HZ := Lib.hid hz
  have HWL := Lib.hid S.1
  have HCT := Lib.hid (counting_any a n c ws w S hz hn)
  clear S hz
  by_cases h1 : 8 < n
  · have hE : pkE n ws m = 2 := if_pos (.inl h1)
    have HE := Lib.hid hE
    have HL := Lib.hid (show pkL n ws m = [] by rw [pkL, hE]; rfl)
    have h1' : (8 : Int) < n := by omega
    clear hE
    go_enter Try.func13, Try.ntmps13
    go_wp2
    go_ret2
    exact listE_no' HL.out HE.out (Below.refl _ _)
  · have h1' : ¬ (8 : Int) < n := by omega
    by_cases h2 : m < 0
    · have hE : pkE n ws m = 2 := if_pos (.inr (.inl h2))
      have HE := Lib.hid hE
      have HL := Lib.hid (show pkL n ws m = [] by rw [pkL, hE]; rfl)
      clear hE
      go_enter Try.func13, Try.ntmps13
      go_wp2
      go_ret2
      exact listE_no' HL.out HE.out (Below.refl _ _)
    · by_cases h3 : 1000 < m
      · have hE : pkE n ws m = 2 := if_pos (.inr (.inr h3))
        have HE := Lib.hid hE
        have HL := Lib.hid (show pkL n ws m = [] by rw [pkL, hE]; rfl)
        clear hE
        go_enter Try.func13, Try.ntmps13
        go_wp2
        go_ret2
        exact listE_no' HL.out HE.out (Below.refl _ _)
      · obtain ⟨N, rfl⟩ : ∃ N : Nat, m = N := ⟨m.toNat, by omega⟩
        have hN : N ≤ 1000 := by omega
        have hCn : (Fl.plT ws n).length ≤ n := Fl.plT_le ws n
        have HPN := Lib.hid (show (Fl.plT ws n).length = 0 ↔ Fl.someB ws = false by have := @Fl.plT_none ws; rw [HWL.out] at this; exact this)
        obtain ⟨C, hC⟩ : ∃ C, (Fl.plT ws n).length = C := ⟨_, rfl⟩
        rw [hC] at hCn HCT HPN
        have HC := Lib.hid hC
        clear hC
        by_cases h8 : 0 < N ∧ C = 0
        · obtain ⟨p1, rfl⟩ := h8
          have hs : Fl.someB ws = false := HPN.out.1 rfl
          have hE : pkE n ws N = 8 := by rw [pkE, if_neg (by omega), if_pos ⟨by omega, hs⟩]
          have HE := Lib.hid hE
          have HL := Lib.hid (show pkL n ws N = [] by rw [pkL, hE]; rfl)
          have p2 : (0 : Int) < N := by omega
          clear hE hs
          go_enter Try.func13, Try.ntmps13
          go_wp2_with fail
          refine HCT.out.mono ?_
          rintro e w1 ⟨pa, pc, rfl, -, -, -, -, hb1⟩
          have HB1 := Lib.hid hb1
          clear hb1
          go_wp2
          go_ret2
          exact listE_no' HL.out HE.out HB1.out
        · have hso : N = 0 ∨ Fl.someB ws = true := by
            by_cases h0 : N = 0
            · exact .inl h0
            · right
              cases hs : Fl.someB ws with
              | true => rfl
              | false => exact absurd ⟨by omega, HPN.out.2 hs⟩ h8
          have hE : pkE n ws N = 0 := by
            rw [pkE, if_neg (by omega), if_neg]
            rintro ⟨k1, k2⟩
            rcases hso with h | h
            · omega
            · rw [k2] at h; cases h
          have HE := Lib.hid hE
          have HL := Lib.hid (show pkL n ws N = natsI (Fl.picksF ws N).1 by rw [pkL, if_pos hE]; rfl)
          have HSO := Lib.hid hso
          have p2 : (0 : Int) < N → ((C : Int) == 0) = false := fun h => by simp; omega
          clear hE hso
          go_enter Try.func13, Try.ntmps13
          go_wp2_with fail
          refine HCT.out.mono ?_
          rintro e w1 ⟨pa, pc, rfl, -, -, -, VP, hb1⟩
          have HVP := Lib.hid (vs_und (vs_any VP))
          have HB1 := Lib.hid hb1
          have hmf := make_f C (by omega)
          have hmi := make_i N hN
          clear VP hb1
          obtain ⟨wq, hwq⟩ : ∃ x, x = w1 := ⟨_, rfl⟩
          subst hwq
          obtain ⟨W, hW⟩ : ∃ X, X = (((wq.alloc (Obj.cells (madeCells #[.float .f64 0] C) 23)).alloc (Obj.cells #[.slice (some ⟨wq.heap.size, 0, none⟩) C C] 22)).alloc (Obj.cells (madeCells #[.int .i64 0] N) 3)) := ⟨_, rfl⟩
          have e1 : (wq.alloc (Obj.cells (madeCells #[.float .f64 0] C) 23)).heap.size = wq.heap.size + 1 := by simp
          have e2 : ((wq.alloc (Obj.cells (madeCells #[.float .f64 0] C) 23)).alloc (Obj.cells #[.slice (some ⟨wq.heap.size, 0, none⟩) C C] 22)).heap.size = wq.heap.size + 1 + 1 := by simp
          have HX2 := Lib.hid (show VarN W wq.heap.size (fls10 (List.replicate C 0)) by rw [hW]; exact varN_A _ (varN_A _ (var_mf wq C _ rfl)))
          have HXB := Lib.hid (show VarN W (wq.heap.size + 1) [.slice (some ⟨wq.heap.size, 0, none⟩) C C] by rw [hW]; exact varN_A _ (varN_new _ _ e1.symm))
          have HX3 := Lib.hid (show VarN W (wq.heap.size + 1 + 1) (ints (List.replicate N 0)) by rw [hW]; exact var_mi _ N _ e2.symm)
          have HBW := Lib.hid (show Below wq.heap.size wq W by rw [hW]; exact (((Below.refl _ _).alloc (Nat.le_refl _) _).alloc (by rw [e1]; omega) _).alloc (by rw [e2]; omega) _)
          have HW := Lib.hid hW
          obtain ⟨g2, hg2⟩ : ∃ g, g = wq.heap.size := ⟨_, rfl⟩
          have HG2 := Lib.hid hg2
          clear hW e1 e2 hg2
          by_cases h0 : (0 : Int) < N
          · have p3 := p2 h0
            have hs : Fl.someB ws = true := HSO.out.resolve_left (by omega)
            have HSM := Lib.hid hs
            clear p2 hs
            go_upto_region 9 with fail
            rw [← HW.out]
            clear hmf hmi p3
            rw [← HG2.out] at HX2 HXB HX3 ⊢
            go_wp2_with fail
            go_loopw [40] (fun i wr => ∃ k : Nat, k ≤ N ∧ i = .int .i64 k ∧ Hid (VarN wr g2 (fls10 (Fl.subF ws (Fl.picksF ws k).2))) ∧ Hid (VarN wr (g2 + 1) [.slice (some ⟨g2, 0, none⟩) C C]) ∧ Hid (VarN wr (g2 + 1 + 1) (ints (natsI (Fl.picksF ws k).1 ++ List.replicate (N - k) 0))) ∧ Below wq.heap.size wq wr) (fun i _ => N - (intOf i).toNat)
            case atStart => exact ⟨0, Nat.zero_le _, rfl, (by show VarN _ _ (fls10 (Fl.subF ws (List.replicate ws.length 0))); rw [Fl.sub_begin, HWL.out, HC.out]; exact HX2.out), HXB.out, (by show VarN _ _ (ints ([] ++ List.replicate (N - 0) 0)); rw [Nat.sub_zero, List.nil_append]; exact HX3.out), HBW.out⟩
            case round =>
              obtain ⟨k, hk, rfl, hx2, hxb, hx3, hb⟩ := hrel
              by_cases hlt : k < N
              · obtain ⟨pl, hpl⟩ : ∃ l, (Fl.picksF ws k).1 = l := ⟨_, rfl⟩
                obtain ⟨ps, hps⟩ : ∃ l, (Fl.picksF ws k).2 = l := ⟨_, rfl⟩
                obtain ⟨P, hpk⟩ := Fl.picks_pass HSM.out k
                rw [hps] at P hx2
                rw [hpl] at hpk hx3
                obtain ⟨hq, hpick⟩ := Fl.sub_pick (ps := ps) HSM.out
                obtain ⟨pk, hpkk⟩ : ∃ p, (Fl.plT ws ws.length)[Fl.leastL (Fl.subF ws ps) (Fl.plT ws ws.length).length] = p := ⟨_, rfl⟩
                rw [hpkk] at hpick
                have hnext : Fl.picksF ws (k + 1) = (pl ++ [pk], Fl.passF ws ps pk) := by rw [Fl.picksF, hps, hpick, hpl]
                have hsub := Fl.sub_pass P.len hq
                have hqc : Fl.leastL (Fl.subF ws ps) C < C := by have := hq; rw [HWL.out, HC.out] at this; exact this
                obtain ⟨hmem1, hmem2⟩ := Fl.mem_plT.1 (List.getElem_mem hq)
                have hge : ∀ z ∈ Fl.subF ws ps, Fl.ge0 z := by
                  intro z hz
                  obtain ⟨i, hi, rfl⟩ := List.mem_iff_getElem.1 hz
                  rw [Fl.sub_len] at hi
                  have := Fl.sub_at (ps := ps) hi
                  rw [List.getD_eq_getElem?_getD, List.getElem?_eq_getElem (by rw [Fl.sub_len]; exact hi), Option.getD_some] at this
                  rw [this]
                  exact P.ge _ (by rw [P.len]; exact (Fl.mem_plT.1 (List.getElem_mem hi)).1)
                have hsl : (Fl.subF ws ps).length = C := by rw [Fl.sub_len, HWL.out, HC.out]
                have HPQ := Lib.hid (show (natsI (Fl.plT ws n))[Fl.leastL (Fl.subF ws ps) C]? = some (((Fl.plT ws ws.length)[Fl.leastL (Fl.subF ws ps) (Fl.plT ws ws.length).length] : Nat) : Int) by
                  have e : (Fl.plT ws ws.length)[Fl.leastL (Fl.subF ws ps) (Fl.plT ws ws.length).length]? = some ((Fl.plT ws ws.length)[Fl.leastL (Fl.subF ws ps) (Fl.plT ws ws.length).length]) := List.getElem?_eq_getElem hq
                  rw [natsI, List.getElem?_map]
                  have e3 : (Fl.plT ws n)[Fl.leastL (Fl.subF ws ps) C]? = (Fl.plT ws ws.length)[Fl.leastL (Fl.subF ws ps) (Fl.plT ws ws.length).length]? := by rw [HWL.out, HC.out]
                  rw [e3, e]; rfl)
                rw [hpkk] at hsub hmem1 hmem2 HPQ
                have hsub2 : Fl.subF ws (Fl.passF ws ps pk) = (Fl.subF ws ps).set (Fl.leastL (Fl.subF ws ps) C) (Fl.addF ((Fl.subF ws ps).getD (Fl.leastL (Fl.subF ws ps) C) 0) (Fl.invF (ws.getD pk 0))) := by
                  rw [HWL.out, HC.out] at hsub; exact hsub
                obtain ⟨zs, hzs⟩ : ∃ z, Fl.subF ws ps = z := ⟨_, rfl⟩
                rw [hzs] at hx2 hsub2 hqc hge hsl HPQ
                obtain ⟨q, hq2⟩ : ∃ q, Fl.leastL zs C = q := ⟨_, rfl⟩
                have hf := firstP_any (g2 + 1) (some ⟨g2, 0, none⟩) C C zs wr hxb.out (vs_var1 hx2.out hsl) (fun z hz => ge_wf (hge z hz) rfl) (by omega) (by omega)
                rw [hq2] at hsub2 hqc HPQ hf
                have HF := Lib.hid hf
                rw [HWL.out] at hmem1
                obtain ⟨b4, o4, x, rfl, hxx, hq4, g4⟩ := fl_at (vs_keep (kept_low hb (fun _ h => h.2)) (vs_und (vs_B HB1.out HS.out))) hmem1
                rw [getD_of hxx] at hsub2 hmem2
                obtain ⟨d1, d2⟩ := Fl.inv_ok hmem2
                have hzq : Fl.ge0 (zs.getD q 0) := hge _ (by rw [List.getD_eq_getElem?_getD, List.getElem?_eq_getElem (by omega), Option.getD_some]; exact List.getElem_mem _)
                obtain ⟨d3, -, -⟩ := Fl.add_ok hzq d2
                obtain ⟨iv, hiv⟩ : ∃ z, Fl.invF x = z := ⟨_, rfl⟩
                obtain ⟨pv, hpv⟩ : ∃ z, zs.getD q 0 = z := ⟨_, rfl⟩
                rw [hiv, hpv] at d3 hsub2
                rw [hiv] at d1
                obtain ⟨ad, had⟩ : ∃ z, Fl.addF pv iv = z := ⟨_, rfl⟩
                rw [had] at d3 hsub2
                have hd := fun u => run_float_arith (P := Try.prog) u .quo 23 .f64 4607182418800017408 x iv d1
                have ha := fun u => run_float_arith (P := Try.prog) u .add 23 .f64 pv iv ad d3
                have HN2 := Lib.hid (show Fl.subF ws (Fl.picksF ws (k + 1)).2 = zs.set q ad by rw [hnext]; exact hsub2)
                have HN3 := Lib.hid (show natsI (Fl.picksF ws (k + 1)).1 ++ List.replicate (N - (k + 1)) 0 = (natsI pl ++ List.replicate (N - k) 0).set k (pk : Int) by
                  rw [hnext]
                  show natsI (pl ++ [pk]) ++ _ = _
                  have hl : (natsI pl).length = k := by rw [natsI, List.length_map]; exact hpk
                  rw [natsI_snoc, List.set_append_right _ _ (by omega), hl, Nat.sub_self, show N - k = (N - (k + 1)) + 1 by omega, List.replicate_succ, List.set_cons_zero, List.append_assoc]; rfl)
                have hl3 : k < (ints (natsI pl ++ List.replicate (N - k) 0)).length := by
                  have hl : (natsI pl).length = k := by rw [natsI, List.length_map]; exact hpk
                  simp [ints, hl]; omega
                obtain ⟨v3, hv3⟩ : ∃ v, (ints (natsI pl ++ List.replicate (N - k) 0))[k]? = some v := ⟨_, List.getElem?_eq_getElem hl3⟩
                have hl2 : q < (fls10 zs).length := by simp [fls10]; omega
                have HZ2 := Lib.hid (show (fls10 zs)[q]? = some (.float .f64 pv) by rw [fls10_at (by omega), hpv])
                have HV3 := Lib.hid hv3
                have HX2' := Lib.hid hx2.out
                have HXB' := Lib.hid hxb.out
                have HX3' := Lib.hid hx3.out
                have HB := Lib.hid hb
                have HG4 := Lib.hid g4
                obtain ⟨wo, hwo⟩ : ∃ x, x = wr := ⟨_, rfl⟩
                subst hwo
                clear hpl hps P hpk hq hpick hnext hsub hmem2 hge hsl hpkk hsub2 hzs hq2 hf hxx d1 d2 hzq d3 hiv hpv had hv3 hx2 hxb hx3 hb g4 h8
                go_upto_region 12 with fail
                go_wp2_with fail
                refine HF.out.mono ?_
                rintro e w2 ⟨rfl, hb2⟩
                have hb3 : Below wq.heap.size wq w2 := HB.out.trans (hb2.mono HB.out.size)
                obtain ⟨pb, po, y, rfl, hy, hpb, hat⟩ := vs_at (vs_keep (kept_low hb3 (fun _ h => h.2)) HVP.out) hqc
                have g5 := at_int hat
                rw [show repInt.k = 1 from rfl, Nat.mul_one] at g5
                obtain rfl : y = (pk : Int) := by rw [HPQ.out] at hy; exact (Option.some.inj hy).symm
                have hgg := HG2.out
                have XA2 := varN_B hb2 HX2'.out
                have XAB := varN_B hb2 HXB'.out
                have XA3 := varN_B hb2 HX3'.out
                have hg4 : w2.cell? ⟨b4, o4 + pk, none⟩ = some (.float .f64 x) := kept_B (Q := Any) hb2 _ _ _ trivial HG4.out
                obtain ⟨c3, f3⟩ := XA3 k _ HV3.out
                obtain ⟨WA, hWA⟩ : ∃ X, X = w2.setCell ⟨g2 + 1 + 1, k, none⟩ (.int .i64 pk) := ⟨_, rfl⟩
                have YA2 := Lib.hid (show VarN WA g2 (fls10 zs) by rw [hWA]; exact varN_other XA2 (by omega) _)
                have YAB := Lib.hid (show VarN WA (g2 + 1) [.slice (some ⟨g2, 0, none⟩) C C] by rw [hWA]; exact varN_other XAB (by omega) _)
                have YA3 := Lib.hid (show VarN WA (g2 + 1 + 1) (ints ((natsI pl ++ List.replicate (N - k) 0).set k (pk : Int))) by rw [hWA, ← ints_set]; exact varN_set XA3 k hl3 _)
                have HBA := Lib.hid (show Below wq.heap.size wq WA by rw [hWA]; exact hb3.setCell (p := ⟨g2 + 1 + 1, k, none⟩) (by show _ ≤ g2 + 1 + 1; omega) _)
                have HG5 := Lib.hid (show WA.cell? ⟨b4, o4 + pk, none⟩ = some (.float .f64 x) by
                  rw [hWA]; exact kept_set (Q := fun b => b < wq.heap.size) w2 ⟨g2 + 1 + 1, k, none⟩ _ (fun b hb => by show b ≠ g2 + 1 + 1; omega) _ _ _ (by have := hq4.2; have := HB1.out.size; omega) hg4)
                have HWA := Lib.hid hWA
                have i1 : (0 : Int) ≤ q := by omega
                have i2 : (q : Int) < C := by omega
                have i3 : (0 : Int) ≤ k := by omega
                have i4 : (k : Int) < N := by omega
                have i5 : (0 : Int) ≤ pk := by omega
                have i6 : (pk : Int) < n := by have := hmem1; omega
                have HI1 := Lib.hid hb3
                clear hb2 hb3 hy hat XA2 XAB XA3 hg4 hWA hpb hl3 HF hgg hmem1
                go_upto_region 14 with fail
                rw [← HWA.out]
                obtain ⟨c2, f2⟩ := YA2.out q _ HZ2.out
                obtain ⟨cb, -⟩ := YAB.out 0 _ rfl
                have hk3 : ∃ v, (ints ((natsI pl ++ List.replicate (N - k) 0).set k (pk : Int)))[k]? = some v ∧ v = .int .i64 pk := by
                  have hl := (List.getElem?_eq_some_iff.1 HV3.out).1
                  refine ⟨_, ?_, rfl⟩
                  rw [← ints_set, List.getElem?_set, if_pos rfl, if_pos hl]
                obtain ⟨v4, hv4, rfl⟩ := hk3
                obtain ⟨c4, -⟩ := YA3.out k _ hv4
                have g6 := HG5.out
                obtain ⟨WB, hWB⟩ : ∃ X, X = (WA.setCell ⟨g2, q, none⟩ (.float .f64 ad)).drew := ⟨_, rfl⟩
                have ZB2 := Lib.hid (show VarN WB g2 (fls10 (zs.set q ad)) by rw [hWB, ← fls10_set]; exact varN_D (varN_set YA2.out q hl2 _))
                have ZBB := Lib.hid (show VarN WB (g2 + 1) [.slice (some ⟨g2, 0, none⟩) C C] by rw [hWB]; exact varN_D (varN_other YAB.out (by omega) _))
                have ZB3 := Lib.hid (show VarN WB (g2 + 1 + 1) (ints ((natsI pl ++ List.replicate (N - k) 0).set k (pk : Int))) by rw [hWB]; exact varN_D (varN_other YA3.out (by omega) _))
                have HBB := Lib.hid (show Below wq.heap.size wq WB by rw [hWB]; exact (HBA.out.setCell (p := ⟨g2, q, none⟩) (by show _ ≤ g2; have := HG2.out; omega) _).drew)
                have HWB := Lib.hid hWB
                clear hWB c3 f3 g5 hv4 hl2
                go_region
                go_upto_region 15 with fail
                rw [← HWB.out]
                go_wp2_with fail
                go_roundw
                case rel => exact ⟨k + 1, by omega, by go_num, (by show VarN _ _ _; rw [HN2.out]; exact ZB2.out), ZBB.out, (by show VarN _ _ _; rw [HN3.out]; exact ZB3.out), HBB.out⟩
                case measure => simp [intOf]; omega
              · obtain rfl : k = N := by omega
                have hpn : (Fl.picksF ws k).1.length = k := picks_len HSM.out k
                have HPN2 := Lib.hid (show (natsI (Fl.picksF ws k).1).length = k by rw [natsI, List.length_map, hpn])
                have hx4 : VarN wr (g2 + 1 + 1) (ints (natsI (Fl.picksF ws k).1)) := by
                  have := hx3.out
                  rw [Nat.sub_self, List.replicate_zero, List.append_nil] at this
                  exact this
                have HV := Lib.hid (vs_var1 (f := Value.int .i64) hx4 HPN2.out)
                have HB := Lib.hid hb
                clear hx2 hxb hx3 hx4 hb hpn
                go_wp2
                go_ret2
                rw [HE.out, HL.out, ListE, HPN2.out]
                exact ⟨some ⟨g2 + 1 + 1, 0, none⟩, k, rfl, Nat.le_refl _, by omega, (fun h => by cases h), HV.out, HB1.out.trans (HB.out.mono HB1.out.size)⟩
          · obtain rfl : N = 0 := by omega
            have hmi0 := hmi
            rw [show ((0 : Nat) : Int) = 0 from rfl] at hmi0
            clear p2
            go_upto_region 9 with fail
            rw [← HW.out]
            clear hmf hmi hmi0
            rw [← HG2.out] at HX2 HXB HX3 ⊢
            go_wp2_with fail
            go_loopw [40] (fun i wr => i = .int .i64 0 ∧ wr = W) (fun _ _ => 0)
            case atStart => exact ⟨rfl, rfl⟩
            case round =>
              obtain ⟨rfl, rfl⟩ := hrel
              go_wp2
              go_ret2
              rw [HE.out, HL.out]
              exact ⟨some ⟨g2 + 1 + 1, 0, none⟩, 0, rfl, Nat.le_refl _, by decide, (fun h => by cases h), vs_empty, HB1.out.trans (HBW.out.mono HB1.out.size)⟩
end Go.Proofs.Ytmdkokhlfflokaa
