/- The walk of WeighFair, over what package weigh must answer. -/
import Derived.Test.YtmdkokhlfflokaaWgE
namespace Go.Proofs.Ytmdkokhlfflokaa
open Go.ChangeShapes Go.WideShapes Go.ChangeAt Go.RowKit
open Gen
theorem store_fl (a : Addr) (x : Nat) (m : Mode) (P : Program) (w : World) : (store a (.float .f64 x) m).run P w = stored P w a (.float .f64 x) m := run_store P w a _ m rfl
attribute [local go_sem] store_fl
theorem rem_300 (z : Int) : wrap64 (z.tmod 300 + 300) = z.tmod 300 + 300 ∧ 0 ≤ (z.tmod 300 + 300).tmod 300 ∧ (z.tmod 300 + 300).tmod 300 < 300 := by
  have h1 := Int.lt_tmod_of_pos z (show (0 : Int) < 300 by decide)
  have h2 := Int.tmod_lt_of_pos z (show (0 : Int) < 300 by decide)
  exact ⟨IntWalk.wrap64_in _ (by omega), Int.tmod_nonneg 300 (by omega), Int.tmod_lt_of_pos _ (by decide)⟩
theorem picks_take {ws : List Nat} (hs : Fl.someB ws = true) : ∀ (n q : Nat), q ≤ n → (Fl.picksF ws n).1.take q = (Fl.picksF ws q).1
  | 0, q, h => by obtain rfl : q = 0 := by omega
                  rfl
  | n + 1, q, h => by
    by_cases e : q = n + 1
    · subst e
      exact List.take_of_length_le (by rw [picks_len hs]; exact Nat.le_refl _)
    · obtain ⟨k, hk, -⟩ := Fl.leastTo_some (ps := (Fl.picksF ws n).2) hs
      have hp : Fl.picksF ws (n + 1) = ((Fl.picksF ws n).1 ++ [k], Fl.passF ws (Fl.picksF ws n).2 k) := by rw [Fl.picksF, hk]
      rw [hp]
      show ((Fl.picksF ws n).1 ++ [k]).take q = _
      rw [List.take_append_of_le_length (by rw [picks_len hs]; omega)]
      exact picks_take hs n q (by omega)
/-- the place picked next -/
theorem picks_next {ws : List Nat} (hs : Fl.someB ws = true) {n q : Nat} (h : q < n) : ∃ k, (Fl.picksF ws n).1[q]? = some k ∧ k < ws.length ∧ Fl.cnt (ws.getD k 0) = true ∧ Fl.picksF ws (q + 1) = ((Fl.picksF ws q).1 ++ [k], Fl.passF ws (Fl.picksF ws q).2 k) := by
  obtain ⟨k, hk, L⟩ := Fl.leastTo_some (ps := (Fl.picksF ws q).2) hs
  have hp : Fl.picksF ws (q + 1) = ((Fl.picksF ws q).1 ++ [k], Fl.passF ws (Fl.picksF ws q).2 k) := by rw [Fl.picksF, hk]
  have ht := picks_take hs n (q + 1) (by omega)
  refine ⟨k, ?_, L.lt, L.cn, hp⟩
  have e : ((Fl.picksF ws n).1.take (q + 1))[q]? = some k := by
    rw [ht, hp]
    show ((Fl.picksF ws q).1 ++ [k])[q]? = some k
    rw [List.getElem?_append_right (by rw [picks_len hs]; exact Nat.le_refl _), picks_len hs]; simp
  rw [List.getElem?_take, if_pos (by omega)] at e
  exact e
def Fz (n : Nat) : Array Value := madeCells #[.float .f64 0] n
theorem Fz_eq (n : Nat) : Fz n = ((List.replicate n 0).map (Value.float .f64)).toArray := by
  unfold Fz madeCells
  apply Array.ext
  · simp
  · intro i h1 h2
    simp only [Array.getElem_map, Array.getElem_range]
    simp [Nat.mod_one]
theorem make_fls (n : Nat) (h : n ≤ 1000) (w : World) : (Instr.makeSlice 22 (.int .i64 n) (.int .i64 n)).run Try.prog w = .ok (.slice (some ⟨w.heap.size, 0, none⟩) n n) (w.alloc (.cells (Fz n) 23)) := by
  obtain ⟨i0, hi, hz0, hz1, hz2⟩ := info_parts infoF10
  have := run_make (P := Try.prog) w 22 23 i0 (.float .f64 0) Try.underlying22 hi hz0 .i64 .i64 n n (by omega) (by omega) (by rw [hz2]; omega) (by omega)
  rw [this]
  simp [hz1, Fz, Value.cells]
def fls (l : List Nat) : List Value := l.map (Value.float .f64)
theorem fls_at {l : List Nat} {k : Nat} (h : k < l.length) : (fls l)[k]? = some (.float .f64 (l.getD k 0)) := by
  simp [fls, h]
theorem fls_set (l : List Nat) (k x : Nat) : (fls l).set k (.float .f64 x) = fls (l.set k x) := by simp [fls, List.map_set]

/-- two rows of zeros, made in either order -/
def FairCut (w : World) (m : Nat) (s7 s8 : Value) (wx : World) : Prop :=
  ∃ g1 g2, s7 = .slice (some ⟨g1, 0, none⟩) m m ∧ s8 = .slice (some ⟨g2, 0, none⟩) m m ∧ g1 ≠ g2 ∧ w.heap.size ≤ g1 ∧ w.heap.size ≤ g2 ∧ VarN wx g1 (fls (List.replicate m 0)) ∧ VarN wx g2 (fls (List.replicate m 0)) ∧ Below w.heap.size w wx
theorem var_fz (w : World) (m : Nat) : VarN (w.alloc (.cells (Fz m) 23)) w.heap.size (fls (List.replicate m 0)) := by
  rw [Fz_eq]; exact varN_new _ _ rfl
theorem fairCut_a {w w0 : World} {m : Nat} (hb : Below w.heap.size w w0) : FairCut w m (.slice (some ⟨w0.heap.size, 0, none⟩) m m) (.slice (some ⟨w0.heap.size + 1, 0, none⟩) m m) ((w0.alloc (.cells (Fz m) 23)).alloc (.cells (Fz m) 23)) := by
  have h2 := var_fz (w0.alloc (.cells (Fz m) 23)) m
  have e : (w0.alloc (.cells (Fz m) 23)).heap.size = w0.heap.size + 1 := by simp
  rw [e] at h2
  have hs := hb.size
  exact ⟨w0.heap.size, w0.heap.size + 1, rfl, rfl, by omega, by omega, by omega, varN_A _ (var_fz w0 m), h2, (hb.alloc hs _).alloc (by rw [e]; omega) _⟩
theorem fairCut_b {w w0 : World} {m : Nat} (hb : Below w.heap.size w w0) : FairCut w m (.slice (some ⟨w0.heap.size + 1, 0, none⟩) m m) (.slice (some ⟨w0.heap.size, 0, none⟩) m m) ((w0.alloc (.cells (Fz m) 23)).alloc (.cells (Fz m) 23)) := by
  have h2 := var_fz (w0.alloc (.cells (Fz m) 23)) m
  have e : (w0.alloc (.cells (Fz m) 23)).heap.size = w0.heap.size + 1 := by simp
  rw [e] at h2
  have hs := hb.size
  exact ⟨w0.heap.size + 1, w0.heap.size, rfl, rfl, by omega, by omega, by omega, h2, varN_A _ (var_fz w0 m), (hb.alloc hs _).alloc (by rw [e]; omega) _⟩
theorem kept_drN {Q : Nat → Prop} {w : World} (d : Nat) : Kept Q w (w.drewN d) := fun _ _ _ _ h => h
/-- what is there of the two rows in the end -/
theorem fair_end {ws : List Nat} {N m : Nat} (hm : ws.length = m) (hs : N = 0 ∨ Fl.someB ws = true) : (Fl.beforeF ws (Fl.picksF ws N).1).1.length = m ∧ (Fl.picksF ws N).2.length = m ∧ (∀ j, j < m → Fl.ge0 ((Fl.picksF ws N).2.getD j 0)) ∧ ∀ i j, i < m → j < m → Fl.cnt (ws.getD j 0) = true → (Fl.beforeF ws (Fl.picksF ws N).1).1.getD i 0 ≤ (Fl.picksF ws N).2.getD j 0 := by
  subst hm
  by_cases h : Fl.someB ws = true
  · obtain ⟨-, f2, -, f4⟩ := Fl.fair h N
    obtain ⟨P, -⟩ := Fl.picks_pass h N
    exact ⟨f2, P.len, fun j hj => P.ge j (by rw [P.len]; exact hj), fun i j _ hj hc => f4 i j hj hc⟩
  · obtain rfl : N = 0 := hs.resolve_right h
    refine ⟨by simp [Fl.beforeF, Fl.picksF], by simp [Fl.picksF], fun j hj => (Fl.pass_begin ws).ge j (by simpa using hj), fun i j hi hj _ => ?_⟩
    show (List.replicate ws.length 0).getD i 0 ≤ _
    rw [List.getD_eq_getElem?_getD, List.getElem?_replicate]
    split <;> exact Nat.zero_le _

set_option maxRecDepth 100000 in
set_option maxHeartbeats 8000000 in
theorem Fair10_walk (W : WeighOk) (p : Option Addr) (n c : Nat) (zs : List Nat) (z : Int) (w : World) (hnc : n ≤ c) (hc : c ≤ 9223372036854775807) (hp : p = none → c = 0) (V : Vs repFl Any w p n zs) (hz : ∀ z ∈ zs, FlWf z) :
    Calls Try.prog 6 #[.slice p n c, .int .i64 z] w (BoolPost true w) := by
  have HFE := Lib.hid (fun u => few10_any p n c u hnc hc)
  obtain ⟨m, hm⟩ : ∃ m, min n 12 = m := ⟨_, rfl⟩
  rw [hm] at HFE
  have VT := vs_und (vs_take V m (by omega))
  have hwz : ∀ x ∈ zs.take m, FlWf x := fun x hx => hz x (List.mem_of_mem_take hx)
  obtain ⟨ws, hws⟩ : ∃ ys, zs.take m = ys := ⟨_, rfl⟩
  rw [hws] at VT hwz
  have hm12 : m ≤ 12 := by omega
  have hmc : m ≤ c := by omega
  obtain ⟨r1, r2, r3⟩ := rem_300 z
  obtain ⟨N, hN⟩ : ∃ N : Nat, (z.tmod 300 + 300).tmod 300 = N := ⟨((z.tmod 300 + 300).tmod 300).toNat, by omega⟩
  have hN3 : N < 300 := by omega
  have HV := Lib.hid VT
  have HWZ := Lib.hid hwz
  have HML := Lib.hid VT.1
  have HPK := Lib.hid (fun u (h : Vs repFl Any u p m ws) => W.picks p m c ws N u h hwz (by omega) hmc hc hp)
  have HAL := Lib.hid (fun u => alive10_any W u)
  clear hm VT hwz hws V hz r2 r3 W hp
  go_enter Try.func6, Try.ntmps6
  go_wp2_with fail
  refine (HFE.out _).mono ?_
  rintro e w1 ⟨rfl, hw1⟩
  subst hw1
  clear HFE
  obtain ⟨w0, hw0⟩ : ∃ x, x = w1 := ⟨_, rfl⟩
  subst hw0
  have h0 := HPK.out w0 (vs_any HV.out)
  obtain ⟨E, hE⟩ : ∃ E, pkE m ws N = E := ⟨_, rfl⟩
  obtain ⟨l, hl⟩ : ∃ l, pkL m ws N = l := ⟨_, rfl⟩
  rw [hE, hl] at h0
  have HH0 := Lib.hid h0
  have HE := Lib.hid hE
  have HL := Lib.hid hl
  clear h0 hE hl
  go_upto_region 2 with fail
  clear hN r1
  go_wp2_with fail
  refine HH0.out.mono ?_
  rintro e w2 ⟨lp, lc, rfl, h1, h2, h3, VL, hb2⟩
  by_cases hE0 : E = 0
  · subst hE0
    have hso : N = 0 ∨ Fl.someB ws = true := by
      have h := HE.out
      unfold pkE at h
      split at h
      · omega
      · split at h
        · omega
        · rename_i h8
          by_cases h0 : N = 0
          · exact .inl h0
          · right
            cases hs : Fl.someB ws with
            | true => rfl
            | false => exact absurd ⟨by omega, hs⟩ h8
    have hln : l = natsI (Fl.picksF ws N).1 := by rw [← HL.out, pkL, if_pos HE.out]; rfl
    have hll : l.length = N := by
      rw [hln]
      rcases hso with h | h
      · subst h; rfl
      · simp [natsI, picks_len h]
    rw [hll] at VL h1 ⊢
    have HVL := Lib.hid (vs_und VL)
    have HB2 := Lib.hid hb2
    have HSO := Lib.hid hso
    have HLN := Lib.hid hln
    have HV2 := Lib.hid (vs_und (vs_keep (kept_B hb2) HV.out))
    have hmk := make_fls m (by omega)
    clear VL hso hln hll hb2 h1 h2 h3
    go_upto_region 5 with fail
    go_cut [7, 8] (fun s7 s8 wx => FairCut w2 m s7 s8 wx)
    case first =>
      go_region
      all_goals
        go_wp2_with fail
        go_meet
        first
          | exact fairCut_a (Below.refl _ _).drew
          | exact fairCut_b (Below.refl _ _).drew
    case rest =>
      obtain ⟨g1, g2, rfl, rfl, hne, hg1, hg2, X1, X2, hbc⟩ := hcut
      have HX1 := Lib.hid X1
      have HX2 := Lib.hid X2
      have HBC := Lib.hid hbc
      obtain ⟨wq, hwq⟩ : ∃ x, x = wc := ⟨_, rfl⟩
      subst hwq
      clear X1 X2 hbc hmk
      go_wp2_with fail
      go_loopw [43] (fun i wr => ∃ q : Nat, q ≤ N ∧ i = .int .i64 q ∧ Hid (VarN wr g1 (fls (Fl.beforeF ws (Fl.picksF ws q).1).1)) ∧ Hid (VarN wr g2 (fls (Fl.picksF ws q).2)) ∧ Below w2.heap.size w2 wr) (fun i _ => N - (intOf i).toNat)
      case atStart => exact ⟨0, Nat.zero_le _, rfl, (by show VarN _ _ (fls (List.replicate ws.length 0)); rw [HML.out]; exact HX1.out), (by show VarN _ _ (fls (List.replicate ws.length 0)); rw [HML.out]; exact HX2.out), HBC.out⟩
      case round =>
        obtain ⟨q, hq, rfl, hx1, hx2, hb⟩ := hrel
        by_cases hlt : q < N
        · have hs : Fl.someB ws = true := HSO.out.resolve_left (by omega)
          obtain ⟨k, hk1, hk2, hk3, hk4⟩ := picks_next hs hlt
          rw [HML.out] at hk2
          obtain ⟨P, -⟩ := Fl.picks_pass hs q
          have hfa := (Fl.fair hs q)
          obtain ⟨b, o, y, rfl, hy, hqb, hat⟩ := vs_at (vs_keep (kept_low hb (fun _ h => h.2)) HVL.out) hlt
          have g0 := at_int hat
          rw [show repInt.k = 1 from rfl, Nat.mul_one] at g0
          obtain rfl : y = (k : Int) := by
            rw [HLN.out, natsI, List.getElem?_map, hk1] at hy
            simpa using hy.symm
          obtain ⟨b4, o4, x, rfl, hx, hq4, g4⟩ := fl_at (vs_keep (kept_low hb (fun _ h => h.2)) HV2.out) hk2
          rw [getD_of hx] at hk3
          obtain ⟨bl, hbl⟩ : ∃ l, (Fl.beforeF ws (Fl.picksF ws q).1).1 = l := ⟨_, rfl⟩
          obtain ⟨pl, hpl⟩ : ∃ l, (Fl.picksF ws q).2 = l := ⟨_, rfl⟩
          have hbe := Fl.before_snoc ws (Fl.picksF ws q).1 k
          have e2 := hfa.1
          have e3 := hfa.2.1
          rw [hpl] at hk4 hx2 P e2
          rw [hbl] at hx1 e3
          rw [HML.out] at e3
          have hpl2 : pl.length = m := by rw [P.len, HML.out]
          obtain ⟨d1, d2⟩ := Fl.inv_ok hk3
          obtain ⟨d3, -, -⟩ := Fl.add_ok (P.ge k (by omega)) d2
          have HNB := Lib.hid (show (Fl.beforeF ws (Fl.picksF ws (q + 1)).1).1 = bl.set k (pl.getD k 0) by rw [hk4]; show (Fl.beforeF ws ((Fl.picksF ws q).1 ++ [k])).1 = _; rw [hbe, Fl.befF, e2, hbl])
          have HNP := Lib.hid (show (Fl.picksF ws (q + 1)).2 = pl.set k (Fl.addF (pl.getD k 0) (Fl.invF x)) by rw [hk4]; show Fl.passF ws pl k = _; rw [Fl.passF, getD_of hx])
          obtain ⟨pk, hpk⟩ : ∃ z, pl.getD k 0 = z := ⟨_, rfl⟩
          obtain ⟨iv, hiv⟩ : ∃ z, Fl.invF x = z := ⟨_, rfl⟩
          rw [hpk, hiv] at d3 HNP
          rw [hpk] at HNB
          rw [hiv] at d1
          obtain ⟨ad, had⟩ : ∃ z, Fl.addF pk iv = z := ⟨_, rfl⟩
          rw [had] at d3 HNP
          have hd := fun u => run_float_arith (P := Try.prog) u .quo 23 .f64 4607182418800017408 x iv d1
          have ha := fun u => run_float_arith (P := Try.prog) u .add 23 .f64 pk iv ad d3
          have hcx : (FloatKind.f64.format.order x 0 == some .gt) = true := (Fl.counts_of (HWZ.out x (List.mem_of_getElem? hx))).trans hk3
          obtain ⟨c1, f1⟩ := hx1.out k _ (fls_at (by rw [e3]; exact hk2))
          have hpk2 : (fls pl)[k]? = some (.float .f64 pk) := by rw [fls_at (by rw [hpl2]; exact hk2), hpk]
          obtain ⟨c2, f2⟩ := hx2.out k _ hpk2
          have HPK2 := Lib.hid hpk2
          have i1 : (0 : Int) ≤ q := by omega
          have i2 : (q : Int) < N := by omega
          have i3 : ¬ (k : Int) < 0 := by omega
          have i4 : ¬ (m : Int) ≤ k := by omega
          have i5 : (0 : Int) ≤ k := by omega
          have i6 : (k : Int) < m := by omega
          have hkl1 : k < (fls bl).length := by simp [fls, e3]; exact hk2
          have hkl2 : k < (fls pl).length := by simp [fls, hpl2]; exact hk2
          obtain ⟨wo, hwo⟩ : ∃ x, x = wr := ⟨_, rfl⟩
          subst hwo
          obtain ⟨WA, hWA⟩ : ∃ X, X = wo.setCell ⟨g1, k, none⟩ (.float .f64 pk) := ⟨_, rfl⟩
          have XA1 := Lib.hid (show VarN WA g1 (fls (bl.set k pk)) by rw [hWA, ← fls_set]; exact varN_set hx1.out k hkl1 _)
          have XA2 := Lib.hid (show VarN WA g2 (fls pl) by rw [hWA]; exact varN_other hx2.out hne _)
          have HBA := Lib.hid (show Below w2.heap.size w2 WA by rw [hWA]; exact hb.setCell (p := ⟨g1, k, none⟩) hg1 _)
          have g5 : WA.cell? ⟨b4, o4 + k, none⟩ = some (.float .f64 x) := by rw [hWA]; exact kept_set (Q := fun b => b < w2.heap.size) wo ⟨g1, k, none⟩ _ (fun b hb => by show b ≠ g1; omega) _ _ _ hq4.2 g4
          have HWA := Lib.hid hWA
          clear hk1 hk3 hk4 hs hfa hat hy hbl hpl hbe e2 e3 P d1 d2 d3 hpk hiv had hx hx1 hx2 hpl2 hWA hb hpk2 hq4 hqb hkl1
          go_upto_region 12 with fail
          rw [← HWA.out]
          obtain ⟨c3, f3⟩ := XA2.out k _ HPK2.out
          clear c1 f1 c2 f2 g0 g4
          obtain ⟨WB, hWB⟩ : ∃ X, X = (WA.setCell ⟨g2, k, none⟩ (.float .f64 ad)).drew := ⟨_, rfl⟩
          have XB1 := Lib.hid (show VarN WB g1 (fls (bl.set k pk)) by rw [hWB]; exact varN_D (varN_other XA1.out (fun e => hne e.symm) _))
          have XB2 := Lib.hid (show VarN WB g2 (fls (pl.set k ad)) by rw [hWB, ← fls_set]; exact varN_D (varN_set XA2.out k hkl2 _))
          have HBB := Lib.hid (show Below w2.heap.size w2 WB by rw [hWB]; exact (HBA.out.setCell (p := ⟨g2, k, none⟩) hg2 _).drew)
          have HWB := Lib.hid hWB
          clear hWB hkl2
          go_region
          go_upto_region 13 with fail
          rw [← HWB.out]
          go_wp2_with fail
          go_roundw
          case rel => exact ⟨q + 1, by omega, by go_num, (by show VarN _ _ _; rw [HNB.out]; exact XB1.out), (by show VarN _ _ _; rw [HNP.out]; exact XB2.out), HBB.out⟩
          case measure => simp [intOf]; omega
        · obtain rfl : q = N := by omega
          obtain ⟨e1, e2, e3, e4⟩ := fair_end HML.out HSO.out
          obtain ⟨bl, hbl⟩ : ∃ l, (Fl.beforeF ws (Fl.picksF ws q).1).1 = l := ⟨_, rfl⟩
          obtain ⟨pl, hpl⟩ : ∃ l, (Fl.picksF ws q).2 = l := ⟨_, rfl⟩
          rw [hbl] at hx1 e1 e4
          rw [hpl] at hx2 e2 e3 e4
          obtain ⟨wo, hwo⟩ : ∃ x, x = wr := ⟨_, rfl⟩
          subst hwo
          have HV3 := Lib.hid (vs_any (vs_keep (kept_low hb (fun _ h => h.2)) HV2.out))
          have HB3 := Lib.hid (HB2.out.trans (hb.mono HB2.out.size))
          have HE1 := Lib.hid e1
          have HE2 := Lib.hid e2
          have HE3 := Lib.hid e3
          have HE4 := Lib.hid e4
          have HXA := Lib.hid hx1.out
          have HXB := Lib.hid hx2.out
          clear hbl hpl e1 e2 e3 e4 hb hx1 hx2
          go_wp2_with fail
          go_loopw [86] (fun i wr => ∃ i1 d : Nat, i1 ≤ m ∧ i = .int .i64 i1 ∧ wr = wo.drewN d) (fun i _ => m - (intOf i).toNat)
          case atStart => exact ⟨0, 0, Nat.zero_le _, rfl, rfl⟩
          case round =>
            obtain ⟨i1, d, hi1, rfl, hwd⟩ := hrel
            have HWD := Lib.hid hwd
            have hB0 : Below wo.heap.size wo wr := by rw [hwd]; exact below_drewN (Below.refl _ _) d
            obtain ⟨wi, hwi⟩ : ∃ x, x = wr := ⟨_, rfl⟩
            subst hwi
            have HBI := Lib.hid hB0
            clear hwd
            by_cases hlt2 : i1 < m
            · obtain ⟨b4, o4, x, rfl, hx, -, g4⟩ := fl_at (vs_keep (kept_B hB0) HV3.out) hlt2
              have hcx := Fl.counts_of (HWZ.out x (List.mem_of_getElem? hx))
              have j1 : (0 : Int) ≤ i1 := by omega
              have j2 : (i1 : Int) < m := by omega
              have HX := Lib.hid hx
              clear hx hB0
              go_wp2_with fail
              clear g4
              go_loopw [93] (fun i wr => ∃ i2 d2 : Nat, i2 ≤ m ∧ i = .int .i64 i2 ∧ wr = wi.drewN d2) (fun i _ => m - (intOf i).toNat)
              case atStart => exact ⟨0, 0, Nat.zero_le _, rfl, rfl⟩
              case round =>
                obtain ⟨i2, d2, hi2, rfl, hwd2⟩ := hrel
                have HWD2 := Lib.hid hwd2
                have hB2 : Below wi.heap.size wi wr := by rw [hwd2]; exact below_drewN (Below.refl _ _) d2
                have hB3 := below_from HBI.out hB2
                clear hwd2
                by_cases hlt3 : i2 < m
                · obtain ⟨b5, o5, y, e5, hy, -, g5⟩ := fl_at (vs_keep (kept_B hB3) HV3.out) hlt3
                  cases e5
                  have hcy := Fl.counts_of (HWZ.out y (List.mem_of_getElem? hy))
                  obtain ⟨c1, -⟩ := varN_B hB3 HXA.out i1 _ (fls_at (by rw [HE1.out]; exact hlt2))
                  obtain ⟨c2, -⟩ := varN_B hB3 HXB.out i2 _ (fls_at (by rw [HE2.out]; exact hlt3))
                  have hle := HE4.out i1 i2 hlt2 hlt3
                  have hge := HE3.out i2 hlt3
                  rw [getD_of hy] at hle
                  obtain ⟨bi, hbi⟩ : ∃ z, bl.getD i1 0 = z := ⟨_, rfl⟩
                  obtain ⟨pj, hpj⟩ : ∃ z, pl.getD i2 0 = z := ⟨_, rfl⟩
                  rw [hbi] at c1 hle
                  rw [hpj] at c2 hle hge
                  have j3 : (0 : Int) ≤ i2 := by omega
                  have j4 : (i2 : Int) < m := by omega
                  have qx : (FloatKind.f64.format.order x 0 == some .gt) = Fl.cnt x := hcx
                  have qy : (FloatKind.f64.format.order y 0 == some .gt) = Fl.cnt y := hcy
                  have qg : Fl.cnt y = true → (FloatKind.f64.format.order bi pj == some .gt) = false := fun h => by
                    have h1 := hle h
                    have h2 : Fl.ge0 bi := by unfold Fl.ge0 at hge ⊢; omega
                    have h3 := Fl.gt_ge h2 hge
                    exact h3.trans (decide_eq_false (by omega))
                  clear hcx hcy hle hge hbi hpj hy hB2 hB3
                  cases hc1 : Fl.cnt x with
                  | false =>
                    rw [hc1] at qx
                    clear qy qg hc1
                    go_upto_region 20 with fail
                    go_quiet (fail)
                    go_wp2_with fail
                    go_roundw
                    case rel => exact ⟨i2 + 1, d2 + nq, by omega, by go_num, by rw [HWD2.out, World.drewN_drewN]⟩
                    case measure => simp [intOf]; omega
                  | true =>
                    rw [hc1] at qx
                    cases hc2 : Fl.cnt y with
                    | false =>
                      rw [hc2] at qy
                      clear qg hc1 hc2
                      go_upto_region 20 with fail
                      go_quiet (fail)
                      go_wp2_with fail
                      go_roundw
                      case rel => exact ⟨i2 + 1, d2 + nq, by omega, by go_num, by rw [HWD2.out, World.drewN_drewN]⟩
                      case measure => simp [intOf]; omega
                    | true =>
                      rw [hc2] at qy
                      have qz := qg hc2
                      clear qg hc1 hc2
                      go_upto_region 20 with fail
                      go_quiet (fail)
                      go_wp2_with fail
                      go_roundw
                      case rel => exact ⟨i2 + 1, d2 + nq, by omega, by go_num, by rw [HWD2.out, World.drewN_drewN]⟩
                      case measure => simp [intOf]; omega
                · obtain rfl : i2 = m := by omega
                  clear hB2 hB3 hcx
                  go_wp2_with fail
                  go_roundw
                  case rel => exact ⟨i1 + 1, d + d2, by omega, by go_num, by rw [HWD2.out, HWD.out, World.drewN_drewN]⟩
                  case measure => simp [intOf]; omega
            · obtain rfl : i1 = m := by omega
              have q2 : ((q : Int) == q) = true := by simp
              clear hB0
              go_wp2_with fail
              refine (HAL.out _).mono ?_
              rintro e w9 ⟨rfl, hb9⟩
              have HB9 := Lib.hid (HB3.out.trans ((below_from HBI.out hb9).mono HB3.out.size))
              clear hb9
              go_wp2
              go_ret
              exact boolPost_mk rfl HB9.out
  · have q1 : (E != 0) = true := by simpa using hE0
    have hl0 : l = [] := by rw [← HL.out, pkL, if_neg (by rw [HE.out]; exact hE0)]
    subst hl0
    have HB2 := Lib.hid hb2
    clear hE0 VL h1 h2 h3 hb2
    go_wp2_with fail
    refine (HAL.out _).mono ?_
    rintro e w3 ⟨rfl, hb3⟩
    have HB3 := Lib.hid (below_from HB2.out hb3)
    clear hb3
    go_wp2
    go_ret
    exact boolPost_mk rfl HB3.out
end Go.Proofs.Ytmdkokhlfflokaa
