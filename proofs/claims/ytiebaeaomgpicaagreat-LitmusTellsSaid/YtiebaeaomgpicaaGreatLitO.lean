/- Package litmus: the closure goes through all stages. -/
import Derived.Test.YtiebaeaomgpicaaGreatLitN
import Derived.Test.YtiebaeaomgpicaaGreatM8
namespace Go.Proofs.YtiebaeaomgpicaaGreat
open Go.ChangeShapes Go.WideShapes Go.ChangeAt Go.RowKit
open Gen

/-- what is met, and its rows, behind the steps of the first j threads -/
def accTo (l f : Nat) (s : St) (acc : List (List Int) × List (List Int)) (j : Nat) : List (List Int) × List (List Int) := ((List.range j).flatMap (stepsJ s)).foldl (fun a t => dfsF l f t a) acc
theorem accTo_succ (l f : Nat) (s : St) (acc : List (List Int) × List (List Int)) (j : Nat) : accTo l f s acc (j + 1) = (stepsJ s j).foldl (fun a t => dfsF l f t a) (accTo l f s acc j) := by
  simp [accTo, List.range_succ]
theorem dfs_end {l f : Nat} {s : St} {acc : List (List Int) × List (List Int)} (hn : nameN s l ∉ acc.1) (hd : endedB s l = true) : dfsF l (f + 1) s acc = (acc.1 ++ [nameN s l], acc.2 ++ [outS s]) := by
  rw [dfsF, dfs, if_neg hn, if_pos hd]
theorem dfs_go {l f : Nat} {s : St} {acc : List (List Int) × List (List Int)} (hn : nameN s l ∉ acc.1) (hd : endedB s l = false) : dfsF l (f + 1) s acc = accTo l f s (acc.1 ++ [nameN s l], acc.2) l := by
  rw [dfsF, dfs, if_neg hn, if_neg (by rw [hd]; decide)]
  rfl
theorem dfs_met {l f : Nat} {s : St} {acc : List (List Int) × List (List Int)} (hn : nameN s l ∈ acc.1) : dfsF l (f + 1) s acc = acc := by
  rw [dfsF, dfs, if_pos hn]
theorem mut_ga {B gm ga gl gf bm : Nat} {acc : List (List Int) × List (List Int)} {v : Value} {w : World} (M : Mut B gm ga gl gf bm acc v w) : ga < w.heap.size := lt_of_cell M.cell
theorem cells_B {w w' : World} {g : Nat} {vs : List Value} (hb : Below w.heap.size w w') (h : ∀ i x, vs[i]? = some x → w.cell? ⟨g, i, none⟩ = some x) : ∀ i x, vs[i]? = some x → w'.cell? ⟨g, i, none⟩ = some x := fun i x hi => cellB hb (h i x hi)
theorem cells_adv {B bm ga : Nat} {v v' : Value} {w w' : World} {g : Nat} {vs : List Value} (A : Adv B bm ga w v w' v') (hg : g < w.heap.size) (hq : Qx bm ga v g) (h : ∀ i x, vs[i]? = some x → w.cell? ⟨g, i, none⟩ = some x) : ∀ i x, vs[i]? = some x → w'.cell? ⟨g, i, none⟩ = some x := fun i x hi => A.kept _ _ _ ⟨hg, hq⟩ (h i x hi)
theorem qx_new {B gm ga gl gf bm : Nat} {acc : List (List Int) × List (List Int)} {v : Value} {w : World} (M : Mut B gm ga gl gf bm acc v w) {b : Nat} (hb : w.heap.size ≤ b) : Qx bm ga v b := by
  obtain ⟨vs, h1, _⟩ := M.own
  exact ⟨fun e => by have := met_lt M.map; omega, fun e => by have := mut_ga M; omega, fun e => by have := (h1.lt _ e).2; omega⟩
theorem metOk_fold {W D : Int} {ts : List (List Mv)} (hm : mayL W D ts = true) {f : Nat} : ∀ (l : List St) (a : List (List Int) × List (List Int)), (∀ t ∈ l, Ok W D ts t ∧ muS ts.length t < f) → MetOk W D ts a → MetOk W D ts (l.foldl (fun a t => dfsF ts.length f t a) a)
  | [], _, _, h => h
  | t :: l, a, hl, h => metOk_fold hm l _ (fun t ht => hl t (List.mem_cons_of_mem _ ht)) (metOk_dfs hm (hl t (by simp)).1 (hl t (by simp)).2 h)
theorem metOk_to {W D : Int} {ts : List (List Mv)} (hm : mayL W D ts = true) {f : Nat} {s : St} (hst : ∀ j, j < ts.length → ∀ t ∈ stepsJ s j, Ok W D ts t ∧ muS ts.length t < f) {a : List (List Int) × List (List Int)} (h : MetOk W D ts a) : ∀ j, j ≤ ts.length → MetOk W D ts (accTo ts.length f s a j)
  | 0, _ => h
  | j + 1, hj => by
    rw [accTo_succ]
    exact metOk_fold hm _ _ (hst j (by omega)) (metOk_to hm hst h j (by omega))
def mvs (s : St) (j : Nat) : List St := match s.l j with | [] => [] | m :: r => if (moveS (leftS s j r) j m).2 = true then [(moveS (leftS s j r) j m).1] else []
theorem steps_mvs (s : St) (j : Nat) : stepsJ s j = (if flE s j = 0 then [flushS s j] else []) ++ mvs s j := rfl
theorem mvs_none {s : St} {j : Nat} (h : s.l j = []) : mvs s j = [] := by rw [mvs, h]
theorem mvs_some {s : St} {j : Nat} {m : Mv} {r : List Mv} (h : s.l j = m :: r) : mvs s j = if (moveS (leftS s j r) j m).2 = true then [(moveS (leftS s j r) j m).1] else [] := by rw [mvs, h]
def FromPost (B gm ga gl gf bm : Nat) (acc : List (List Int) × List (List Int)) (v : Value) (w : World) (e : Ending) (w' : World) : Prop :=
  e = .returned (.tuple #[]) ∧ ∃ v', Mut B gm ga gl gf bm acc v' w' ∧ Adv B bm ga w v w' v'
theorem Tryz.infoSl : (Tryz.prog.info? 23).map (fun i => (i.zero, i.size, i.bytes)) = some (some (.slice none 0 0), 1, 24) := by kernel_rfl
inductive RowInv (w3 : World) (gm ga gl gf bm B : Nat) (acc0 : List (List Int) × List (List Int)) (v : Value) (os : List Int) (a a' q : Option Addr) (n c n' c' l d : Nat) (p : Nat → Option Addr) (pl pc : Nat → Nat) (r : Nat → Option Addr) (rl rc : Nat → Nat) (s : St) (a0 : Act) (w0 : World) (listed : Array Bool) (act' : Act) (w' : World) : Prop
  | mk (p21 p22 p23 p24 p25 : Value) (ua : Option Addr) (uc : Nat) (gw : Nat) (v2 : Value) (ea : act' = (((((a0.put (some 21) p21).put (some 22) p22).put (some 23) p23).put (some 24) p24).put (some 25) p25)) (hb : (¬ Up listed 4 → Below w3.heap.size w3 w')) (hf0 : Up listed 0 → p21 = v) (hf1 : Up listed 1 → p22 = .agg #[.slice a n c, .slice a' n' c', .int .i64 s.D, .slice q l d, .slice (p 0) (pl 0) (pc 0), .slice (p 1) (pl 1) (pc 1), .slice (p 2) (pl 2) (pc 2), .slice (r 0) (rl 0) (rc 0), .slice (r 1) (rl 1) (rc 1), .slice (r 2) (rl 2) (rc 2)]) (hC : Up listed 2 → p23 = .slice ua os.length uc ∧ Up listed 1 ∧ (¬ Up listed 4 → (repSlice repInt).R (Qn B bm ga v) w' [.slice ua os.length uc] os)) (hD : Up listed 3 → p24 = .slice (some ⟨gw, 0, none⟩) 1 1 ∧ Up listed 2 ∧ (¬ Up listed 4 → w'.cell? ⟨gw, 0, none⟩ = some (.slice ua os.length uc))) (hE : Up listed 4 → p25 = v2 ∧ Up listed 0 ∧ Up listed 3 ∧ (¬ Up listed 5 → w'.cell? ⟨ga, 0, none⟩ = some v ∧ w'.frozen? ⟨ga, 0, none⟩ = false ∧ Mut B gm ga gl gf bm (acc0.1, acc0.2 ++ [os]) v2 (w'.setCell ⟨ga, 0, none⟩ v2) ∧ Adv B bm ga w3 v (w'.setCell ⟨ga, 0, none⟩ v2) v2)) (hF : Up listed 5 → Up listed 4 ∧ Mut B gm ga gl gf bm (acc0.1, acc0.2 ++ [os]) v2 w' ∧ Adv B bm ga w3 v w' v2) : RowInv w3 gm ga gl gf bm B acc0 v os a a' q n c n' c' l d p pl pc r rl rc s a0 w0 listed act' w'

set_option maxRecDepth 100000 in
set_option maxHeartbeats 8000000 in
theorem from_any {W D : Int} {ts : List (List Mv)} (hm : mayL W D ts = true) (B gm ga gl gf bm : Nat) (hBm : B ≤ bm) (hBa : B ≤ ga) :
    ∀ (f : Nat) (s : St) (a a' q : Option Addr) (n c n' c' d : Nat) (p : Nat → Option Addr) (pl pc : Nat → Nat) (r : Nat → Option Addr) (rl rc : Nat → Nat) (acc : List (List Int) × List (List Int)) (v : Value) (w : World),
      Ok W D ts s → muS ts.length s < f → MetOk W D ts acc → Env gm ga gl gf bm ts.length w → Mut B gm ga gl gf bm acc v w → StQ (Qx bm ga v) w a a' q n n' ts.length p pl pc r rl rc s → B ≤ w.heap.size →
      Calls Tryz.prog 13 #[.agg #[.slice a n c, .slice a' n' c', .int .i64 s.D, .slice q ts.length d, .slice (p 0) (pl 0) (pc 0), .slice (p 1) (pl 1) (pc 1), .slice (p 2) (pl 2) (pc 2), .slice (r 0) (rl 0) (rc 0), .slice (r 1) (rl 1) (rc 1), .slice (r 2) (rl 2) (rc 2)], .pointer (some ⟨gm, 0, none⟩), .pointer (some ⟨ga, 0, none⟩), .pointer (some ⟨gl, 0, none⟩), .pointer (some ⟨gf, 0, none⟩)] w (FromPost B gm ga gl gf bm (dfsF ts.length f s acc) v w) := by
  intro f
  induction f with
  | zero => intro s a a' q n c n' c' d p pl pc r rl rc acc v w _ h; omega
  | succ f ih =>
    intro s a a' q n c n' c' d p pl pc r rl rc acc v w K hf MO E M S hB
    obtain ⟨⟨hW1, hW2, _⟩, ⟨hl1, hl3⟩, _⟩ := mayL_parts hm
    obtain ⟨nd1, nd2⟩ := name_dig hm K
    obtain ⟨o1, o2⟩ := out_len hm K
    have hwl := K.wl
    obtain ⟨mf1, mf2, -⟩ := metOk_few hm MO
    have hih := Lib.hid ih
    clear ih
    obtain ⟨l, hl⟩ : ∃ l, ts.length = l := ⟨_, rfl⟩
    rw [hl] at hl1 hl3 nd1 nd2 E S hf ⊢
    obtain ⟨W0, hW0⟩ : ∃ W0, W0 = w.alloc (Obj.cells #[.slice a n c, .slice a' n' c', .int .i64 s.D, .slice q l d, .slice (p 0) (pl 0) (pc 0), .slice (p 1) (pl 1) (pc 1), .slice (p 2) (pl 2) (pc 2), .slice (r 0) (rl 0) (rc 0), .slice (r 1) (rl 1) (rc 1), .slice (r 2) (rl 2) (rc 2)] 50) := ⟨_, rfl⟩
    have hb0 : Below w.heap.size w W0 := by rw [hW0]; go_grown
    have X0 : VarN W0 w.heap.size [.slice a n c, .slice a' n' c', .int .i64 s.D, .slice q l d, .slice (p 0) (pl 0) (pc 0), .slice (p 1) (pl 1) (pc 1), .slice (p 2) (pl 2) (pc 2), .slice (r 0) (rl 0) (rc 0), .slice (r 1) (rl 1) (rc 1), .slice (r 2) (rl 2) (rc 2)] := by rw [hW0]; exact varN_new [.slice a n c, .slice a' n' c', .int .i64 s.D, .slice q l d, .slice (p 0) (pl 0) (pc 0), .slice (p 1) (pl 1) (pc 1), .slice (p 2) (pl 2) (pc 2), .slice (r 0) (rl 0) (rc 0), .slice (r 1) (rl 1) (rc 1), .slice (r 2) (rl 2) (rc 2)] _ rfl
    have M0 := mut_B hb0 M
    have E0 := env_B hb0 E
    have A0 : Adv B bm ga w v W0 v := adv_B hb0 hB
    have S0 := stQ_B hb0 S
    have hg5 : w.heap.size < W0.heap.size := varN_lt X0 (by simp)
    have hq5 : Qx bm ga v w.heap.size := ⟨fun e => by have := met_lt M.map; omega, fun e => by have := mut_ga M; omega, fun e => by
      obtain ⟨vs, h1, _⟩ := M.own
      have := (h1.lt _ e).2; omega⟩
    have HL := Lib.hid hl
    obtain ⟨nm, hnm⟩ : ∃ nm, nameN s l = nm := ⟨_, rfl⟩
    rw [hnm] at nd1 nd2
    have hname := name_any a a' q n c n' c' l d p pl pc r rl rc s W0 S0.stF hl3 (by omega) (by omega) (by omega)
    rw [hnm] at hname
    have HNM := Lib.hid hnm
    have HW0 := Lib.hid hW0
    have HX0 := Lib.hid X0
    have HM0 := Lib.hid M0
    have HE0 := Lib.hid E0
    have HA0 := Lib.hid A0
    have HS0 := Lib.hid S0
    have HB := Lib.hid hB
    have HND := Lib.hid (And.intro nd1 nd2)
    have HMO := Lib.hid MO
    have HK := Lib.hid K
    have HMF := Lib.hid (And.intro mf1 mf2)
    have HQ5 := Lib.hid (And.intro hg5 hq5)
    have HLN := Lib.hid (And.intro o1 (And.intro hwl (And.intro hW1 hW2)))
    clear hW0 X0 M0 E0 A0 S0 hnm M E S MO nd1 nd2 hq5 hg5 hb0 K mf1 mf2 hB o1 o2 hwl hW1 hW2 hl
    go_enter Tryz.func13, Tryz.ntmps13
    go_upto_region 1 with fail
    rw [← HW0.out]
    have k0 := (HX0.out 0 _ rfl).1
    have k1 := (HX0.out 1 _ rfl).1
    have k2 := (HX0.out 2 _ rfl).1
    have k3 := (HX0.out 3 _ rfl).1
    have k4 := (HX0.out 4 _ rfl).1
    have k5 := (HX0.out 5 _ rfl).1
    have k6 := (HX0.out 6 _ rfl).1
    have k7 := (HX0.out 7 _ rfl).1
    have k8 := (HX0.out 8 _ rfl).1
    have k9 := (HX0.out 9 _ rfl).1
    go_wp2_with fail
    refine hname.mono ?_
    rintro e w1 ⟨rfl, hb1⟩
    have M1 := mut_B hb1 HM0.out
    have E1 := env_B hb1 HE0.out
    have A1 : Adv B bm ga w v w1 v := adv_trans HA0.out (adv_B hb1 (by have := HB.out; have := HQ5.out.1; omega))
    have X1 := varN_B hb1 HX0.out
    have S1 := stQ_B hb1 HS0.out
    have hlook := met_look M1.map HND.out.2 (by have := HND.out.1; omega)
    have cm1 := E1.cm
    have HM1 := Lib.hid M1
    have HE1 := Lib.hid E1
    have HA1 := Lib.hid A1
    have HX1 := Lib.hid X1
    have HS1 := Lib.hid S1
    have hg51 := hb1.size
    clear M1 E1 A1 X1 S1 hb1 hname k0 k1 k2 k3 k4 k5 k6 k7 k8 k9 HX0 HM0 HE0 HA0 HS0 HW0
    by_cases hin : nm ∈ acc.1
    · rw [decide_eq_true hin] at hlook
      have HIN := Lib.hid (dfs_met (f := f) (by rw [HNM.out]; exact hin) : dfsF l (f + 1) s acc = acc)
      clear hin
      go_wp2
      go_end0
      rw [HIN.out]
      exact ⟨rfl, v, HM1.out, HA1.out⟩
    · rw [decide_eq_false hin] at hlook
      have HIN := Lib.hid (show nameN s l ∉ acc.1 by rw [HNM.out]; exact hin)
      clear hin
      obtain ⟨w2, hput, hmm, hg⟩ := met_put HM1.out.map HND.out.2 (by have := HND.out.1; omega) (by have := HMF.out.1; unfold maxLen; omega)
      obtain ⟨acc0, hacc⟩ : ∃ x, (acc.1 ++ [nm], acc.2) = x := ⟨_, rfl⟩
      have M2 := mut_met HM1.out HE1.out.ne.2.2.2.2.2.2 hmm hg
      rw [hacc] at M2
      have HACC := Lib.hid hacc
      clear hacc
      have Am := adv_met HM1.out hBm hg
      have E2 := env_adv HE1.out HM1.out Am
      have S2 := stQ_adv Am HS1.out
      have X2 := varN_grown hg (fun e => HQ5.out.2.1 (Option.some.inj e).symm) HX1.out
      have HM2 := Lib.hid M2
      have HE2 := Lib.hid E2
      have HA2 := Lib.hid (adv_trans HA1.out Am)
      have HS2 := Lib.hid S2
      have HX2 := Lib.hid X2
      have hg52 := hg.size
      clear M2 Am E2 S2 X2 hmm hg HM1 HE1 HA1 HX1 HS1
      have hend := ended_any a a' q n c n' c' l d p pl pc r rl rc s w2 HS2.out.stF hl3
      have k0 := (HX2.out 0 _ rfl).1
      have k1 := (HX2.out 1 _ rfl).1
      have k2 := (HX2.out 2 _ rfl).1
      have k3 := (HX2.out 3 _ rfl).1
      have k4 := (HX2.out 4 _ rfl).1
      have k5 := (HX2.out 5 _ rfl).1
      have k6 := (HX2.out 6 _ rfl).1
      have k7 := (HX2.out 7 _ rfl).1
      have k8 := (HX2.out 8 _ rfl).1
      have k9 := (HX2.out 9 _ rfl).1
      go_wp2_with fail
      refine hend.mono ?_
      rintro e w3 ⟨rfl, hb3⟩
      have HM3 := Lib.hid (mut_B hb3 HM2.out)
      have HE3 := Lib.hid (env_B hb3 HE2.out)
      have HA3 := Lib.hid (adv_trans HA2.out (adv_B hb3 (by have := HB.out; have := HQ5.out.1; omega)))
      have HX3 := Lib.hid (varN_B hb3 HX2.out)
      have HS3 := Lib.hid (stQ_B hb3 HS2.out)
      have hg53 := hb3.size
      clear hb3 hend k0 k1 k2 k3 k4 k5 k6 k7 k8 k9 cm1 hlook hput HM2 HE2 HA2 HX2 HS2
      have k0 := (HX3.out 0 _ rfl).1
      have k1 := (HX3.out 1 _ rfl).1
      have k2 := (HX3.out 2 _ rfl).1
      have k3 := (HX3.out 3 _ rfl).1
      have k4 := (HX3.out 4 _ rfl).1
      have k5 := (HX3.out 5 _ rfl).1
      have k6 := (HX3.out 6 _ rfl).1
      have k7 := (HX3.out 7 _ rfl).1
      have k8 := (HX3.out 8 _ rfl).1
      have k9 := (HX3.out 9 _ rfl).1
      cases hd : endedB s l with
      | true =>
        have HD := Lib.hid (dfs_end (f := f) HIN.out hd)
        clear hd
        go_wp2
        obtain ⟨vs, ow1, ow2⟩ := HM3.out.own
        obtain ⟨i0, hi, hz0, hz1, hz2⟩ := info_parts Tryz.infoSl
        have HI := Lib.hid (And.intro hi (And.intro hz0 (And.intro hz1 hz2)))
        have HO := Lib.hid (And.intro ow1 ow2)
        clear hi hz0 hz1 hz2 ow1 ow2
        have HZ3 := Lib.hid (show B ≤ w3.heap.size by have := HB.out; have := HQ5.out.1; omega)
        have HMF := Lib.hid (show acc0.2.length ≤ 2 * 10 ^ 9 by rw [← HACC.out]; exact HMF.out.2)
        rw [HNM.out] at HD
        obtain ⟨os, hos⟩ : ∃ os, outS s = os := ⟨_, rfl⟩
        have HOUT := Lib.hid (show ∀ w', Below w3.heap.size w3 w' → Calls Tryz.prog 16 #[.agg #[.slice a n c, .slice a' n' c', .int .i64 s.D, .slice q l d, .slice (p 0) (pl 0) (pc 0), .slice (p 1) (pl 1) (pc 1), .slice (p 2) (pl 2) (pc 2), .slice (r 0) (rl 0) (rc 0), .slice (r 1) (rl 1) (rc 1), .slice (r 2) (rl 2) (rc 2)]] w' (OwnPost os w') from fun w' hbw => by
          rw [← hos]
          exact outcome_any a a' q n c n' c' l d p pl pc r rl rc s w' (stF_B hbw HS3.out.stF) (by have := HLN.out; omega) (by have := HLN.out; omega) (by have := HLN.out; omega))
        rw [hos] at HD
        clear hos k0 k1 k2 k3 k4 k5 k6 k7 k8 k9
        refine wp_region_inv (RowInv w3 gm ga gl gf bm B acc0 v os a a' q n c n' c' l d p pl pc r rl rc s) (by kernel_rfl) (by kernel_rfl) ?_ ?_ ?_
        · intro listed hl
          exact .mk undef undef undef undef undef none 0 0 undef (by simp only [Act.put, List.setIfInBounds_toArray, List.set_cons_zero, List.set_cons_succ]) (fun _ => (Below.refl _ _).drew) (fun h => absurd h (hl 0 (by decide))) (fun h => absurd h (hl 1 (by decide))) (fun h => absurd h (hl 2 (by decide))) (fun h => absurd h (hl 3 (by decide))) (fun h => absurd h (hl 4 (by decide))) (fun h => absurd h (hl 5 (by decide)))
        · show StepsL _ _ _ _ _ _ _
          refine StepsL.cons (k := 0) rfl (fun listed a1 w1 hI hn hw K hK => ?_) ?_
          · cases hI with | mk p21 p22 p23 p24 p25 ua uc gw v2 ea hb hf0 hf1 hC hD hE hF =>
              have h4 : ¬ Up listed 4 := fun h => hn (hE h).2.1
              have cga := cellB (hb h4) HM3.out.cell
              have Hhf0 := Lib.hid hf0
              have Hhf1 := Lib.hid hf1
              have HhC := Lib.hid hC
              have HhD := Lib.hid hD
              have HhE := Lib.hid hE
              have HhF := Lib.hid hF
              have Hhb := Lib.hid hb
              have Hhw := Lib.hid hw
              clear hf0 hf1 hC hD hE hF hb hw
              rw [ea]
              clear ea
              simp only [Act.put, List.setIfInBounds_toArray, List.set_cons_zero, List.set_cons_succ]
              go_simp
              have hf0 := Hhf0.out
              have hf1 := Hhf1.out
              have hC := HhC.out
              have hD := HhD.out
              have hE := HhE.out
              have hF := HhF.out
              have hb := Hhb.out
              have hw := Hhw.out
              refine hK.out _ _ ?_
              exact .mk (v) p22 p23 p24 p25 ua uc gw v2 (by simp only [Act.put, List.setIfInBounds_toArray, List.set_cons_zero, List.set_cons_succ]) (fun h => hb (fun hu => h (up_old hu))) (fun _ => rfl) (fun h => hf1 (up_back h (by decide))) (fun h => ⟨(hC (up_back h (by decide))).1, up_old (hC (up_back h (by decide))).2.1, fun h4 => (hC (up_back h (by decide))).2.2 (fun hu => h4 (up_old hu))⟩) (fun h => ⟨(hD (up_back h (by decide))).1, up_old (hD (up_back h (by decide))).2.1, fun h4 => (hD (up_back h (by decide))).2.2 (fun hu => h4 (up_old hu))⟩) (fun h => ⟨(hE (up_back h (by decide))).1, up_old (hE (up_back h (by decide))).2.1, up_old (hE (up_back h (by decide))).2.2.1, fun h5 => (hE (up_back h (by decide))).2.2.2 (fun hu => h5 (up_old hu))⟩) (fun h => ⟨up_old (hF (up_back h (by decide))).1, (hF (up_back h (by decide))).2.1, (hF (up_back h (by decide))).2.2⟩)
          refine StepsL.cons (k := 1) rfl (fun listed a1 w1 hI hn hw K hK => ?_) ?_
          · cases hI with | mk p21 p22 p23 p24 p25 ua uc gw v2 ea hb hf0 hf1 hC hD hE hF =>
              have h4 : ¬ Up listed 4 := fun h => hn (hC (hD (hE h).2.2.1).2.1).2.1
              have k0 := cellB (hb h4) (HX3.out 0 _ rfl).1
              have k1 := cellB (hb h4) (HX3.out 1 _ rfl).1
              have k2 := cellB (hb h4) (HX3.out 2 _ rfl).1
              have k3 := cellB (hb h4) (HX3.out 3 _ rfl).1
              have k4 := cellB (hb h4) (HX3.out 4 _ rfl).1
              have k5 := cellB (hb h4) (HX3.out 5 _ rfl).1
              have k6 := cellB (hb h4) (HX3.out 6 _ rfl).1
              have k7 := cellB (hb h4) (HX3.out 7 _ rfl).1
              have k8 := cellB (hb h4) (HX3.out 8 _ rfl).1
              have k9 := cellB (hb h4) (HX3.out 9 _ rfl).1
              have Hhf0 := Lib.hid hf0
              have Hhf1 := Lib.hid hf1
              have HhC := Lib.hid hC
              have HhD := Lib.hid hD
              have HhE := Lib.hid hE
              have HhF := Lib.hid hF
              have Hhb := Lib.hid hb
              have Hhw := Lib.hid hw
              clear hf0 hf1 hC hD hE hF hb hw
              rw [ea]
              clear ea
              simp only [Act.put, List.setIfInBounds_toArray, List.set_cons_zero, List.set_cons_succ]
              go_simp
              have hf0 := Hhf0.out
              have hf1 := Hhf1.out
              have hC := HhC.out
              have hD := HhD.out
              have hE := HhE.out
              have hF := HhF.out
              have hb := Hhb.out
              have hw := Hhw.out
              refine hK.out _ _ ?_
              exact .mk p21 (.agg #[.slice a n c, .slice a' n' c', .int .i64 s.D, .slice q l d, .slice (p 0) (pl 0) (pc 0), .slice (p 1) (pl 1) (pc 1), .slice (p 2) (pl 2) (pc 2), .slice (r 0) (rl 0) (rc 0), .slice (r 1) (rl 1) (rc 1), .slice (r 2) (rl 2) (rc 2)]) p23 p24 p25 ua uc gw v2 (by simp only [Act.put, List.setIfInBounds_toArray, List.set_cons_zero, List.set_cons_succ]) (fun h => hb (fun hu => h (up_old hu))) (fun h => hf0 (up_back h (by decide))) (fun _ => rfl) (fun h => ⟨(hC (up_back h (by decide))).1, up_old (hC (up_back h (by decide))).2.1, fun h4 => (hC (up_back h (by decide))).2.2 (fun hu => h4 (up_old hu))⟩) (fun h => ⟨(hD (up_back h (by decide))).1, up_old (hD (up_back h (by decide))).2.1, fun h4 => (hD (up_back h (by decide))).2.2 (fun hu => h4 (up_old hu))⟩) (fun h => ⟨(hE (up_back h (by decide))).1, up_old (hE (up_back h (by decide))).2.1, up_old (hE (up_back h (by decide))).2.2.1, fun h5 => (hE (up_back h (by decide))).2.2.2 (fun hu => h5 (up_old hu))⟩) (fun h => ⟨up_old (hF (up_back h (by decide))).1, (hF (up_back h (by decide))).2.1, (hF (up_back h (by decide))).2.2⟩)
          refine StepsL.cons (k := 2) rfl (fun listed a1 w1 hI hn hw K hK => ?_) ?_
          · cases hI with | mk p21 p22 p23 p24 p25 ua uc gw v2 ea hb hf0 hf1 hC hD hE hF =>
              have e_f1 := hf1 (hw 1 (by decide))
              subst e_f1
              have h4 : ¬ Up listed 4 := fun h => hn (hD (hE h).2.2.1).2.1
              have Hhf0 := Lib.hid hf0
              have Hhf1 := Lib.hid hf1
              have HhC := Lib.hid hC
              have HhD := Lib.hid hD
              have HhE := Lib.hid hE
              have HhF := Lib.hid hF
              have Hhb := Lib.hid hb
              have Hhw := Lib.hid hw
              clear hf0 hf1 hC hD hE hF hb hw
              rw [ea]
              clear ea
              simp only [Act.put, List.setIfInBounds_toArray, List.set_cons_zero, List.set_cons_succ]
              go_simp
              refine (HOUT.out _ (Hhb.out h4)).mono ?_
              rintro e w2 ⟨u, rfl, ho, hb2⟩
              obtain ⟨ub, ud, rfl, y1, y2, y3, V⟩ := vs_own (r := repInt) (Q := Qn B bm ga v) ho (flat_map1 _ _) (fun b h1 _ => have hle := Nat.le_trans (Hhb.out h4).size h1; ⟨Nat.le_trans HZ3.out hle, qx_new HM3.out hle⟩)
              have hf0 := Hhf0.out
              have hf1 := Hhf1.out
              have hC := HhC.out
              have hD := HhD.out
              have hE := HhE.out
              have hF := HhF.out
              have hb := Hhb.out
              have hw := Hhw.out
              refine hK.out _ _ ?_
              exact .mk p21 (.agg #[.slice a n c, .slice a' n' c', .int .i64 s.D, .slice q l d, .slice (p 0) (pl 0) (pc 0), .slice (p 1) (pl 1) (pc 1), .slice (p 2) (pl 2) (pc 2), .slice (r 0) (rl 0) (rc 0), .slice (r 1) (rl 1) (rc 1), .slice (r 2) (rl 2) (rc 2)]) (.slice ub os.length ud) p24 p25 ub ud gw v2 (by simp only [Act.put, List.setIfInBounds_toArray, List.set_cons_zero, List.set_cons_succ]) (fun _ => (hb h4).trans (hb2.mono (hb h4).size)) (fun h => hf0 (up_back h (by decide))) (fun _ => rfl) (fun _ => ⟨rfl, up_old (hw 1 (by decide)), fun _ => ⟨ub, ud, rfl, y1, y2, y3, V⟩⟩) (fun h => absurd (hD (up_back h (by decide))).2.1 hn) (fun h => absurd (up_back h (by decide)) h4) (fun h => absurd (hF (up_back h (by decide))).1 h4)
          refine StepsL.cons (k := 3) rfl (fun listed a1 w1 hI hn hw K hK => ?_) ?_
          · cases hI with | mk p21 p22 p23 p24 p25 ua uc gw v2 ea hb hf0 hf1 hC hD hE hF =>
              have h4 : ¬ Up listed 4 := fun h => hn (hE h).2.2.1
              obtain ⟨e_C, c1, c2⟩ := hC (hw 2 (by decide))
              subst e_C
              have Hhf0 := Lib.hid hf0
              have Hhf1 := Lib.hid hf1
              have HhC := Lib.hid hC
              have HhD := Lib.hid hD
              have HhE := Lib.hid hE
              have HhF := Lib.hid hF
              have Hhb := Lib.hid hb
              have Hhw := Lib.hid hw
              clear hf0 hf1 hC hD hE hF hb hw
              rw [ea]
              clear ea
              simp only [Act.put, List.setIfInBounds_toArray, List.set_cons_zero, List.set_cons_succ]
              go_simp
              have hf0 := Hhf0.out
              have hf1 := Hhf1.out
              have hC := HhC.out
              have hD := HhD.out
              have hE := HhE.out
              have hF := HhF.out
              have hb := Hhb.out
              have hw := Hhw.out
              refine hK.out _ _ ?_
              exact .mk p21 p22 (.slice ua os.length uc) (.slice (some ⟨w1.heap.size, 0, none⟩) 1 1) p25 ua uc w1.heap.size v2 (by simp only [Act.put, List.setIfInBounds_toArray, List.set_cons_zero, List.set_cons_succ]) (fun _ => (hb h4).alloc (hb h4).size _) (fun h => hf0 (up_back h (by decide))) (fun h => hf1 (up_back h (by decide))) (fun _ => ⟨rfl, up_old c1, fun _ => (repSlice repInt).keep (kept_A _ _) (c2 h4)⟩) (fun _ => ⟨rfl, up_old (hw 2 (by decide)), fun _ => cell_new _ _ _ rfl rfl⟩) (fun h => absurd (up_back h (by decide)) h4) (fun h => absurd (hF (up_back h (by decide))).1 h4)
          refine StepsL.cons (k := 4) rfl (fun listed a1 w1 hI hn hw K hK => ?_) ?_
          · cases hI with | mk p21 p22 p23 p24 p25 ua uc gw v2 ea hb hf0 hf1 hC hD hE hF =>
              have e_f0 := hf0 (hw 0 (by decide))
              obtain ⟨e_D, d1, d2⟩ := hD (hw 3 (by decide))
              obtain ⟨e_C, c1, c2⟩ := hC d1
              subst e_f0 e_D
              have hbw := hb hn
              have M4 := mut_B hbw HM3.out
              have E4 := env_B hbw HE3.out
              have hs4 := hbw.size
              rw [ea]
              refine step_append_far rfl (.tmp 21) (.tmp 24) 27 rfl B 23 i0 (.slice none 0 0) 1 24 Tryz.underlying27 HI.out.1 HI.out.2.1 HI.out.2.2.1 HI.out.2.2.2 rfl (by decide) p21 acc0.2.length vs (by simp [Act.eval, Act.put]) (own_below HO.out.1 hbw) ⟨gw, 0, none⟩ 1 1 [.slice ua os.length uc] (by simp [Act.eval, Act.put]) rfl (fun j u hu => by
                cases j with
                | zero => simp at hu; subst hu; rw [Gen.add_plain]; exact d2 hn
                | succ j => simp at hu) (by simp [Value.oneCell']) (by have := HMF.out; unfold maxLen; omega) (by have := HMF.out; omega) (Nat.le_trans HZ3.out hs4) ?_
              intro v' w2 r1 r2 r3
              have key := mut_row M4 E4 hBa (Nat.le_trans HZ3.out hs4) (own_below HO.out.1 hbw) (flat_keep (kept_B hbw) HO.out.2) (c2 hn) r1 r2 r3
              have hga := grown_cell r2 (mut_ga M4) (fun e => (M4.sep _ e).2.2.2.1 rfl) 0
              refine hK.out _ _ ?_
              exact .mk p21 p22 p23 (.slice (some ⟨gw, 0, none⟩) 1 1) v' ua uc gw v' (by simp only [Act.put, List.setIfInBounds_toArray, List.set_cons_zero, List.set_cons_succ]) (fun h => absurd up_self h) (fun _ => rfl) (fun h => hf1 (up_back h (by decide))) (fun _ => ⟨e_C, up_old c1, fun h => absurd up_self h⟩) (fun _ => ⟨rfl, up_old d1, fun h => absurd up_self h⟩) (fun _ => ⟨rfl, up_old (hw 0 (by decide)), up_old (hw 3 (by decide)), fun _ => ⟨hga.1.trans M4.cell, hga.2.trans M4.free, key.1, adv_trans (adv_B hbw HZ3.out) key.2⟩⟩) (fun h => absurd (hF (up_back h (by decide))).1 hn)
          refine StepsL.cons (k := 5) rfl (fun listed a1 w1 hI hn hw K hK => ?_) ?_
          · cases hI with | mk p21 p22 p23 p24 p25 ua uc gw v2 ea hb hf0 hf1 hC hD hE hF =>
              obtain ⟨e_E, e1, e2, e3⟩ := hE (hw 4 (by decide))
              obtain ⟨z1, z2, z3, z4⟩ := e3 hn
              obtain ⟨vs2, o1, -⟩ := z3.own
              have e5 : ∃ a c, v2 = .slice a (acc0.2.length + 1) c := by
                obtain ⟨a2, c2, e⟩ := own_form o1
                exact ⟨a2, c2, by rw [e]; simp⟩
              obtain ⟨a2, c2, e4⟩ := e5
              clear o1
              subst e4
              subst e_E
              have Hhf0 := Lib.hid hf0
              have Hhf1 := Lib.hid hf1
              have HhC := Lib.hid hC
              have HhD := Lib.hid hD
              have HhE := Lib.hid hE
              have HhF := Lib.hid hF
              have Hhb := Lib.hid hb
              have Hhw := Lib.hid hw
              clear hf0 hf1 hC hD hE hF hb hw
              rw [ea]
              clear ea
              simp only [Act.put, List.setIfInBounds_toArray, List.set_cons_zero, List.set_cons_succ]
              go_simp
              have hf0 := Hhf0.out
              have hf1 := Hhf1.out
              have hC := HhC.out
              have hD := HhD.out
              have hE := HhE.out
              have hF := HhF.out
              have hb := Hhb.out
              have hw := Hhw.out
              refine hK.out _ _ ?_
              exact .mk p21 p22 p23 p24 (.slice a2 (acc0.2.length + 1) c2) ua uc gw (.slice a2 (acc0.2.length + 1) c2) (by simp only [Act.put, List.setIfInBounds_toArray, List.set_cons_zero, List.set_cons_succ]) (fun h => absurd (up_old (hw 4 (by decide))) h) (fun h => hf0 (up_back h (by decide))) (fun h => hf1 (up_back h (by decide))) (fun h => ⟨(hC (up_back h (by decide))).1, up_old (hC (up_back h (by decide))).2.1, fun h4 => absurd (up_old (hw 4 (by decide))) h4⟩) (fun h => ⟨(hD (up_back h (by decide))).1, up_old (hD (up_back h (by decide))).2.1, fun h4 => absurd (up_old (hw 4 (by decide))) h4⟩) (fun _ => ⟨rfl, up_old e1, up_old e2, fun h5 => absurd up_self h5⟩) (fun _ => ⟨up_old (hw 4 (by decide)), z3, z4⟩)
          exact StepsL.nil
        · intro listed a1 w1 hI hu
          cases hI with | mk p21 p22 p23 p24 p25 ua uc gw v2 ea hb hf0 hf1 hC hD hE hF =>
            obtain ⟨-, MF, AF⟩ := hF (hu 5)
            have HMF2 := Lib.hid MF
            have HAF := Lib.hid (adv_trans HA3.out AF)
            clear hf0 hf1 hC hD hE hF hb hu MF AF
            rw [ea]
            clear ea
            simp only [Act.put, List.setIfInBounds_toArray, List.set_cons_zero, List.set_cons_succ]
            go_wp2
            go_end0
            rw [HD.out, show (acc.1 ++ [nm], acc.2 ++ [os]) = (acc0.1, acc0.2 ++ [os]) by rw [← HACC.out]]
            exact ⟨rfl, _, HMF2.out, HAF.out⟩
      | false =>
        have HD := Lib.hid (dfs_go (f := f) HIN.out hd)
        have hdn := hd
        clear hd
        have HX3 : Hid (∀ i x, ([.slice a n c, .slice a' n' c', .int .i64 s.D, .slice q l d, .slice (p 0) (pl 0) (pc 0), .slice (p 1) (pl 1) (pc 1), .slice (p 2) (pl 2) (pc 2), .slice (r 0) (rl 0) (rc 0), .slice (r 1) (rl 1) (rc 1), .slice (r 2) (rl 2) (rc 2)] : List Value)[i]? = some x → w3.cell? ⟨w.heap.size, i, none⟩ = some x) := Lib.hid (fun i x h => (HX3.out i x h).1)
        have HZ3 := Lib.hid (show B ≤ w3.heap.size ∧ w.heap.size < w3.heap.size by have := HB.out; have := HQ5.out.1; omega)
        have HQ3 := Lib.hid HQ5.out.2
        have hmo0 := metOk_add HMO.out HK.out (by rw [HL.out]; exact HIN.out)
        rw [HL.out, hdn, HNM.out, if_neg (by decide), List.append_nil, HACC.out] at hmo0
        have HST := Lib.hid (show ∀ j, j < ts.length → ∀ t ∈ stepsJ s j, Ok W D ts t ∧ muS ts.length t < f from fun j hj t ht => by
          obtain ⟨x1, x2⟩ := stp_ok hm HK.out hj ((mem_steps hm HK.out hj t).1 ht)
          exact ⟨x1, by rw [HL.out] at x2 ⊢; omega⟩)
        have HMO0 := Lib.hid hmo0
        rw [HNM.out, HACC.out] at HD
        obtain ⟨tq, td, hcl⟩ := HE3.out.cl
        clear hmo0 k0 k1 k2 k3 k4 k5 k6 k7 k8 k9 hdn
        go_wp2
        clear hcl
        go_loopw [29] (fun i wr => ∃ (j : Nat) (vj : Value), j ≤ l ∧ i = .int .i64 j ∧ Hid (Mut B gm ga gl gf bm (accTo l f s acc0 j) vj wr) ∧ Hid (Env gm ga gl gf bm l wr) ∧ Hid (StQ (Qx bm ga vj) wr a a' q n n' l p pl pc r rl rc s) ∧ Hid (∀ i x, ([.slice a n c, .slice a' n' c', .int .i64 s.D, .slice q l d, .slice (p 0) (pl 0) (pc 0), .slice (p 1) (pl 1) (pc 1), .slice (p 2) (pl 2) (pc 2), .slice (r 0) (rl 0) (rc 0), .slice (r 1) (rl 1) (rc 1), .slice (r 2) (rl 2) (rc 2)] : List Value)[i]? = some x → wr.cell? ⟨w.heap.size, i, none⟩ = some x) ∧ Hid (Adv B bm ga w v wr vj) ∧ Hid (B ≤ wr.heap.size ∧ w.heap.size < wr.heap.size) ∧ Hid (Qx bm ga vj w.heap.size)) (fun i _ => l - (intOf i).toNat)
        case atStart => exact ⟨0, v, by omega, rfl, HM3.out, HE3.out, HS3.out, HX3.out, HA3.out, HZ3.out, HQ3.out⟩
        case round =>
          clear HM3 HE3 HS3 HX3 HA3 HZ3 HQ3
          obtain ⟨j, v4, hj, rfl, HM4, HE4, HS4, HX4, HA4, HZ4, HQ4⟩ := hrel
          obtain ⟨w4, hw4⟩ : ∃ w4 : World, w4 = wr := ⟨_, rfl⟩
          subst hw4
          by_cases hlt : j < l
          · have j1 : (0 : Int) ≤ j := by omega
            have j2 : (j : Int) < l := by omega
            have HAT := Lib.hid (accTo_succ l f s acc0 j)
            have HMJ := Lib.hid (show MetOk W D ts (accTo l f s acc0 j) by have := metOk_to hm HST.out HMO0.out j (by rw [HL.out]; exact hj); rw [HL.out] at this; exact this)
            have hsj := HST.out j (by rw [HL.out]; exact hlt)
            rw [steps_mvs] at hsj
            obtain ⟨aj, haj⟩ : ∃ aj, accTo l f s acc0 j = aj := ⟨_, rfl⟩
            rw [haj, steps_mvs, List.foldl_append] at HAT
            rw [haj] at HM4 HMJ
            clear haj
            have HSJ := Lib.hid hsj
            clear hsj
            have k0 := HX4.out 0 _ rfl
            have k1 := HX4.out 1 _ rfl
            have k2 := HX4.out 2 _ rfl
            have k3 := HX4.out 3 _ rfl
            have k4 := HX4.out 4 _ rfl
            have k5 := HX4.out 5 _ rfl
            have k6 := HX4.out 6 _ rfl
            have k7 := HX4.out 7 _ rfl
            have k8 := HX4.out 8 _ rfl
            have k9 := HX4.out 9 _ rfl
            go_wp2_with fail
            have hcn := (show Calls Tryz.prog 17 #[.agg #[.slice a n c, .slice a' n' c', .int .i64 s.D, .slice q l d, .slice (p 0) (pl 0) (pc 0), .slice (p 1) (pl 1) (pc 1), .slice (p 2) (pl 2) (pc 2), .slice (r 0) (rl 0) (rc 0), .slice (r 1) (rl 1) (rc 1), .slice (r 2) (rl 2) (rc 2)], .int .i64 (j : Nat)] w4 (StPost (Qx bm ga v4) (flushS s j) (flE s j == 0) w4) from flushed_any a a' q n c n' c' l d p pl pc r rl rc s j w4 (Qx bm ga v4) HS4.out)
            with_reducible refine hcn.mono ?_
            clear hcn
            rintro e w5 ⟨a5, b5, q5, n5, c5, m5, e5, l5, d5, p5, pl5, pc5, r5, rl5, rc5, rfl, T5, hb5⟩
            have HT5 := Lib.hid (stQ_mono (fun b hb => hb.elim id (fun h => qx_new HM4.out h)) T5)
            have HM5 := Lib.hid (mut_B hb5 HM4.out)
            have HE5 := Lib.hid (env_B hb5 HE4.out)
            have HS5 := Lib.hid (stQ_B hb5 HS4.out)
            have HX5 := Lib.hid (cells_B hb5 HX4.out)
            have HA5 := Lib.hid (adv_trans HA4.out (adv_B hb5 HZ4.out.1))
            have HZ5 := Lib.hid (show B ≤ w5.heap.size ∧ w.heap.size < w5.heap.size by have := hb5.size; have := HZ4.out; omega)
            have HQ5 := HQ4
            obtain ⟨w6, hw6⟩ : ∃ x, x = w5.alloc (Obj.cells #[.slice a5 n5 c5, .slice b5 m5 e5, .int .i64 (flushS s j).D, .slice q5 l5 d5, .slice (p5 0) (pl5 0) (pc5 0), .slice (p5 1) (pl5 1) (pc5 1), .slice (p5 2) (pl5 2) (pc5 2), .slice (r5 0) (rl5 0) (rc5 0), .slice (r5 1) (rl5 1) (rc5 1), .slice (r5 2) (rl5 2) (rc5 2)] 50) := ⟨_, rfl⟩
            have hb6 : Below w5.heap.size w5 w6 := by rw [hw6]; go_grown
            have HY6 := Lib.hid (show VarN w6 w5.heap.size [.slice a5 n5 c5, .slice b5 m5 e5, .int .i64 (flushS s j).D, .slice q5 l5 d5, .slice (p5 0) (pl5 0) (pc5 0), .slice (p5 1) (pl5 1) (pc5 1), .slice (p5 2) (pl5 2) (pc5 2), .slice (r5 0) (rl5 0) (rc5 0), .slice (r5 1) (rl5 1) (rc5 1), .slice (r5 2) (rl5 2) (rc5 2)] by rw [hw6]; exact varN_new [.slice a5 n5 c5, .slice b5 m5 e5, .int .i64 (flushS s j).D, .slice q5 l5 d5, .slice (p5 0) (pl5 0) (pc5 0), .slice (p5 1) (pl5 1) (pc5 1), .slice (p5 2) (pl5 2) (pc5 2), .slice (r5 0) (rl5 0) (rc5 0), .slice (r5 1) (rl5 1) (rc5 1), .slice (r5 2) (rl5 2) (rc5 2)] _ rfl)
            have HT6 := Lib.hid (stQ_B hb6 HT5.out)
            have HM6 := Lib.hid (mut_B hb6 HM5.out)
            have HE6 := Lib.hid (env_B hb6 HE5.out)
            have HS6 := Lib.hid (stQ_B hb6 HS5.out)
            have HX6 := Lib.hid (cells_B hb6 HX5.out)
            have HA6 := Lib.hid (adv_trans HA5.out (adv_B hb6 HZ5.out.1))
            have HZ6 := Lib.hid (show B ≤ w6.heap.size ∧ w.heap.size < w6.heap.size by have := hb6.size; have := HZ5.out; omega)
            have HQ6 := HQ5
            have HW6 := Lib.hid hw6
            clear hw6 hb5 hb6 T5 k0 k1 k2 k3 k4 k5 k6 k7 k8 k9
            go_upto_region 10 with fail
            rw [← HW6.out]
            by_cases hfe : flE s j = 0
            · have hfb : (flE s j == 0) = true := by simpa using hfe
              have hfm : flushS s j ∈ (if flE s j = 0 then [flushS s j] else []) ++ mvs s j := List.mem_append_left _ (by rw [if_pos hfe]; simp)
              have HMX := HMJ
              rw [hfb]
              have hok := HSJ.out (flushS s j) (hfm)
              have hl2 : l = l5 := by have := HT5.out.2.2.1.1; rw [hok.1.bl, HL.out] at this; exact this
              subst hl2
              have cf := HE6.out.cf
              have k0 := (HY6.out 0 _ rfl).1
              have k1 := (HY6.out 1 _ rfl).1
              have k2 := (HY6.out 2 _ rfl).1
              have k3 := (HY6.out 3 _ rfl).1
              have k4 := (HY6.out 4 _ rfl).1
              have k5 := (HY6.out 5 _ rfl).1
              have k6 := (HY6.out 6 _ rfl).1
              have k7 := (HY6.out 7 _ rfl).1
              have k8 := (HY6.out 8 _ rfl).1
              have k9 := (HY6.out 9 _ rfl).1
              go_wp2_with fail
              have hcall := hih.out ((flushS s j)) a5 b5 q5 n5 c5 m5 e5 d5 p5 pl5 pc5 r5 rl5 rc5 (aj) v4 w6 hok.1 hok.2 HMX.out (by rw [HL.out]; exact HE6.out) HM6.out (by rw [HL.out]; exact HT6.out) HZ6.out.1
              rw [HL.out] at hcall
              refine hcall.mono ?_
              clear hcall cf k0 k1 k2 k3 k4 k5 k6 k7 k8 k9
              rintro e w7 ⟨rfl, v7, M7, A7⟩
              have HM7 := Lib.hid M7
              have HE7 := Lib.hid (env_adv HE6.out HM6.out A7)
              have HS7 := Lib.hid (stQ_adv A7 HS6.out)
              have HX7 := Lib.hid (cells_adv A7 HZ6.out.2 HQ6.out HX6.out)
              have HA7 := Lib.hid (adv_trans HA6.out A7)
              have HZ7 := Lib.hid (show B ≤ w7.heap.size ∧ w.heap.size < w7.heap.size by have := A7.below.size; have := HZ6.out; omega)
              have HQ7 := Lib.hid (adv_q A7 HZ6.out.2 HQ6.out)
              clear M7 A7 hok
              have hok7 := HSJ.out _ hfm
              have HMX := Lib.hid (show MetOk W D ts (dfsF l f (flushS s j) aj) by have := metOk_dfs hm hok7.1 hok7.2 HMJ.out; rw [HL.out] at this; exact this)
              clear hfb hfm hok7
              cases hlj : s.l j with
              | nil =>
                have k0 := HX7.out 0 _ rfl
                have k1 := HX7.out 1 _ rfl
                have k2 := HX7.out 2 _ rfl
                have k3 := HX7.out 3 _ rfl
                have k4 := HX7.out 4 _ rfl
                have k5 := HX7.out 5 _ rfl
                have k6 := HX7.out 6 _ rfl
                have k7 := HX7.out 7 _ rfl
                have k8 := HX7.out 8 _ rfl
                have k9 := HX7.out 9 _ rfl
                go_wp2_with fail
                have hcn := moved_none a a' q n c n' c' l d p pl pc r rl rc s j w7 (Qx bm ga v7) HS7.out (by omega) hlj
                with_reducible refine hcn.mono ?_
                clear hcn
                rintro e w8 ⟨a8, b8, q8, n8, c8, m8, e8, l8, d8, p8, pl8, pc8, r8, rl8, rc8, rfl, T8, hb8⟩
                have HT8 := Lib.hid (stQ_mono (fun b hb => hb.elim id (fun h => qx_new HM7.out h)) T8)
                have HM8 := Lib.hid (mut_B hb8 HM7.out)
                have HE8 := Lib.hid (env_B hb8 HE7.out)
                have HS8 := Lib.hid (stQ_B hb8 HS7.out)
                have HX8 := Lib.hid (cells_B hb8 HX7.out)
                have HA8 := Lib.hid (adv_trans HA7.out (adv_B hb8 HZ7.out.1))
                have HZ8 := Lib.hid (show B ≤ w8.heap.size ∧ w.heap.size < w8.heap.size by have := hb8.size; have := HZ7.out; omega)
                have HQ8 := HQ7
                obtain ⟨w9, hw9⟩ : ∃ x, x = w8.alloc (Obj.cells #[.slice a8 n8 c8, .slice b8 m8 e8, .int .i64 noSt.D, .slice q8 l8 d8, .slice (p8 0) (pl8 0) (pc8 0), .slice (p8 1) (pl8 1) (pc8 1), .slice (p8 2) (pl8 2) (pc8 2), .slice (r8 0) (rl8 0) (rc8 0), .slice (r8 1) (rl8 1) (rc8 1), .slice (r8 2) (rl8 2) (rc8 2)] 50) := ⟨_, rfl⟩
                have hb9 : Below w8.heap.size w8 w9 := by rw [hw9]; go_grown
                have HY9 := Lib.hid (show VarN w9 w8.heap.size [.slice a8 n8 c8, .slice b8 m8 e8, .int .i64 noSt.D, .slice q8 l8 d8, .slice (p8 0) (pl8 0) (pc8 0), .slice (p8 1) (pl8 1) (pc8 1), .slice (p8 2) (pl8 2) (pc8 2), .slice (r8 0) (rl8 0) (rc8 0), .slice (r8 1) (rl8 1) (rc8 1), .slice (r8 2) (rl8 2) (rc8 2)] by rw [hw9]; exact varN_new [.slice a8 n8 c8, .slice b8 m8 e8, .int .i64 noSt.D, .slice q8 l8 d8, .slice (p8 0) (pl8 0) (pc8 0), .slice (p8 1) (pl8 1) (pc8 1), .slice (p8 2) (pl8 2) (pc8 2), .slice (r8 0) (rl8 0) (rc8 0), .slice (r8 1) (rl8 1) (rc8 1), .slice (r8 2) (rl8 2) (rc8 2)] _ rfl)
                have HT9 := Lib.hid (stQ_B hb9 HT8.out)
                have HM9 := Lib.hid (mut_B hb9 HM8.out)
                have HE9 := Lib.hid (env_B hb9 HE8.out)
                have HS9 := Lib.hid (stQ_B hb9 HS8.out)
                have HX9 := Lib.hid (cells_B hb9 HX8.out)
                have HA9 := Lib.hid (adv_trans HA8.out (adv_B hb9 HZ8.out.1))
                have HZ9 := Lib.hid (show B ≤ w9.heap.size ∧ w.heap.size < w9.heap.size by have := hb9.size; have := HZ8.out; omega)
                have HQ9 := HQ8
                have HW9 := Lib.hid hw9
                clear hw9 hb8 hb9 T8 k0 k1 k2 k3 k4 k5 k6 k7 k8 k9
                go_upto_region 13 with fail
                rw [← HW9.out]
                have HAT2 := HAT.out
                rw [mvs_none hlj, List.foldl_nil] at HAT2
                rw [if_pos hfe] at HAT2
                rw [List.foldl_cons, List.foldl_nil] at HAT2
                have HMF3 := HM9.out
                rw [← HAT2] at HMF3
                have HMG := Lib.hid HMF3
                clear HAT2 HMF3
                go_wp2
                go_roundw
                case rel => exact ⟨j + 1, v7, by omega, by go_num, HMG.out, HE9.out, HS9.out, HX9.out, HA9.out, HZ9.out, HQ9.out⟩
                case measure => simp [intOf]; omega
              | cons mv rest =>
                have hrl : rl j ≤ 1000 := by
                  have h1 := (HS7.out.2.2.2.2 j (by omega)).2.1
                  have h2 := (ok_noted hm HK.out j).2
                  omega
                have hfit : fitsB W mv = true := by
                  obtain ⟨ms, e, _⟩ := (HK.out.th j (by rw [HL.out]; exact hlt)).made
                  exact may_fit hm (by rw [HL.out]; exact hlt) (by rw [e, hlj]; simp)
                obtain ⟨g1, g2, -, hkd⟩ := fitsB_parts hfit
                have hwf : (Lit.int .i64 mv.2.1).wf = true := wf_small g1 (by have := HLN.out; omega)
                obtain ⟨tt, htt⟩ : ∃ tt, (moveS (leftS s j rest) j mv).1 = tt := ⟨_, rfl⟩
                have hms := moved_some a a' q n c n' c' l d p pl pc r rl rc s j w7 (Qx bm ga v7) HS7.out (by omega) hlt hrl mv rest hlj hwf hkd
                have HMV := Lib.hid (mvs_some hlj)
                rw [htt] at hms HMV
                clear hrl hfit g1 g2 hwf hkd
                cases hok2 : (moveS (leftS s j rest) j mv).2 with
                | false =>
                  rw [hok2] at hms HMV
                  clear hok2 hlj htt
                  have k0 := HX7.out 0 _ rfl
                  have k1 := HX7.out 1 _ rfl
                  have k2 := HX7.out 2 _ rfl
                  have k3 := HX7.out 3 _ rfl
                  have k4 := HX7.out 4 _ rfl
                  have k5 := HX7.out 5 _ rfl
                  have k6 := HX7.out 6 _ rfl
                  have k7 := HX7.out 7 _ rfl
                  have k8 := HX7.out 8 _ rfl
                  have k9 := HX7.out 9 _ rfl
                  go_wp2_with fail
                  have hcn := hms
                  with_reducible refine hcn.mono ?_
                  clear hcn
                  rintro e w8 ⟨a8, b8, q8, n8, c8, m8, e8, l8, d8, p8, pl8, pc8, r8, rl8, rc8, rfl, T8, hb8⟩
                  have HT8 := Lib.hid (stQ_mono (fun b hb => hb.elim id (fun h => qx_new HM7.out h)) T8)
                  have HM8 := Lib.hid (mut_B hb8 HM7.out)
                  have HE8 := Lib.hid (env_B hb8 HE7.out)
                  have HS8 := Lib.hid (stQ_B hb8 HS7.out)
                  have HX8 := Lib.hid (cells_B hb8 HX7.out)
                  have HA8 := Lib.hid (adv_trans HA7.out (adv_B hb8 HZ7.out.1))
                  have HZ8 := Lib.hid (show B ≤ w8.heap.size ∧ w.heap.size < w8.heap.size by have := hb8.size; have := HZ7.out; omega)
                  have HQ8 := HQ7
                  obtain ⟨w9, hw9⟩ : ∃ x, x = w8.alloc (Obj.cells #[.slice a8 n8 c8, .slice b8 m8 e8, .int .i64 tt.D, .slice q8 l8 d8, .slice (p8 0) (pl8 0) (pc8 0), .slice (p8 1) (pl8 1) (pc8 1), .slice (p8 2) (pl8 2) (pc8 2), .slice (r8 0) (rl8 0) (rc8 0), .slice (r8 1) (rl8 1) (rc8 1), .slice (r8 2) (rl8 2) (rc8 2)] 50) := ⟨_, rfl⟩
                  have hb9 : Below w8.heap.size w8 w9 := by rw [hw9]; go_grown
                  have HY9 := Lib.hid (show VarN w9 w8.heap.size [.slice a8 n8 c8, .slice b8 m8 e8, .int .i64 tt.D, .slice q8 l8 d8, .slice (p8 0) (pl8 0) (pc8 0), .slice (p8 1) (pl8 1) (pc8 1), .slice (p8 2) (pl8 2) (pc8 2), .slice (r8 0) (rl8 0) (rc8 0), .slice (r8 1) (rl8 1) (rc8 1), .slice (r8 2) (rl8 2) (rc8 2)] by rw [hw9]; exact varN_new [.slice a8 n8 c8, .slice b8 m8 e8, .int .i64 tt.D, .slice q8 l8 d8, .slice (p8 0) (pl8 0) (pc8 0), .slice (p8 1) (pl8 1) (pc8 1), .slice (p8 2) (pl8 2) (pc8 2), .slice (r8 0) (rl8 0) (rc8 0), .slice (r8 1) (rl8 1) (rc8 1), .slice (r8 2) (rl8 2) (rc8 2)] _ rfl)
                  have HT9 := Lib.hid (stQ_B hb9 HT8.out)
                  have HM9 := Lib.hid (mut_B hb9 HM8.out)
                  have HE9 := Lib.hid (env_B hb9 HE8.out)
                  have HS9 := Lib.hid (stQ_B hb9 HS8.out)
                  have HX9 := Lib.hid (cells_B hb9 HX8.out)
                  have HA9 := Lib.hid (adv_trans HA8.out (adv_B hb9 HZ8.out.1))
                  have HZ9 := Lib.hid (show B ≤ w9.heap.size ∧ w.heap.size < w9.heap.size by have := hb9.size; have := HZ8.out; omega)
                  have HQ9 := HQ8
                  have HW9 := Lib.hid hw9
                  clear hw9 hb8 hb9 T8 k0 k1 k2 k3 k4 k5 k6 k7 k8 k9
                  go_upto_region 13 with fail
                  rw [← HW9.out]
                  have HAT2 := HAT.out
                  rw [HMV.out, if_neg (show ¬ (false = true) by decide), List.foldl_nil] at HAT2
                  rw [if_pos hfe] at HAT2
                  rw [List.foldl_cons, List.foldl_nil] at HAT2
                  have HMF3 := HM9.out
                  rw [← HAT2] at HMF3
                  have HMG := Lib.hid HMF3
                  clear HAT2 HMF3
                  go_wp2
                  go_roundw
                  case rel => exact ⟨j + 1, v7, by omega, by go_num, HMG.out, HE9.out, HS9.out, HX9.out, HA9.out, HZ9.out, HQ9.out⟩
                  case measure => simp [intOf]; omega
                | true =>
                  rw [hok2] at hms HMV
                  clear hok2 hlj htt
                  have k0 := HX7.out 0 _ rfl
                  have k1 := HX7.out 1 _ rfl
                  have k2 := HX7.out 2 _ rfl
                  have k3 := HX7.out 3 _ rfl
                  have k4 := HX7.out 4 _ rfl
                  have k5 := HX7.out 5 _ rfl
                  have k6 := HX7.out 6 _ rfl
                  have k7 := HX7.out 7 _ rfl
                  have k8 := HX7.out 8 _ rfl
                  have k9 := HX7.out 9 _ rfl
                  go_wp2_with fail
                  have hcn := hms
                  with_reducible refine hcn.mono ?_
                  clear hcn
                  rintro e w8 ⟨a8, b8, q8, n8, c8, m8, e8, l8, d8, p8, pl8, pc8, r8, rl8, rc8, rfl, T8, hb8⟩
                  have HT8 := Lib.hid (stQ_mono (fun b hb => hb.elim id (fun h => qx_new HM7.out h)) T8)
                  have HM8 := Lib.hid (mut_B hb8 HM7.out)
                  have HE8 := Lib.hid (env_B hb8 HE7.out)
                  have HS8 := Lib.hid (stQ_B hb8 HS7.out)
                  have HX8 := Lib.hid (cells_B hb8 HX7.out)
                  have HA8 := Lib.hid (adv_trans HA7.out (adv_B hb8 HZ7.out.1))
                  have HZ8 := Lib.hid (show B ≤ w8.heap.size ∧ w.heap.size < w8.heap.size by have := hb8.size; have := HZ7.out; omega)
                  have HQ8 := HQ7
                  obtain ⟨w9, hw9⟩ : ∃ x, x = w8.alloc (Obj.cells #[.slice a8 n8 c8, .slice b8 m8 e8, .int .i64 tt.D, .slice q8 l8 d8, .slice (p8 0) (pl8 0) (pc8 0), .slice (p8 1) (pl8 1) (pc8 1), .slice (p8 2) (pl8 2) (pc8 2), .slice (r8 0) (rl8 0) (rc8 0), .slice (r8 1) (rl8 1) (rc8 1), .slice (r8 2) (rl8 2) (rc8 2)] 50) := ⟨_, rfl⟩
                  have hb9 : Below w8.heap.size w8 w9 := by rw [hw9]; go_grown
                  have HY9 := Lib.hid (show VarN w9 w8.heap.size [.slice a8 n8 c8, .slice b8 m8 e8, .int .i64 tt.D, .slice q8 l8 d8, .slice (p8 0) (pl8 0) (pc8 0), .slice (p8 1) (pl8 1) (pc8 1), .slice (p8 2) (pl8 2) (pc8 2), .slice (r8 0) (rl8 0) (rc8 0), .slice (r8 1) (rl8 1) (rc8 1), .slice (r8 2) (rl8 2) (rc8 2)] by rw [hw9]; exact varN_new [.slice a8 n8 c8, .slice b8 m8 e8, .int .i64 tt.D, .slice q8 l8 d8, .slice (p8 0) (pl8 0) (pc8 0), .slice (p8 1) (pl8 1) (pc8 1), .slice (p8 2) (pl8 2) (pc8 2), .slice (r8 0) (rl8 0) (rc8 0), .slice (r8 1) (rl8 1) (rc8 1), .slice (r8 2) (rl8 2) (rc8 2)] _ rfl)
                  have HT9 := Lib.hid (stQ_B hb9 HT8.out)
                  have HM9 := Lib.hid (mut_B hb9 HM8.out)
                  have HE9 := Lib.hid (env_B hb9 HE8.out)
                  have HS9 := Lib.hid (stQ_B hb9 HS8.out)
                  have HX9 := Lib.hid (cells_B hb9 HX8.out)
                  have HA9 := Lib.hid (adv_trans HA8.out (adv_B hb9 HZ8.out.1))
                  have HZ9 := Lib.hid (show B ≤ w9.heap.size ∧ w.heap.size < w9.heap.size by have := hb9.size; have := HZ8.out; omega)
                  have HQ9 := HQ8
                  have HW9 := Lib.hid hw9
                  clear hw9 hb8 hb9 T8 k0 k1 k2 k3 k4 k5 k6 k7 k8 k9
                  go_upto_region 13 with fail
                  rw [← HW9.out]
                  have hok := HSJ.out tt (List.mem_append_right _ (by rw [HMV.out]; simp))
                  have hl2 : l = l8 := by have := HT8.out.2.2.1.1; rw [hok.1.bl, HL.out] at this; exact this
                  subst hl2
                  have cf := HE9.out.cf
                  have k0 := (HY9.out 0 _ rfl).1
                  have k1 := (HY9.out 1 _ rfl).1
                  have k2 := (HY9.out 2 _ rfl).1
                  have k3 := (HY9.out 3 _ rfl).1
                  have k4 := (HY9.out 4 _ rfl).1
                  have k5 := (HY9.out 5 _ rfl).1
                  have k6 := (HY9.out 6 _ rfl).1
                  have k7 := (HY9.out 7 _ rfl).1
                  have k8 := (HY9.out 8 _ rfl).1
                  have k9 := (HY9.out 9 _ rfl).1
                  go_wp2_with fail
                  have hcall := hih.out (tt) a8 b8 q8 n8 c8 m8 e8 d8 p8 pl8 pc8 r8 rl8 rc8 (dfsF l f (flushS s j) aj) v7 w9 hok.1 hok.2 HMX.out (by rw [HL.out]; exact HE9.out) HM9.out (by rw [HL.out]; exact HT9.out) HZ9.out.1
                  rw [HL.out] at hcall
                  refine hcall.mono ?_
                  clear hcall cf k0 k1 k2 k3 k4 k5 k6 k7 k8 k9
                  rintro e w10 ⟨rfl, v10, M10, A10⟩
                  have HM10 := Lib.hid M10
                  have HE10 := Lib.hid (env_adv HE9.out HM9.out A10)
                  have HS10 := Lib.hid (stQ_adv A10 HS9.out)
                  have HX10 := Lib.hid (cells_adv A10 HZ9.out.2 HQ9.out HX9.out)
                  have HA10 := Lib.hid (adv_trans HA9.out A10)
                  have HZ10 := Lib.hid (show B ≤ w10.heap.size ∧ w.heap.size < w10.heap.size by have := A10.below.size; have := HZ9.out; omega)
                  have HQ10 := Lib.hid (adv_q A10 HZ9.out.2 HQ9.out)
                  clear M10 A10 hok
                  have HAT2 := HAT.out
                  rw [HMV.out, if_pos trivial, List.foldl_cons, List.foldl_nil] at HAT2
                  rw [if_pos hfe] at HAT2
                  rw [List.foldl_cons, List.foldl_nil] at HAT2
                  have HMF3 := HM10.out
                  rw [← HAT2] at HMF3
                  have HMG := Lib.hid HMF3
                  clear HAT2 HMF3
                  go_wp2
                  go_roundw
                  case rel => exact ⟨j + 1, v10, by omega, by go_num, HMG.out, HE10.out, HS10.out, HX10.out, HA10.out, HZ10.out, HQ10.out⟩
                  case measure => simp [intOf]; omega

            · have hfb : (flE s j == 0) = false := by simpa using hfe
              have HMX := HMJ
              rw [hfb]
              clear hfb
              cases hlj : s.l j with
              | nil =>
                have k0 := HX6.out 0 _ rfl
                have k1 := HX6.out 1 _ rfl
                have k2 := HX6.out 2 _ rfl
                have k3 := HX6.out 3 _ rfl
                have k4 := HX6.out 4 _ rfl
                have k5 := HX6.out 5 _ rfl
                have k6 := HX6.out 6 _ rfl
                have k7 := HX6.out 7 _ rfl
                have k8 := HX6.out 8 _ rfl
                have k9 := HX6.out 9 _ rfl
                go_wp2_with fail
                have hcn := moved_none a a' q n c n' c' l d p pl pc r rl rc s j w6 (Qx bm ga v4) HS6.out (by omega) hlj
                with_reducible refine hcn.mono ?_
                clear hcn
                rintro e w8 ⟨a8, b8, q8, n8, c8, m8, e8, l8, d8, p8, pl8, pc8, r8, rl8, rc8, rfl, T8, hb8⟩
                have HT8 := Lib.hid (stQ_mono (fun b hb => hb.elim id (fun h => qx_new HM6.out h)) T8)
                have HM8 := Lib.hid (mut_B hb8 HM6.out)
                have HE8 := Lib.hid (env_B hb8 HE6.out)
                have HS8 := Lib.hid (stQ_B hb8 HS6.out)
                have HX8 := Lib.hid (cells_B hb8 HX6.out)
                have HA8 := Lib.hid (adv_trans HA6.out (adv_B hb8 HZ6.out.1))
                have HZ8 := Lib.hid (show B ≤ w8.heap.size ∧ w.heap.size < w8.heap.size by have := hb8.size; have := HZ6.out; omega)
                have HQ8 := HQ6
                obtain ⟨w9, hw9⟩ : ∃ x, x = w8.alloc (Obj.cells #[.slice a8 n8 c8, .slice b8 m8 e8, .int .i64 noSt.D, .slice q8 l8 d8, .slice (p8 0) (pl8 0) (pc8 0), .slice (p8 1) (pl8 1) (pc8 1), .slice (p8 2) (pl8 2) (pc8 2), .slice (r8 0) (rl8 0) (rc8 0), .slice (r8 1) (rl8 1) (rc8 1), .slice (r8 2) (rl8 2) (rc8 2)] 50) := ⟨_, rfl⟩
                have hb9 : Below w8.heap.size w8 w9 := by rw [hw9]; go_grown
                have HY9 := Lib.hid (show VarN w9 w8.heap.size [.slice a8 n8 c8, .slice b8 m8 e8, .int .i64 noSt.D, .slice q8 l8 d8, .slice (p8 0) (pl8 0) (pc8 0), .slice (p8 1) (pl8 1) (pc8 1), .slice (p8 2) (pl8 2) (pc8 2), .slice (r8 0) (rl8 0) (rc8 0), .slice (r8 1) (rl8 1) (rc8 1), .slice (r8 2) (rl8 2) (rc8 2)] by rw [hw9]; exact varN_new [.slice a8 n8 c8, .slice b8 m8 e8, .int .i64 noSt.D, .slice q8 l8 d8, .slice (p8 0) (pl8 0) (pc8 0), .slice (p8 1) (pl8 1) (pc8 1), .slice (p8 2) (pl8 2) (pc8 2), .slice (r8 0) (rl8 0) (rc8 0), .slice (r8 1) (rl8 1) (rc8 1), .slice (r8 2) (rl8 2) (rc8 2)] _ rfl)
                have HT9 := Lib.hid (stQ_B hb9 HT8.out)
                have HM9 := Lib.hid (mut_B hb9 HM8.out)
                have HE9 := Lib.hid (env_B hb9 HE8.out)
                have HS9 := Lib.hid (stQ_B hb9 HS8.out)
                have HX9 := Lib.hid (cells_B hb9 HX8.out)
                have HA9 := Lib.hid (adv_trans HA8.out (adv_B hb9 HZ8.out.1))
                have HZ9 := Lib.hid (show B ≤ w9.heap.size ∧ w.heap.size < w9.heap.size by have := hb9.size; have := HZ8.out; omega)
                have HQ9 := HQ8
                have HW9 := Lib.hid hw9
                clear hw9 hb8 hb9 T8 k0 k1 k2 k3 k4 k5 k6 k7 k8 k9
                go_upto_region 13 with fail
                rw [← HW9.out]
                have HAT2 := HAT.out
                rw [mvs_none hlj, List.foldl_nil] at HAT2
                rw [if_neg hfe] at HAT2
                rw [List.foldl_nil] at HAT2
                have HMF3 := HM9.out
                rw [← HAT2] at HMF3
                have HMG := Lib.hid HMF3
                clear HAT2 HMF3
                go_wp2
                go_roundw
                case rel => exact ⟨j + 1, v4, by omega, by go_num, HMG.out, HE9.out, HS9.out, HX9.out, HA9.out, HZ9.out, HQ9.out⟩
                case measure => simp [intOf]; omega
              | cons mv rest =>
                have hrl : rl j ≤ 1000 := by
                  have h1 := (HS6.out.2.2.2.2 j (by omega)).2.1
                  have h2 := (ok_noted hm HK.out j).2
                  omega
                have hfit : fitsB W mv = true := by
                  obtain ⟨ms, e, _⟩ := (HK.out.th j (by rw [HL.out]; exact hlt)).made
                  exact may_fit hm (by rw [HL.out]; exact hlt) (by rw [e, hlj]; simp)
                obtain ⟨g1, g2, -, hkd⟩ := fitsB_parts hfit
                have hwf : (Lit.int .i64 mv.2.1).wf = true := wf_small g1 (by have := HLN.out; omega)
                obtain ⟨tt, htt⟩ : ∃ tt, (moveS (leftS s j rest) j mv).1 = tt := ⟨_, rfl⟩
                have hms := moved_some a a' q n c n' c' l d p pl pc r rl rc s j w6 (Qx bm ga v4) HS6.out (by omega) hlt hrl mv rest hlj hwf hkd
                have HMV := Lib.hid (mvs_some hlj)
                rw [htt] at hms HMV
                clear hrl hfit g1 g2 hwf hkd
                cases hok2 : (moveS (leftS s j rest) j mv).2 with
                | false =>
                  rw [hok2] at hms HMV
                  clear hok2 hlj htt
                  have k0 := HX6.out 0 _ rfl
                  have k1 := HX6.out 1 _ rfl
                  have k2 := HX6.out 2 _ rfl
                  have k3 := HX6.out 3 _ rfl
                  have k4 := HX6.out 4 _ rfl
                  have k5 := HX6.out 5 _ rfl
                  have k6 := HX6.out 6 _ rfl
                  have k7 := HX6.out 7 _ rfl
                  have k8 := HX6.out 8 _ rfl
                  have k9 := HX6.out 9 _ rfl
                  go_wp2_with fail
                  have hcn := hms
                  with_reducible refine hcn.mono ?_
                  clear hcn
                  rintro e w8 ⟨a8, b8, q8, n8, c8, m8, e8, l8, d8, p8, pl8, pc8, r8, rl8, rc8, rfl, T8, hb8⟩
                  have HT8 := Lib.hid (stQ_mono (fun b hb => hb.elim id (fun h => qx_new HM6.out h)) T8)
                  have HM8 := Lib.hid (mut_B hb8 HM6.out)
                  have HE8 := Lib.hid (env_B hb8 HE6.out)
                  have HS8 := Lib.hid (stQ_B hb8 HS6.out)
                  have HX8 := Lib.hid (cells_B hb8 HX6.out)
                  have HA8 := Lib.hid (adv_trans HA6.out (adv_B hb8 HZ6.out.1))
                  have HZ8 := Lib.hid (show B ≤ w8.heap.size ∧ w.heap.size < w8.heap.size by have := hb8.size; have := HZ6.out; omega)
                  have HQ8 := HQ6
                  obtain ⟨w9, hw9⟩ : ∃ x, x = w8.alloc (Obj.cells #[.slice a8 n8 c8, .slice b8 m8 e8, .int .i64 tt.D, .slice q8 l8 d8, .slice (p8 0) (pl8 0) (pc8 0), .slice (p8 1) (pl8 1) (pc8 1), .slice (p8 2) (pl8 2) (pc8 2), .slice (r8 0) (rl8 0) (rc8 0), .slice (r8 1) (rl8 1) (rc8 1), .slice (r8 2) (rl8 2) (rc8 2)] 50) := ⟨_, rfl⟩
                  have hb9 : Below w8.heap.size w8 w9 := by rw [hw9]; go_grown
                  have HY9 := Lib.hid (show VarN w9 w8.heap.size [.slice a8 n8 c8, .slice b8 m8 e8, .int .i64 tt.D, .slice q8 l8 d8, .slice (p8 0) (pl8 0) (pc8 0), .slice (p8 1) (pl8 1) (pc8 1), .slice (p8 2) (pl8 2) (pc8 2), .slice (r8 0) (rl8 0) (rc8 0), .slice (r8 1) (rl8 1) (rc8 1), .slice (r8 2) (rl8 2) (rc8 2)] by rw [hw9]; exact varN_new [.slice a8 n8 c8, .slice b8 m8 e8, .int .i64 tt.D, .slice q8 l8 d8, .slice (p8 0) (pl8 0) (pc8 0), .slice (p8 1) (pl8 1) (pc8 1), .slice (p8 2) (pl8 2) (pc8 2), .slice (r8 0) (rl8 0) (rc8 0), .slice (r8 1) (rl8 1) (rc8 1), .slice (r8 2) (rl8 2) (rc8 2)] _ rfl)
                  have HT9 := Lib.hid (stQ_B hb9 HT8.out)
                  have HM9 := Lib.hid (mut_B hb9 HM8.out)
                  have HE9 := Lib.hid (env_B hb9 HE8.out)
                  have HS9 := Lib.hid (stQ_B hb9 HS8.out)
                  have HX9 := Lib.hid (cells_B hb9 HX8.out)
                  have HA9 := Lib.hid (adv_trans HA8.out (adv_B hb9 HZ8.out.1))
                  have HZ9 := Lib.hid (show B ≤ w9.heap.size ∧ w.heap.size < w9.heap.size by have := hb9.size; have := HZ8.out; omega)
                  have HQ9 := HQ8
                  have HW9 := Lib.hid hw9
                  clear hw9 hb8 hb9 T8 k0 k1 k2 k3 k4 k5 k6 k7 k8 k9
                  go_upto_region 13 with fail
                  rw [← HW9.out]
                  have HAT2 := HAT.out
                  rw [HMV.out, if_neg (show ¬ (false = true) by decide), List.foldl_nil] at HAT2
                  rw [if_neg hfe] at HAT2
                  rw [List.foldl_nil] at HAT2
                  have HMF3 := HM9.out
                  rw [← HAT2] at HMF3
                  have HMG := Lib.hid HMF3
                  clear HAT2 HMF3
                  go_wp2
                  go_roundw
                  case rel => exact ⟨j + 1, v4, by omega, by go_num, HMG.out, HE9.out, HS9.out, HX9.out, HA9.out, HZ9.out, HQ9.out⟩
                  case measure => simp [intOf]; omega
                | true =>
                  rw [hok2] at hms HMV
                  clear hok2 hlj htt
                  have k0 := HX6.out 0 _ rfl
                  have k1 := HX6.out 1 _ rfl
                  have k2 := HX6.out 2 _ rfl
                  have k3 := HX6.out 3 _ rfl
                  have k4 := HX6.out 4 _ rfl
                  have k5 := HX6.out 5 _ rfl
                  have k6 := HX6.out 6 _ rfl
                  have k7 := HX6.out 7 _ rfl
                  have k8 := HX6.out 8 _ rfl
                  have k9 := HX6.out 9 _ rfl
                  go_wp2_with fail
                  have hcn := hms
                  with_reducible refine hcn.mono ?_
                  clear hcn
                  rintro e w8 ⟨a8, b8, q8, n8, c8, m8, e8, l8, d8, p8, pl8, pc8, r8, rl8, rc8, rfl, T8, hb8⟩
                  have HT8 := Lib.hid (stQ_mono (fun b hb => hb.elim id (fun h => qx_new HM6.out h)) T8)
                  have HM8 := Lib.hid (mut_B hb8 HM6.out)
                  have HE8 := Lib.hid (env_B hb8 HE6.out)
                  have HS8 := Lib.hid (stQ_B hb8 HS6.out)
                  have HX8 := Lib.hid (cells_B hb8 HX6.out)
                  have HA8 := Lib.hid (adv_trans HA6.out (adv_B hb8 HZ6.out.1))
                  have HZ8 := Lib.hid (show B ≤ w8.heap.size ∧ w.heap.size < w8.heap.size by have := hb8.size; have := HZ6.out; omega)
                  have HQ8 := HQ6
                  obtain ⟨w9, hw9⟩ : ∃ x, x = w8.alloc (Obj.cells #[.slice a8 n8 c8, .slice b8 m8 e8, .int .i64 tt.D, .slice q8 l8 d8, .slice (p8 0) (pl8 0) (pc8 0), .slice (p8 1) (pl8 1) (pc8 1), .slice (p8 2) (pl8 2) (pc8 2), .slice (r8 0) (rl8 0) (rc8 0), .slice (r8 1) (rl8 1) (rc8 1), .slice (r8 2) (rl8 2) (rc8 2)] 50) := ⟨_, rfl⟩
                  have hb9 : Below w8.heap.size w8 w9 := by rw [hw9]; go_grown
                  have HY9 := Lib.hid (show VarN w9 w8.heap.size [.slice a8 n8 c8, .slice b8 m8 e8, .int .i64 tt.D, .slice q8 l8 d8, .slice (p8 0) (pl8 0) (pc8 0), .slice (p8 1) (pl8 1) (pc8 1), .slice (p8 2) (pl8 2) (pc8 2), .slice (r8 0) (rl8 0) (rc8 0), .slice (r8 1) (rl8 1) (rc8 1), .slice (r8 2) (rl8 2) (rc8 2)] by rw [hw9]; exact varN_new [.slice a8 n8 c8, .slice b8 m8 e8, .int .i64 tt.D, .slice q8 l8 d8, .slice (p8 0) (pl8 0) (pc8 0), .slice (p8 1) (pl8 1) (pc8 1), .slice (p8 2) (pl8 2) (pc8 2), .slice (r8 0) (rl8 0) (rc8 0), .slice (r8 1) (rl8 1) (rc8 1), .slice (r8 2) (rl8 2) (rc8 2)] _ rfl)
                  have HT9 := Lib.hid (stQ_B hb9 HT8.out)
                  have HM9 := Lib.hid (mut_B hb9 HM8.out)
                  have HE9 := Lib.hid (env_B hb9 HE8.out)
                  have HS9 := Lib.hid (stQ_B hb9 HS8.out)
                  have HX9 := Lib.hid (cells_B hb9 HX8.out)
                  have HA9 := Lib.hid (adv_trans HA8.out (adv_B hb9 HZ8.out.1))
                  have HZ9 := Lib.hid (show B ≤ w9.heap.size ∧ w.heap.size < w9.heap.size by have := hb9.size; have := HZ8.out; omega)
                  have HQ9 := HQ8
                  have HW9 := Lib.hid hw9
                  clear hw9 hb8 hb9 T8 k0 k1 k2 k3 k4 k5 k6 k7 k8 k9
                  go_upto_region 13 with fail
                  rw [← HW9.out]
                  have hok := HSJ.out tt (List.mem_append_right _ (by rw [HMV.out]; simp))
                  have hl2 : l = l8 := by have := HT8.out.2.2.1.1; rw [hok.1.bl, HL.out] at this; exact this
                  subst hl2
                  have cf := HE9.out.cf
                  have k0 := (HY9.out 0 _ rfl).1
                  have k1 := (HY9.out 1 _ rfl).1
                  have k2 := (HY9.out 2 _ rfl).1
                  have k3 := (HY9.out 3 _ rfl).1
                  have k4 := (HY9.out 4 _ rfl).1
                  have k5 := (HY9.out 5 _ rfl).1
                  have k6 := (HY9.out 6 _ rfl).1
                  have k7 := (HY9.out 7 _ rfl).1
                  have k8 := (HY9.out 8 _ rfl).1
                  have k9 := (HY9.out 9 _ rfl).1
                  go_wp2_with fail
                  have hcall := hih.out (tt) a8 b8 q8 n8 c8 m8 e8 d8 p8 pl8 pc8 r8 rl8 rc8 (aj) v4 w9 hok.1 hok.2 HMX.out (by rw [HL.out]; exact HE9.out) HM9.out (by rw [HL.out]; exact HT9.out) HZ9.out.1
                  rw [HL.out] at hcall
                  refine hcall.mono ?_
                  clear hcall cf k0 k1 k2 k3 k4 k5 k6 k7 k8 k9
                  rintro e w10 ⟨rfl, v10, M10, A10⟩
                  have HM10 := Lib.hid M10
                  have HE10 := Lib.hid (env_adv HE9.out HM9.out A10)
                  have HS10 := Lib.hid (stQ_adv A10 HS9.out)
                  have HX10 := Lib.hid (cells_adv A10 HZ9.out.2 HQ9.out HX9.out)
                  have HA10 := Lib.hid (adv_trans HA9.out A10)
                  have HZ10 := Lib.hid (show B ≤ w10.heap.size ∧ w.heap.size < w10.heap.size by have := A10.below.size; have := HZ9.out; omega)
                  have HQ10 := Lib.hid (adv_q A10 HZ9.out.2 HQ9.out)
                  clear M10 A10 hok
                  have HAT2 := HAT.out
                  rw [HMV.out, if_pos trivial, List.foldl_cons, List.foldl_nil] at HAT2
                  rw [if_neg hfe] at HAT2
                  rw [List.foldl_nil] at HAT2
                  have HMF3 := HM10.out
                  rw [← HAT2] at HMF3
                  have HMG := Lib.hid HMF3
                  clear HAT2 HMF3
                  go_wp2
                  go_roundw
                  case rel => exact ⟨j + 1, v10, by omega, by go_num, HMG.out, HE10.out, HS10.out, HX10.out, HA10.out, HZ10.out, HQ10.out⟩
                  case measure => simp [intOf]; omega

          · obtain rfl : j = l := by omega
            go_wp2
            go_end0
            rw [HD.out]
            exact ⟨rfl, v4, HM4.out, HA4.out⟩
end Go.Proofs.YtiebaeaomgpicaaGreat
