/- Contracts of package respiteref04: Outcomes. -/
import Derived.Test.YtiebaeaomgpicaaGreatRT
import Derived.Laws.AppendOwnNone
namespace Go.Proofs.YtiebaeaomgpicaaGreat
open Go.ChangeShapes Go.WideShapes Go.ChangeAt Go.RowKit
open Gen

set_option maxRecDepth 100000 in
set_option maxHeartbeats 16000000 in
theorem refOutcomes_any (W D : Int) (ql : Option Addr) (dl : Nat) (ts : List (List Mv)) (w : World) (V : Vs (repSlice repInt3) Any w ql ts.length ts) (hm : mayL W D ts = true) :
    Calls Tryz.prog 10 #[.agg #[.int .i64 W, .int .i64 D, .slice ql ts.length dl]] w (RowsPost (srtL (rowsL W D ts)) w) := by
  obtain ⟨j0, ki, kz0, kz1, kz2⟩ := info_parts infoI
  have HJ := Lib.hid (And.intro ki (And.intro kz0 (And.intro kz1 kz2)))
  have hWD := (mayL_parts hm).1
  have hL3 := (mayL_parts hm).2.1
  have hF := fun G => refFirst_any W D ql dl ts G ⟨hWD.1, hWD.2.1⟩ hL3.2
  obtain ⟨L, hL⟩ : ∃ L, ts.length = L := ⟨_, rfl⟩
  rw [hL] at V hL3 hF ⊢
  have HM := Lib.hid hm
  have HLL := Lib.hid hL
  obtain ⟨G, hG⟩ : ∃ X, X = w.alloc (Obj.cells #[.int .i64 W, .int .i64 D, .slice ql L dl] 25) := ⟨_, rfl⟩
  have hbG : Below w.heap.size w G := by rw [hG]; go_grown
  have X : VarN G w.heap.size [.int .i64 W, .int .i64 D, .slice ql L dl] := by rw [hG]; exact varN_new [.int .i64 W, .int .i64 D, .slice ql L dl] _ rfl
  have HVG := Lib.hid (vs_und (vs_B hbG V))
  have HXG := Lib.hid X
  have HBG := Lib.hid hbG
  have HG := Lib.hid hG
  clear hG hbG X V hm hL ki kz0 kz1 kz2 hWD
  go_enter Tryz.func10, Tryz.ntmps10
  go_upto_region 1 with fail
  rw [← HG.out]
  obtain ⟨G1, hG1⟩ : ∃ X, X = G.alloc (Obj.cells #[] 23) := ⟨_, rfl⟩
  have hb1 : Below G.heap.size G G1 := by rw [hG1]; go_grown
  have HB1 := Lib.hid hb1
  have HF := Lib.hid (hF G1)
  have HGS := Lib.hid (show G1.heap.size = G.heap.size + 1 by rw [hG1]; simp)
  have HG1 := Lib.hid hG1
  obtain ⟨x0, -⟩ := varN_B hb1 HXG.out 0 _ rfl
  obtain ⟨x1, -⟩ := varN_B hb1 HXG.out 1 _ rfl
  obtain ⟨x2, -⟩ := varN_B hb1 HXG.out 2 _ rfl
  clear hG1 hb1 hF
  go_upto_region 2 with fail
  rw [← HG1.out]
  go_wp2_with fail
  with_reducible refine HF.out.mono ?_
  rintro e w1 ⟨a, n, c, a', n', c', q, l, d, p, np, pc, r, nr, rc, rfl, R0, hb2⟩
  obtain ⟨DD, hDD⟩ : ∃ d, (beginS W D ts).D = d := ⟨_, rfl⟩
  rw [hDD]
  obtain ⟨W1, hW1⟩ : ∃ X, X = w1.alloc (Obj.cells #[.slice a n c, .slice a' n' c', .int .i64 DD, .slice q l d, .slice p np pc, .slice r nr rc] 64) := ⟨_, rfl⟩
  have hbW1 : Below G.heap.size G W1 := by rw [hW1]; exact (below_from HB1.out hb2).alloc (below_from HB1.out hb2).size _
  have R1 := rst_keep (kept_A w1 (Obj.cells #[.slice a n c, .slice a' n' c', .int .i64 DD, .slice q l d, .slice p np pc, .slice r nr rc] 64)) (rst_und R0)
  rw [← hW1] at R1
  have HA0 := Lib.hid (show AllR ts G (beginS W D ts :: []) (.slice (some ⟨w1.heap.size, 0, none⟩) 1 1) W1 from
    ⟨[.slice a n c, .slice a' n' c', .int .i64 DD, .slice q l d, .slice p np pc, .slice r nr rc], (by rw [hW1]; exact World.ownsRow_lit w1 #[.slice a n c, .slice a' n' c', .int .i64 DD, .slice q l d, .slice p np pc, .slice r nr rc] 1 (below_from HB1.out hb2).size (by decide) rfl), ⟨[.slice a n c, .slice a' n' c', .int .i64 DD, .slice q l d, .slice p np pc, .slice r nr rc], [], rfl, ⟨a, n, c, a', n', c', q, l, d, p, np, pc, r, nr, rc, by rw [hDD], rst_mono (fun b h => ⟨trivial, fun e => by injection e with e; have := h.2; have e : w1.heap.size = b := e; omega⟩) R1⟩, rfl⟩, hbW1⟩)
  have HW1 := Lib.hid hW1
  have hzs : G.heap.size + 1 ≤ w1.heap.size := by rw [← HGS.out]; exact hb2.size
  clear R0 hb2 hDD hbW1 R1 hW1 x0 x1 x2
  go_upto_region 3 with fail
  rw [← HW1.out]
  go_wp2_with fail
  go_loopw [3, 4, 5] (fun vo va i wr => ∃ (k N oc vc on : Nat) (all : List St) (out : List (List Int)) (oq va0 : Option Addr), all.length = N ∧ out.length = on ∧ i = .int .i64 k ∧ vo = .slice oq on oc ∧ va = .slice va0 N vc ∧ Hid (Bfs W D ts k all out) ∧ Hid (AllR ts G all (.slice va0 N vc) wr) ∧ Hid (Vs (repSlice repInt) (fun b => Any b ∧ (Value.slice va0 N vc).ownBlock ≠ some b) wr oq on out) ∧ Hid (on ≤ oc ∧ oc ≤ 9223372036854775807 ∧ (oq = none → oc = 0))) (fun _ _ i _ => 13841287202 - (intOf i).toNat)
  case atStart => exact ⟨0, 1, 0, 1, 0, beginS W D ts :: [], [], some ⟨G.heap.size, 0, none⟩, some ⟨w1.heap.size, 0, none⟩, rfl, rfl, rfl, rfl, rfl, bfs_begin, HA0.out, (vs_empty : Vs _ _ _ _ _ _), ⟨Nat.le_refl _, by omega, fun e => by cases e⟩⟩
  case round =>
    obtain ⟨k0, N, oc, vc, on, all, out, oq, va0, hN, hon, rfl, rfl, rfl, HBF, HAL, HOU, HOC⟩ := hrel
    obtain ⟨wo, hwo⟩ : ∃ x, x = wr := ⟨_, rfl⟩
    subst hwo
    have hfewN := reach_few HM.out HBF.out.nd HBF.out.rch
    rw [hN] at hfewN
    have hkN := HBF.out.le
    rw [hN] at hkN
    have HNN := Lib.hid hN
    have HON := Lib.hid hon
    clear hN hon
    by_cases hlt : k0 < N
    · obtain ⟨s, hs⟩ : ∃ s, all[k0]? = some s := ⟨all[k0]'(by rw [HNN.out]; exact hlt), by simp [show k0 < all.length by rw [HNN.out]; exact hlt]⟩
      have hat := all_at HAL.out hs
      rw [HNN.out] at hat
      obtain ⟨g, o, cap, a, n, c, a', n', c', q, l, d, p, np, pc, r, nr, rc, ev, R, hc⟩ := hat
      injection ev with ev1 ev2 ev3
      subst ev1 ev3
      have HRS := Lib.hid (HBF.out.rch s (List.mem_of_getElem? hs))
      have HK := Lib.hid (reach_ok HM.out HRS.out)
      have HSI := Lib.hid hs
      obtain ⟨DD, hDD⟩ : ∃ d, s.D = d := ⟨_, rfl⟩
      rw [hDD] at hc
      have HDD := Lib.hid hDD
      have HRR := Lib.hid R
      have g0 := hc 0 _ rfl
      have g1 := hc 1 _ rfl
      have g2 := hc 2 _ rfl
      have g3 := hc 3 _ rfl
      have g4 := hc 4 _ rfl
      have g5 := hc 5 _ rfl
      rw [Nat.add_zero] at g0
      obtain ⟨U, hU⟩ : ∃ X, X = wo.alloc (Obj.cells #[.slice a n c, .slice a' n' c', .int .i64 DD, .slice q l d, .slice p np pc, .slice r nr rc] 64) := ⟨_, rfl⟩
      have hbU : Below wo.heap.size wo U := by rw [hU]; go_grown
      have HAU := Lib.hid (all_B HAL.out hbU)
      have HSU := Lib.hid (show SideS ts s [.slice a n c, .slice a' n' c', .int .i64 DD, .slice q l d, .slice p np pc, .slice r nr rc] wo.heap.size oq out a a' q p r n n' l np nr (.slice (some ⟨g, o, none⟩) N vc) U from ⟨rst_keep (kept_B hbU) R, (by rw [hU]; exact fun i x hi => (varN_new [.slice a n c, .slice a' n' c', .int .i64 DD, .slice q l d, .slice p np pc, .slice r nr rc] _ rfl i x hi).1), ⟨by rw [hU]; simp, fun e => by have := (all_own HAL.out e).2; omega⟩, (by rw [HON.out]; exact vs_keep (kept_B hbU) HOU.out)⟩)
      have HU := Lib.hid hU
      have HHL := Lib.hid (show l = L by have h := R.bs.1; rw [HK.out.bl, HLL.out] at h; exact h.symm)
      have i1 : (0 : Int) ≤ k0 := by omega
      have i2 : (k0 : Int) < N := by omega
      have hz2 := varN_low (all_below HAU.out) (varN_lt HXG.out (by simp)) HXG.out
      have HZ2 := Lib.hid hz2
      clear hs R hc hDD hU hbU hz2
      go_upto_region 7 with fail
      rw [← HU.out]
      clear g0 g1 g2 g3 g4 g5
      obtain ⟨x2, -⟩ := HZ2.out 2 _ rfl
      go_wp2_with fail
      go_loopw [4, 7, 34] (fun va en i wx => ∃ (k N1 vc1 : Nat) (va1 : Option Addr) (ed : Bool) (A1 : List St), k ≤ L ∧ A1.length = N1 ∧ i = .int .i64 k ∧ va = .slice va1 N1 vc1 ∧ en = .bool ed ∧ Hid (ed = doneTo s k) ∧ Hid (A1 = (someS s k).foldl (addS ts) all) ∧ Hid (AllR ts G A1 (.slice va1 N1 vc1) wx) ∧ Hid (SideS ts s [.slice a n c, .slice a' n' c', .int .i64 DD, .slice q l d, .slice p np pc, .slice r nr rc] wo.heap.size oq out a a' q p r n n' l np nr (.slice va1 N1 vc1) wx)) (fun _ _ i _ => L - (intOf i).toNat)
      case atStart => exact ⟨0, N, vc, some ⟨g, o, none⟩, true, all, Nat.zero_le _, HNN.out, rfl, rfl, rfl, (by show true = doneTo s 0; rfl), (by show all = _; rfl), HAU.out, HSU.out⟩
      case round =>
        obtain ⟨k, N1, vc1, va1, ed, A1, hk, hl1, rfl, rfl, rfl, HED, HA0, HAX, HSX⟩ := hrel
        obtain ⟨wx, hwx⟩ : ∃ x, x = wr := ⟨_, rfl⟩
        subst hwx
        have HL1 := Lib.hid hl1
        have hpo := part_ok HM.out HBF.out HRS.out (someS s k) (some_next (by rw [HLL.out]; exact hk))
        rw [← HA0.out] at hpo
        have HRA := Lib.hid hpo.2.1
        have HFW := Lib.hid (show N1 ≤ 13841287201 by rw [← hl1]; exact hpo.2.2)
        clear hl1 hpo
        by_cases hlt2 : k < L
        · obtain ⟨bb, bo, bq, bc, rfl, b1, -, -⟩ := bl_at (HSX.out.st.bs.bl) (show k < l by rw [HHL.out]; exact hlt2)
          obtain ⟨bn, hbn⟩ : ∃ bn, (s.bs.getD k []).length = bn := ⟨_, rfl⟩
          rw [hbn] at b1
          have HBN := Lib.hid hbn
          have z3 := HSX.out.cl 3 _ rfl
          have i3 : (k : Int) < l := by rw [HHL.out]; omega
          have i4 : (0 : Int) ≤ k := by omega
          have i5 : (k : Int) < L := by omega
          clear hbn
          by_cases hb0 : 0 < bn
          · have j1 : (0 : Int) < bn := by omega
            have HDN := Lib.hid (show doneTo s (k + 1) = (false && decide ((s.l k).length = 0)) by rw [doneTo_succ, doneB, HBN.out]; simp; omega)
            obtain ⟨p0, r0, hpr⟩ : ∃ p0 r0, s.bs.getD k [] = p0 :: r0 := by
              cases h : s.bs.getD k [] with
              | nil => rw [← HBN.out, h] at hb0; simp at hb0
              | cons p0 r0 => exact ⟨p0, r0, rfl⟩
            have hfl := (flE_some HM.out HK.out (by rw [HLL.out]; exact hlt2) hpr).1
            have HF1 := Lib.hid (show fl1 s k = [flushS s k] from if_pos hfl)
            have hin : flushS s k ∈ nextS ts.length s := steps_next (j := k) (by rw [HLL.out]; exact hlt2) (by rw [steps_two, HF1.out]; simp)
            have hrt := next_reach HM.out HRS.out hin
            obtain ⟨W1, hW1⟩ : ∃ X, X = wx.alloc (Obj.cells #[.slice a n c, .slice a' n' c', .int .i64 DD, .slice (some ⟨bb, bo, none⟩) l d, .slice p np pc, .slice r nr rc] 64) := ⟨_, rfl⟩
            have hbW1 : Below wx.heap.size wx W1 := by rw [hW1]; go_grown
            have hs1 : W1.heap.size = wx.heap.size + 1 := by rw [hW1]; simp
            have R1 : RSt ts (fun b => (Any b ∧ (Value.slice va1 N1 vc1).ownBlock ≠ some b) ∧ b ≠ wx.heap.size) W1 a a' (some ⟨bb, bo, none⟩) p r n n' l np nr s := rst_mono (fun b h => ⟨h.1, by have := h.2; omega⟩) (rst_keep (kept_B hbW1) (rst_und HSX.out.st))
            have hq0 : ∀ b, W1.heap.size ≤ b → (Any b ∧ (Value.slice va1 N1 vc1).ownBlock ≠ some b) ∧ b ≠ wx.heap.size := fun b hb => ⟨⟨trivial, fun e => by have := (all_own HAX.out e).2; omega⟩, by omega⟩
            have h0 : Calls Tryz.prog 25 _ W1 (RefTQ _ (flushS s k).ws (flushS s k).ts (flushS s k).D (flushS s k).bs (flE s k) W1) := refFlushTQ_any (fun b => (Any b ∧ (Value.slice va1 N1 vc1).ownBlock ≠ some b) ∧ b ≠ wx.heap.size) a a' (some ⟨bb, bo, none⟩) n c n' c' l d s.ws s.ts s.D s.bs k W1 R1.ws R1.tg R1.bs hq0 (ok_has HM.out HK.out (by rw [HLL.out]; exact hlt2))
            rw [hfl, HDD.out] at h0
            have hFl : atS ts (flushS s k) = atS ts s := rfl
            have hFn : ntS ts.length (flushS s k) = ntS ts.length s := rfl
            obtain ⟨F, hF⟩ : ∃ F, flushS s k = F := ⟨_, rfl⟩
            rw [hF] at h0 hFl hFn hrt HF1
            obtain ⟨FD, hFD⟩ : ∃ d, F.D = d := ⟨_, rfl⟩
            rw [hFD] at h0
            have HH0 := Lib.hid h0
            have HR1 := Lib.hid R1
            have HFL := Lib.hid hFl
            have HFN := Lib.hid hFn
            have HFD := Lib.hid hFD
            have HRT := Lib.hid hrt
            have HBW1 := Lib.hid hbW1
            have HS1 := Lib.hid hs1
            have HN0 := Lib.hid (show VarN W1 wx.heap.size [.slice a n c, .slice a' n' c', .int .i64 DD, .slice (some ⟨bb, bo, none⟩) l d, .slice p np pc, .slice r nr rc] by rw [hW1]; exact varN_new [.slice a n c, .slice a' n' c', .int .i64 DD, .slice (some ⟨bb, bo, none⟩) l d, .slice p np pc, .slice r nr rc] _ rfl)
            have HW1 := Lib.hid hW1
            have z0 := HSX.out.cl 0 _ rfl
            have z1 := HSX.out.cl 1 _ rfl
            have z2 := HSX.out.cl 2 _ rfl
            have z3 := HSX.out.cl 3 _ rfl
            have z4 := HSX.out.cl 4 _ rfl
            have z5 := HSX.out.cl 5 _ rfl
            have v0 := kept_B (Q := Any) hbW1 _ _ _ trivial z0
            have v1 := kept_B (Q := Any) hbW1 _ _ _ trivial z1
            have v2 := kept_B (Q := Any) hbW1 _ _ _ trivial z2
            have v3 := kept_B (Q := Any) hbW1 _ _ _ trivial z3
            clear hpr hfl hin hrt hW1 hbW1 hs1 R1 hq0 h0 hFl hFn hF hFD
            go_upto_region 14 with fail
            rw [← HW1.out]
            clear z0 z1 z2 z3 z4 z5 b1
            go_wp2_with fail
            with_reducible refine HH0.out.mono ?_
            rintro e w3 ⟨a1, n1, c1, b1, m1, e1, q1, l1, d1, rfl, s1, s2, s3, hb3⟩
            obtain ⟨W3, hW3⟩ : ∃ X, X = w3.alloc (Obj.cells #[.slice a1 n1 c1, .slice b1 m1 e1, .int .i64 FD, .slice q1 l1 d1] 46) := ⟨_, rfl⟩
            have hb4 : Below W1.heap.size W1 W3 := by rw [hW3]; exact hb3.alloc hb3.size _
            have HN3 := Lib.hid (varN_B hb4 HN0.out)
            have HT := Lib.hid (show VarN W3 w3.heap.size [.slice a1 n1 c1, .slice b1 m1 e1, .int .i64 FD, .slice q1 l1 d1] by rw [hW3]; exact varN_new [.slice a1 n1 c1, .slice b1 m1 e1, .int .i64 FD, .slice q1 l1 d1] _ rfl)
            have HK3 := Lib.hid (show Gen.Kept Any w3 W3 by rw [hW3]; exact kept_A _ _)
            have HB4 := Lib.hid hb4
            have H1 := Lib.hid s1
            have H2 := Lib.hid s2
            have H3 := Lib.hid s3
            have HW3 := Lib.hid hW3
            clear hb3 hb4 s1 s2 s3 hW3 v0 v1 v2 v3
            go_upto_region 15 with fail
            rw [← HW3.out]
            obtain ⟨t0, -⟩ := HT.out 0 _ rfl
            obtain ⟨t1, -⟩ := HT.out 1 _ rfl
            obtain ⟨t2, -⟩ := HT.out 2 _ rfl
            obtain ⟨t3, -⟩ := HT.out 3 _ rfl
            obtain ⟨y0, fy0⟩ := HN3.out 0 _ rfl
            obtain ⟨y1, fy1⟩ := HN3.out 1 _ rfl
            obtain ⟨y2, fy2⟩ := HN3.out 2 _ rfl
            obtain ⟨y3, fy3⟩ := HN3.out 3 _ rfl
            obtain ⟨W4, hW4⟩ : ∃ X, X = setN W3 wx.heap.size 0 [.slice a1 n1 c1, .slice b1 m1 e1, .int .i64 FD, .slice q1 l1 d1] := ⟨_, rfl⟩
            have hK4 : Gen.Kept (fun b => b ≠ wx.heap.size) W3 W4 := by rw [hW4]; exact kept_setN (fun b h => h)
            have hb5 : Below wx.heap.size wx W4 := by rw [hW4]; exact below_setN (Nat.le_refl _) (below_from HBW1.out HB4.out)
            have HN4 := Lib.hid (show VarN W4 wx.heap.size [.slice a1 n1 c1, .slice b1 m1 e1, .int .i64 FD, .slice q1 l1 d1, .slice p np pc, .slice r nr rc] by rw [hW4]; exact varN_setN (xs := [.slice a1 n1 c1, .slice b1 m1 e1, .int .i64 FD, .slice q1 l1 d1]) 0 HN3.out (by simp))
            have hk34 : Gen.Kept (fun b => (Any b ∧ (Value.slice va1 N1 vc1).ownBlock ≠ some b) ∧ b ≠ wx.heap.size) w3 W4 := fun b o v hb hv => hK4 b o v hb.2 (HK3.out b o v trivial hv)
            have hk14 : Gen.Kept (fun b => (Any b ∧ (Value.slice va1 N1 vc1).ownBlock ≠ some b) ∧ b ≠ wx.heap.size) W1 W4 := fun b o v hb hv => hK4 b o v hb.2 (kept_B (Q := Any) HB4.out b o v trivial hv)
            have R4 : RSt ts (fun b => Any b ∧ (Value.slice va1 N1 vc1).ownBlock ≠ some b) W4 a1 b1 q1 p r n1 m1 l1 np nr F := rst_mono (fun b h => h.1) ⟨slP_keep hk34 H1.out, slP_keep hk34 H2.out, blP_keep hk34 H3.out, (by rw [HFL.out]; exact vs_keep hk14 HR1.out.at_), (by rw [HFN.out]; exact vs_keep hk14 HR1.out.nt)⟩
            have HA4 := Lib.hid (all_B HAX.out hb5)
            have HS4 := Lib.hid (side_B HSX.out hb5)
            have h1 := add_call (c := c1) (c' := e1) (d := d1) (pc := pc) (rc := rc) HM.out HA4.out R4 HRA.out HRT.out (by rw [HL1.out]; exact HFW.out)
            rw [HFD.out] at h1
            have HH1 := Lib.hid h1
            simp only [setN] at hW4
            have HW4 := Lib.hid hW4
            clear hW4 hK4 hb5 hk34 hk14 R4 h1
            go_upto_region 16 with fail
            rw [← HW4.out]
            clear t0 t1 t2 t3 y0 fy0 y1 fy1 y2 fy2 y3 fy3
            obtain ⟨y0, -⟩ := HN4.out 0 _ rfl
            obtain ⟨y1, -⟩ := HN4.out 1 _ rfl
            obtain ⟨y2, -⟩ := HN4.out 2 _ rfl
            obtain ⟨y3, -⟩ := HN4.out 3 _ rfl
            obtain ⟨y4, -⟩ := HN4.out 4 _ rfl
            obtain ⟨y5, -⟩ := HN4.out 5 _ rfl
            go_wp2_with fail
            with_reducible refine HH1.out.mono ?_
            rintro e w5 ⟨v5, rfl, A5, M5⟩
            obtain ⟨va5, vc5, rfl⟩ := all_shape A5
            obtain ⟨N5, hN5⟩ : ∃ N, (addS ts A1 F).length = N := ⟨_, rfl⟩
            rw [hN5] at A5 M5 ⊢
            have HS5 := Lib.hid (side_moved HS4.out M5)
            have HA5 := Lib.hid A5
            have HAQ := Lib.hid (show addS ts A1 F = (someS s k ++ fl1 s k).foldl (addS ts) all by rw [HF1.out, List.foldl_append, HA0.out]; rfl)
            have hpo := part_ok HM.out HBF.out HRS.out (someS s k ++ fl1 s k) (fun t ht => by
              rcases List.mem_append.1 ht with h | h
              · exact some_next (by rw [HLL.out]; exact hk) t h
              · exact steps_next (j := k) (by rw [HLL.out]; exact hlt2) (by rw [steps_two]; exact List.mem_append_left _ h))
            rw [← HAQ.out] at hpo
            have HRA5 := Lib.hid hpo.2.1
            have HFW5 := Lib.hid (show N5 ≤ 13841287201 by rw [← hN5]; exact hpo.2.2)
            have HN5 := Lib.hid hN5
            clear y0 y1 y2 y3 y4 y5 A5 M5 hN5 hpo HA4 HS4 HAX HSX HRA HFW HL1 HA0 HH1 HH0
            obtain ⟨A7, hA7⟩ : ∃ A, addS ts A1 F = A := ⟨_, rfl⟩
            rw [hA7] at HA5 HAQ HRA5 HN5
            clear hA7
            obtain ⟨ab2, ao2, zt, rfl, hz, g0⟩ := int_atR (vs_any HS5.out.st.at_) (show k < np by rw [← HS5.out.st.at_.1]; simp [atS]; rw [HLL.out]; exact hlt2)
            rw [atS_at ts s (by rw [HLL.out]; exact hlt2)] at hz
            obtain ⟨vb, vo, t, pt, ct, rfl, ht, g1, -, -, -, -⟩ := moves_at (vs_any (vs_keep (kept_low (all_below HA5.out) (fun _ h => h.2)) HVG.out)) hlt2
            have htd : ts.getD k [] = t := by rw [List.getD_eq_getElem?_getD, ht]; rfl
            rw [htd] at hz
            obtain ⟨tl, htl⟩ : ∃ tl, t.length = tl := ⟨_, rfl⟩
            rw [htl] at hz g1
            have hzz : zt = (tl : Int) - ((s.l k).length : Int) := by simpa using hz.symm
            have z4 := HS5.out.cl 4 _ rfl
            obtain ⟨x2, -⟩ := varN_low (all_below HA5.out) (varN_lt HXG.out (by simp)) HXG.out 2 _ rfl
            have i3 : (k : Int) < np := by have h := HS5.out.st.at_.1; simp [atS] at h; rw [HLL.out] at h; omega
            have i4 : (k : Int) < L := by omega
            have i5 : (0 : Int) ≤ k := by omega
            clear hz ht htd htl
            cases hnl : s.l k with
            | nil =>
              have HNL := Lib.hid hnl
              have HE2 := Lib.hid (show doneTo s (k + 1) = false by rw [HDN.out, hnl]; simp)
              rw [hnl] at hzz
              obtain rfl : zt = (tl : Int) := by simpa using hzz
              clear hnl hzz
              go_upto_region 17 with fail
              go_region
              clear g0 g1 z4 x2 i3 i4 i5
              have hq0 : ∀ b, w5.drew.heap.size ≤ b → Any b ∧ (Value.slice va5 N5 vc5).ownBlock ≠ some b := fun b hb => ⟨trivial, fun e => by have h1 := (all_own HA5.out e).2; have h2 : w5.heap.size ≤ b := hb; omega⟩
              have h0 := refMove_any W D ts (fun b => Any b ∧ (Value.slice va5 N5 vc5).ownBlock ≠ some b) (some ⟨vb, vo, none⟩) dl a a' (some ⟨bb, bo, none⟩) (some ⟨ab2, ao2, none⟩) r n c n' c' l d np pc nr rc s k w5.drew HM.out HK.out (by rw [HLL.out]; exact vs_any (vs_D (vs_keep (kept_low (all_below HA5.out) (fun _ h => h.2)) HVG.out))) (rst_keep (kept_D _) HS5.out.st) (by rw [HLL.out]; exact hlt2) hq0
              rw [HLL.out, HDD.out] at h0
              have HH0 := Lib.hid h0
              obtain ⟨x0, -⟩ := varN_low (all_below HA5.out) (varN_lt HXG.out (by simp)) HXG.out 0 _ rfl
              obtain ⟨x1, -⟩ := varN_low (all_below HA5.out) (varN_lt HXG.out (by simp)) HXG.out 1 _ rfl
              obtain ⟨x2, -⟩ := varN_low (all_below HA5.out) (varN_lt HXG.out (by simp)) HXG.out 2 _ rfl
              have z0 := HS5.out.cl 0 _ rfl
              have z1 := HS5.out.cl 1 _ rfl
              have z2 := HS5.out.cl 2 _ rfl
              have z3 := HS5.out.cl 3 _ rfl
              have z4 := HS5.out.cl 4 _ rfl
              have z5 := HS5.out.cl 5 _ rfl
              clear h0 hq0
              go_upto_region 19 with fail
              go_wp2_with fail
              with_reducible refine HH0.out.mono ?_
              rintro e w3 ⟨ma, mn, mc, mb, mn', mc', mD, mq, ml, md, mp, mnp, mpc, mr, mnr, mrc, ok, rfl, hok, hb3⟩
              have hb3' : Below w5.heap.size w5 w3 := below_from (Below.refl _ _).drew hb3
              obtain ⟨W3, hW3⟩ : ∃ X, X = w3.alloc (Obj.cells #[.slice ma mn mc, .slice mb mn' mc', .int .i64 mD, .slice mq ml md, .slice mp mnp mpc, .slice mr mnr mrc] 64) := ⟨_, rfl⟩
              have hbW : Below w5.heap.size w5 W3 := by rw [hW3]; exact hb3'.alloc hb3'.size _
              have HA3 := Lib.hid (all_B HA5.out hbW)
              have HS3 := Lib.hid (side_B HS5.out hbW)
              have HN2 := Lib.hid (show VarN W3 w3.heap.size [.slice ma mn mc, .slice mb mn' mc', .int .i64 mD, .slice mq ml md, .slice mp mnp mpc, .slice mr mnr mrc] by rw [hW3]; exact varN_new [.slice ma mn mc, .slice mb mn' mc', .int .i64 mD, .slice mq ml md, .slice mp mnp mpc, .slice mr mnr mrc] _ rfl)
              have HW3 := Lib.hid hW3
              have HK3 := Lib.hid (show Gen.Kept (fun b => Any b ∧ (Value.slice va5 N5 vc5).ownBlock ≠ some b) w3 W3 by rw [hW3]; exact kept_A _ _)
              rw [HNL.out] at hok
              clear hb3 hb3' hbW hW3 x0 x1 x2 z0 z1 z2 z3 z4 z5
              obtain rfl : ok = false := hok
              have hmv0 : mv1 s k = [] := by rw [mv1, HNL.out]
              go_upto_region 20 with fail
              rw [← HW3.out]
              have HST := Lib.hid (show someS s (k + 1) = someS s k ++ fl1 s k by rw [someS_succ, steps_two, hmv0, List.append_nil])
              clear hmv0
              go_wp2_with fail
              go_roundw
              case rel => exact ⟨k + 1, N5, vc5, va5, false, A7, by omega, HN5.out, by go_num, rfl, rfl, (by show _ = doneTo s (k + 1); rw [HE2.out]), (by show A7 = _; rw [HST.out]; exact HAQ.out), HA3.out, HS3.out⟩
              case measure => simp [intOf]; omega
            | cons m rest =>
              have HNL := Lib.hid hnl
              have HE2 := Lib.hid (show doneTo s (k + 1) = false by rw [HDN.out, hnl]; simp)
              have i6 : zt < (tl : Int) := by rw [hzz, hnl]; simp; omega
              clear hnl hzz
              go_upto_region 17 with fail
              go_region
              clear g0 g1 z4 x2 i3 i4 i5
              have hq0 : ∀ b, w5.drew.heap.size ≤ b → Any b ∧ (Value.slice va5 N5 vc5).ownBlock ≠ some b := fun b hb => ⟨trivial, fun e => by have h1 := (all_own HA5.out e).2; have h2 : w5.heap.size ≤ b := hb; omega⟩
              have h0 := refMove_any W D ts (fun b => Any b ∧ (Value.slice va5 N5 vc5).ownBlock ≠ some b) (some ⟨vb, vo, none⟩) dl a a' (some ⟨bb, bo, none⟩) (some ⟨ab2, ao2, none⟩) r n c n' c' l d np pc nr rc s k w5.drew HM.out HK.out (by rw [HLL.out]; exact vs_any (vs_D (vs_keep (kept_low (all_below HA5.out) (fun _ h => h.2)) HVG.out))) (rst_keep (kept_D _) HS5.out.st) (by rw [HLL.out]; exact hlt2) hq0
              rw [HLL.out, HDD.out] at h0
              have HH0 := Lib.hid h0
              obtain ⟨x0, -⟩ := varN_low (all_below HA5.out) (varN_lt HXG.out (by simp)) HXG.out 0 _ rfl
              obtain ⟨x1, -⟩ := varN_low (all_below HA5.out) (varN_lt HXG.out (by simp)) HXG.out 1 _ rfl
              obtain ⟨x2, -⟩ := varN_low (all_below HA5.out) (varN_lt HXG.out (by simp)) HXG.out 2 _ rfl
              have z0 := HS5.out.cl 0 _ rfl
              have z1 := HS5.out.cl 1 _ rfl
              have z2 := HS5.out.cl 2 _ rfl
              have z3 := HS5.out.cl 3 _ rfl
              have z4 := HS5.out.cl 4 _ rfl
              have z5 := HS5.out.cl 5 _ rfl
              clear h0 hq0
              go_upto_region 19 with fail
              go_wp2_with fail
              with_reducible refine HH0.out.mono ?_
              rintro e w3 ⟨ma, mn, mc, mb, mn', mc', mD, mq, ml, md, mp, mnp, mpc, mr, mnr, mrc, ok, rfl, hok, hb3⟩
              have hb3' : Below w5.heap.size w5 w3 := below_from (Below.refl _ _).drew hb3
              obtain ⟨W3, hW3⟩ : ∃ X, X = w3.alloc (Obj.cells #[.slice ma mn mc, .slice mb mn' mc', .int .i64 mD, .slice mq ml md, .slice mp mnp mpc, .slice mr mnr mrc] 64) := ⟨_, rfl⟩
              have hbW : Below w5.heap.size w5 W3 := by rw [hW3]; exact hb3'.alloc hb3'.size _
              have HA3 := Lib.hid (all_B HA5.out hbW)
              have HS3 := Lib.hid (side_B HS5.out hbW)
              have HN2 := Lib.hid (show VarN W3 w3.heap.size [.slice ma mn mc, .slice mb mn' mc', .int .i64 mD, .slice mq ml md, .slice mp mnp mpc, .slice mr mnr mrc] by rw [hW3]; exact varN_new [.slice ma mn mc, .slice mb mn' mc', .int .i64 mD, .slice mq ml md, .slice mp mnp mpc, .slice mr mnr mrc] _ rfl)
              have HW3 := Lib.hid hW3
              have HK3 := Lib.hid (show Gen.Kept (fun b => Any b ∧ (Value.slice va5 N5 vc5).ownBlock ≠ some b) w3 W3 by rw [hW3]; exact kept_A _ _)
              rw [HNL.out] at hok
              clear hb3 hb3' hbW hW3 x0 x1 x2 z0 z1 z2 z3 z4 z5
              obtain ⟨hk1, hk2⟩ := hok
              cases ok with
              | false =>
                have hmv0 : mv1 s k = [] := by rw [mv1, HNL.out]; exact if_neg (fun h => by rw [← hk1] at h; cases h)
                clear hk1 hk2
                go_upto_region 20 with fail
                rw [← HW3.out]
                have HST := Lib.hid (show someS s (k + 1) = someS s k ++ fl1 s k by rw [someS_succ, steps_two, hmv0, List.append_nil])
                clear hmv0
                go_wp2_with fail
                go_roundw
                case rel => exact ⟨k + 1, N5, vc5, va5, false, A7, by omega, HN5.out, by go_num, rfl, rfl, (by show _ = doneTo s (k + 1); rw [HE2.out]), (by show A7 = _; rw [HST.out]; exact HAQ.out), HA3.out, HS3.out⟩
                case measure => simp [intOf]; omega
              | true =>
                obtain ⟨hD, hR⟩ := hk2 rfl
                have hmv1 : mv1 s k = [(moveS (leftS s k rest) k m).1] := by rw [mv1, HNL.out]; exact if_pos hk1.symm
                have HST := Lib.hid (show someS s (k + 1) = someS s k ++ fl1 s k ++ [(moveS (leftS s k rest) k m).1] by rw [someS_succ, steps_two, hmv1, List.append_assoc])
                have hin : (moveS (leftS s k rest) k m).1 ∈ nextS ts.length s := steps_next (j := k) (by rw [HLL.out]; exact hlt2) (by rw [steps_two, hmv1]; simp)
                have hrt := next_reach HM.out HRS.out hin
                obtain ⟨T, hT⟩ : ∃ T, (moveS (leftS s k rest) k m).1 = T := ⟨_, rfl⟩
                rw [hT] at hR hrt hD HST
                have h1 := add_call (c := mc) (c' := mc') (d := md) (pc := mpc) (rc := mrc) HM.out HA3.out (rst_keep HK3.out hR) HRA5.out hrt (by rw [HN5.out]; exact HFW5.out)
                rw [← hD] at h1
                have HH1 := Lib.hid h1
                clear hk1 hk2 hR hmv1 hin hrt hT h1 hD
                go_upto_region 20 with fail
                rw [← HW3.out]
                obtain ⟨y0, -⟩ := HN2.out 0 _ rfl
                obtain ⟨y1, -⟩ := HN2.out 1 _ rfl
                obtain ⟨y2, -⟩ := HN2.out 2 _ rfl
                obtain ⟨y3, -⟩ := HN2.out 3 _ rfl
                obtain ⟨y4, -⟩ := HN2.out 4 _ rfl
                obtain ⟨y5, -⟩ := HN2.out 5 _ rfl
                go_wp2_with fail
                with_reducible refine HH1.out.mono ?_
                rintro e w6 ⟨v6, rfl, A6, M6⟩
                obtain ⟨va6, vc6, rfl⟩ := all_shape A6
                obtain ⟨N6, hN6⟩ : ∃ N, (addS ts A7 T).length = N := ⟨_, rfl⟩
                rw [hN6] at A6 M6 ⊢
                have HS6 := Lib.hid (side_moved HS3.out M6)
                have HA6 := Lib.hid A6
                have HN6 := Lib.hid hN6
                clear y0 y1 y2 y3 y4 y5 A6 M6 hN6
                go_wp2_with fail
                go_roundw
                case rel => exact ⟨k + 1, N6, vc6, va6, false, addS ts A7 T, by omega, HN6.out, by go_num, rfl, rfl, (by show _ = doneTo s (k + 1); rw [HE2.out]), (by show addS ts A7 T = _; rw [HST.out, List.foldl_append, HAQ.out]; rfl), HA6.out, HS6.out⟩
                case measure => simp [intOf]; omega
          · have j1 : ¬ (0 : Int) < bn := by omega
            have hb1 : s.bs.getD k [] = [] := List.eq_nil_of_length_eq_zero (by rw [HBN.out]; omega)
            have HF1 := Lib.hid (show fl1 s k = [] from if_neg (flE_none HM.out HK.out (by rw [HLL.out]; exact hlt2) hb1))
            have HDN := Lib.hid (show doneTo s (k + 1) = (ed && decide ((s.l k).length = 0)) by rw [doneTo_succ, doneB, hb1, ← HED.out]; simp)
            have HA1 := Lib.hid (show A1 = (someS s k ++ fl1 s k).foldl (addS ts) all by rw [HF1.out, List.append_nil]; exact HA0.out)
            clear hb1
            go_upto_region 17 with fail
            clear z3 b1 i3 i4 i5
            obtain ⟨ab2, ao2, zt, rfl, hz, g0⟩ := int_atR (vs_any HSX.out.st.at_) (show k < np by rw [← HSX.out.st.at_.1]; simp [atS]; rw [HLL.out]; exact hlt2)
            rw [atS_at ts s (by rw [HLL.out]; exact hlt2)] at hz
            obtain ⟨vb, vo, t, pt, ct, rfl, ht, g1, -, -, -, -⟩ := moves_at (vs_any (vs_keep (kept_low (all_below HAX.out) (fun _ h => h.2)) HVG.out)) hlt2
            have htd : ts.getD k [] = t := by rw [List.getD_eq_getElem?_getD, ht]; rfl
            rw [htd] at hz
            obtain ⟨tl, htl⟩ : ∃ tl, t.length = tl := ⟨_, rfl⟩
            rw [htl] at hz g1
            have hzz : zt = (tl : Int) - ((s.l k).length : Int) := by simpa using hz.symm
            have z4 := HSX.out.cl 4 _ rfl
            obtain ⟨x2, -⟩ := varN_low (all_below HAX.out) (varN_lt HXG.out (by simp)) HXG.out 2 _ rfl
            have i3 : (k : Int) < np := by have h := HSX.out.st.at_.1; simp [atS] at h; rw [HLL.out] at h; omega
            have i4 : (k : Int) < L := by omega
            have i5 : (0 : Int) ≤ k := by omega
            clear hz ht htd htl
            cases hnl : s.l k with
            | nil =>
              have HNL := Lib.hid hnl
              have HE2 := Lib.hid (show doneTo s (k + 1) = ed by rw [HDN.out, hnl]; simp)
              rw [hnl] at hzz
              obtain rfl : zt = (tl : Int) := by simpa using hzz
              clear hnl hzz
              go_upto_region 17 with fail
              go_region
              clear g0 g1 z4 x2 i3 i4 i5
              have hq0 : ∀ b, wx.drew.heap.size ≤ b → Any b ∧ (Value.slice va1 N1 vc1).ownBlock ≠ some b := fun b hb => ⟨trivial, fun e => by have h1 := (all_own HAX.out e).2; have h2 : wx.heap.size ≤ b := hb; omega⟩
              have h0 := refMove_any W D ts (fun b => Any b ∧ (Value.slice va1 N1 vc1).ownBlock ≠ some b) (some ⟨vb, vo, none⟩) dl a a' (some ⟨bb, bo, none⟩) (some ⟨ab2, ao2, none⟩) r n c n' c' l d np pc nr rc s k wx.drew HM.out HK.out (by rw [HLL.out]; exact vs_any (vs_D (vs_keep (kept_low (all_below HAX.out) (fun _ h => h.2)) HVG.out))) (rst_keep (kept_D _) HSX.out.st) (by rw [HLL.out]; exact hlt2) hq0
              rw [HLL.out, HDD.out] at h0
              have HH0 := Lib.hid h0
              obtain ⟨x0, -⟩ := varN_low (all_below HAX.out) (varN_lt HXG.out (by simp)) HXG.out 0 _ rfl
              obtain ⟨x1, -⟩ := varN_low (all_below HAX.out) (varN_lt HXG.out (by simp)) HXG.out 1 _ rfl
              obtain ⟨x2, -⟩ := varN_low (all_below HAX.out) (varN_lt HXG.out (by simp)) HXG.out 2 _ rfl
              have z0 := HSX.out.cl 0 _ rfl
              have z1 := HSX.out.cl 1 _ rfl
              have z2 := HSX.out.cl 2 _ rfl
              have z3 := HSX.out.cl 3 _ rfl
              have z4 := HSX.out.cl 4 _ rfl
              have z5 := HSX.out.cl 5 _ rfl
              clear h0 hq0
              go_upto_region 19 with fail
              go_wp2_with fail
              with_reducible refine HH0.out.mono ?_
              rintro e w3 ⟨ma, mn, mc, mb, mn', mc', mD, mq, ml, md, mp, mnp, mpc, mr, mnr, mrc, ok, rfl, hok, hb3⟩
              have hb3' : Below wx.heap.size wx w3 := below_from (Below.refl _ _).drew hb3
              obtain ⟨W3, hW3⟩ : ∃ X, X = w3.alloc (Obj.cells #[.slice ma mn mc, .slice mb mn' mc', .int .i64 mD, .slice mq ml md, .slice mp mnp mpc, .slice mr mnr mrc] 64) := ⟨_, rfl⟩
              have hbW : Below wx.heap.size wx W3 := by rw [hW3]; exact hb3'.alloc hb3'.size _
              have HA3 := Lib.hid (all_B HAX.out hbW)
              have HS3 := Lib.hid (side_B HSX.out hbW)
              have HN2 := Lib.hid (show VarN W3 w3.heap.size [.slice ma mn mc, .slice mb mn' mc', .int .i64 mD, .slice mq ml md, .slice mp mnp mpc, .slice mr mnr mrc] by rw [hW3]; exact varN_new [.slice ma mn mc, .slice mb mn' mc', .int .i64 mD, .slice mq ml md, .slice mp mnp mpc, .slice mr mnr mrc] _ rfl)
              have HW3 := Lib.hid hW3
              have HK3 := Lib.hid (show Gen.Kept (fun b => Any b ∧ (Value.slice va1 N1 vc1).ownBlock ≠ some b) w3 W3 by rw [hW3]; exact kept_A _ _)
              rw [HNL.out] at hok
              clear hb3 hb3' hbW hW3 x0 x1 x2 z0 z1 z2 z3 z4 z5
              obtain rfl : ok = false := hok
              have hmv0 : mv1 s k = [] := by rw [mv1, HNL.out]
              go_upto_region 20 with fail
              rw [← HW3.out]
              have HST := Lib.hid (show someS s (k + 1) = someS s k ++ fl1 s k by rw [someS_succ, steps_two, hmv0, List.append_nil])
              clear hmv0
              go_wp2_with fail
              go_roundw
              case rel => exact ⟨k + 1, N1, vc1, va1, ed, A1, by omega, HL1.out, by go_num, rfl, rfl, (by show _ = doneTo s (k + 1); rw [HE2.out]), (by show A1 = _; rw [HST.out]; exact HA1.out), HA3.out, HS3.out⟩
              case measure => simp [intOf]; omega
            | cons m rest =>
              have HNL := Lib.hid hnl
              have HE2 := Lib.hid (show doneTo s (k + 1) = false by rw [HDN.out, hnl]; simp)
              have i6 : zt < (tl : Int) := by rw [hzz, hnl]; simp; omega
              clear hnl hzz
              go_upto_region 17 with fail
              go_region
              clear g0 g1 z4 x2 i3 i4 i5
              have hq0 : ∀ b, wx.drew.heap.size ≤ b → Any b ∧ (Value.slice va1 N1 vc1).ownBlock ≠ some b := fun b hb => ⟨trivial, fun e => by have h1 := (all_own HAX.out e).2; have h2 : wx.heap.size ≤ b := hb; omega⟩
              have h0 := refMove_any W D ts (fun b => Any b ∧ (Value.slice va1 N1 vc1).ownBlock ≠ some b) (some ⟨vb, vo, none⟩) dl a a' (some ⟨bb, bo, none⟩) (some ⟨ab2, ao2, none⟩) r n c n' c' l d np pc nr rc s k wx.drew HM.out HK.out (by rw [HLL.out]; exact vs_any (vs_D (vs_keep (kept_low (all_below HAX.out) (fun _ h => h.2)) HVG.out))) (rst_keep (kept_D _) HSX.out.st) (by rw [HLL.out]; exact hlt2) hq0
              rw [HLL.out, HDD.out] at h0
              have HH0 := Lib.hid h0
              obtain ⟨x0, -⟩ := varN_low (all_below HAX.out) (varN_lt HXG.out (by simp)) HXG.out 0 _ rfl
              obtain ⟨x1, -⟩ := varN_low (all_below HAX.out) (varN_lt HXG.out (by simp)) HXG.out 1 _ rfl
              obtain ⟨x2, -⟩ := varN_low (all_below HAX.out) (varN_lt HXG.out (by simp)) HXG.out 2 _ rfl
              have z0 := HSX.out.cl 0 _ rfl
              have z1 := HSX.out.cl 1 _ rfl
              have z2 := HSX.out.cl 2 _ rfl
              have z3 := HSX.out.cl 3 _ rfl
              have z4 := HSX.out.cl 4 _ rfl
              have z5 := HSX.out.cl 5 _ rfl
              clear h0 hq0
              go_upto_region 19 with fail
              go_wp2_with fail
              with_reducible refine HH0.out.mono ?_
              rintro e w3 ⟨ma, mn, mc, mb, mn', mc', mD, mq, ml, md, mp, mnp, mpc, mr, mnr, mrc, ok, rfl, hok, hb3⟩
              have hb3' : Below wx.heap.size wx w3 := below_from (Below.refl _ _).drew hb3
              obtain ⟨W3, hW3⟩ : ∃ X, X = w3.alloc (Obj.cells #[.slice ma mn mc, .slice mb mn' mc', .int .i64 mD, .slice mq ml md, .slice mp mnp mpc, .slice mr mnr mrc] 64) := ⟨_, rfl⟩
              have hbW : Below wx.heap.size wx W3 := by rw [hW3]; exact hb3'.alloc hb3'.size _
              have HA3 := Lib.hid (all_B HAX.out hbW)
              have HS3 := Lib.hid (side_B HSX.out hbW)
              have HN2 := Lib.hid (show VarN W3 w3.heap.size [.slice ma mn mc, .slice mb mn' mc', .int .i64 mD, .slice mq ml md, .slice mp mnp mpc, .slice mr mnr mrc] by rw [hW3]; exact varN_new [.slice ma mn mc, .slice mb mn' mc', .int .i64 mD, .slice mq ml md, .slice mp mnp mpc, .slice mr mnr mrc] _ rfl)
              have HW3 := Lib.hid hW3
              have HK3 := Lib.hid (show Gen.Kept (fun b => Any b ∧ (Value.slice va1 N1 vc1).ownBlock ≠ some b) w3 W3 by rw [hW3]; exact kept_A _ _)
              rw [HNL.out] at hok
              clear hb3 hb3' hbW hW3 x0 x1 x2 z0 z1 z2 z3 z4 z5
              obtain ⟨hk1, hk2⟩ := hok
              cases ok with
              | false =>
                have hmv0 : mv1 s k = [] := by rw [mv1, HNL.out]; exact if_neg (fun h => by rw [← hk1] at h; cases h)
                clear hk1 hk2
                go_upto_region 20 with fail
                rw [← HW3.out]
                have HST := Lib.hid (show someS s (k + 1) = someS s k ++ fl1 s k by rw [someS_succ, steps_two, hmv0, List.append_nil])
                clear hmv0
                go_wp2_with fail
                go_roundw
                case rel => exact ⟨k + 1, N1, vc1, va1, false, A1, by omega, HL1.out, by go_num, rfl, rfl, (by show _ = doneTo s (k + 1); rw [HE2.out]), (by show A1 = _; rw [HST.out]; exact HA1.out), HA3.out, HS3.out⟩
                case measure => simp [intOf]; omega
              | true =>
                obtain ⟨hD, hR⟩ := hk2 rfl
                have hmv1 : mv1 s k = [(moveS (leftS s k rest) k m).1] := by rw [mv1, HNL.out]; exact if_pos hk1.symm
                have HST := Lib.hid (show someS s (k + 1) = someS s k ++ fl1 s k ++ [(moveS (leftS s k rest) k m).1] by rw [someS_succ, steps_two, hmv1, List.append_assoc])
                have hin : (moveS (leftS s k rest) k m).1 ∈ nextS ts.length s := steps_next (j := k) (by rw [HLL.out]; exact hlt2) (by rw [steps_two, hmv1]; simp)
                have hrt := next_reach HM.out HRS.out hin
                obtain ⟨T, hT⟩ : ∃ T, (moveS (leftS s k rest) k m).1 = T := ⟨_, rfl⟩
                rw [hT] at hR hrt hD HST
                have h1 := add_call (c := mc) (c' := mc') (d := md) (pc := mpc) (rc := mrc) HM.out HA3.out (rst_keep HK3.out hR) HRA.out hrt (by rw [HL1.out]; exact HFW.out)
                rw [← hD] at h1
                have HH1 := Lib.hid h1
                clear hk1 hk2 hR hmv1 hin hrt hT h1 hD
                go_upto_region 20 with fail
                rw [← HW3.out]
                obtain ⟨y0, -⟩ := HN2.out 0 _ rfl
                obtain ⟨y1, -⟩ := HN2.out 1 _ rfl
                obtain ⟨y2, -⟩ := HN2.out 2 _ rfl
                obtain ⟨y3, -⟩ := HN2.out 3 _ rfl
                obtain ⟨y4, -⟩ := HN2.out 4 _ rfl
                obtain ⟨y5, -⟩ := HN2.out 5 _ rfl
                go_wp2_with fail
                with_reducible refine HH1.out.mono ?_
                rintro e w6 ⟨v6, rfl, A6, M6⟩
                obtain ⟨va6, vc6, rfl⟩ := all_shape A6
                obtain ⟨N6, hN6⟩ : ∃ N, (addS ts A1 T).length = N := ⟨_, rfl⟩
                rw [hN6] at A6 M6 ⊢
                have HS6 := Lib.hid (side_moved HS3.out M6)
                have HA6 := Lib.hid A6
                have HN6 := Lib.hid hN6
                clear y0 y1 y2 y3 y4 y5 A6 M6 hN6
                go_wp2_with fail
                go_roundw
                case rel => exact ⟨k + 1, N6, vc6, va6, false, addS ts A1 T, by omega, HN6.out, by go_num, rfl, rfl, (by show _ = doneTo s (k + 1); rw [HE2.out]), (by show addS ts A1 T = _; rw [HST.out, List.foldl_append, HA1.out]; rfl), HA6.out, HS6.out⟩
                case measure => simp [intOf]; omega
        · obtain rfl : k = L := by omega
          have hbf := bfs_nextS HM.out HBF.out HSI.out
          rw [HLL.out, ← HA0.out] at hbf
          cases ed with
          | true =>
            have hen : endedB s k = true := HED.out.symm
            rw [hen, if_pos rfl] at hbf
            have HBF2 := Lib.hid hbf
            have HOS := Lib.hid (show (ntS k s).flatten ++ s.ws = outS s by have h := outS_flat HM.out HK.out; rw [HLL.out] at h; exact h)
            have HFN6 := Lib.hid (show ∀ y ∈ ntS k s, y.length ≤ 6 by have h := few_notes HM.out HK.out; rw [HLL.out] at h; exact h)
            have HNT := Lib.hid (show Vs (repSlice repInt) (fun b => Any b ∧ (Value.slice va1 N1 vc1).ownBlock ≠ some b) wx r k (ntS k s) by have h := HSX.out.st.nt; have e := h.1; simp [ntS] at e; rw [HLL.out] at h e; rw [← e] at h; exact h)
            have hnr : nr = k := by have h := HSX.out.st.nt.1; simp [ntS] at h; rw [HLL.out] at h; exact h.symm
            subst hnr
            clear hen hbf
            obtain ⟨W5, hW5⟩ : ∃ X, X = wx.alloc (Obj.cells #[] 3) := ⟨_, rfl⟩
            have hb5 : Below wx.heap.size wx W5 := by rw [hW5]; go_grown
            have HB5 := Lib.hid hb5
            have HO5 := Lib.hid (show W5.ownsRow wx.heap.size 3 1 (.slice (some ⟨wx.heap.size, 0, none⟩) 0 0) 0 [] by rw [hW5]; exact World.ownsRow_lit wx #[] 0 (Nat.le_refl _) (by decide) rfl)
            have HW5 := Lib.hid hW5
            have z5 := kept_B (Q := Any) hb5 _ _ _ trivial (HSX.out.cl 5 _ rfl)
            clear hW5 hb5
            go_upto_region 25 with fail
            rw [← HW5.out]
            go_wp2_with fail
            go_loopw [14, 87] (fun vo i wz => ∃ (j mm : Nat) (va2 : Option Addr) (vc2 : Nat), j ≤ nr ∧ i = .int .i64 j ∧ vo = .slice va2 mm vc2 ∧ Hid (((ntS nr s).take j).flatten.length = mm) ∧ Hid (wz.ownsRow wx.heap.size 3 1 (.slice va2 mm vc2) mm ((((ntS nr s).take j).flatten).map (.int .i64))) ∧ Below wx.heap.size wx wz) (fun _ i _ => nr - (intOf i).toNat)
            case atStart => exact ⟨0, 0, some ⟨wx.heap.size, 0, none⟩, 0, Nat.zero_le _, rfl, rfl, (by show _ = 0; simp), HO5.out, HB5.out⟩
            case round =>
              obtain ⟨j, mm, va2, vc2, hj, rfl, rfl, HML, HO, hb⟩ := hrel
              obtain ⟨wz, hwz⟩ : ∃ x, x = wr := ⟨_, rfl⟩
              subst hwz
              by_cases hlt3 : j < nr
              · obtain ⟨b, ob, x, px, pxc, rfl, hx, g0, hR, V2⟩ := rows_atR (vs_keep (kept_B hb) HNT.out) hlt3
                obtain ⟨xl, hxl⟩ : ∃ xl, x.length = xl := ⟨_, rfl⟩
                rw [hxl] at g0 V2
                have hft := flatten_step hx
                have i3 : (0 : Int) ≤ j := by omega
                have i4 : (j : Int) < nr := by omega
                by_cases hpx : px = none
                · subst hpx
                  obtain rfl : pxc = 0 := by
                    obtain ⟨q9, c9, e9, -, -, h9, -⟩ := hR
                    cases e9
                    exact h9 rfl
                  obtain rfl : xl = 0 := by
                    rcases V2.2 with h | ⟨_, _, h, _⟩
                    · exact h
                    · cases h
                  have hx0 : x = [] := List.eq_nil_of_length_eq_zero hxl
                  subst hx0
                  have HFT := Lib.hid (show ((ntS nr s).take (j + 1)).flatten = ((ntS nr s).take j).flatten by rw [hft, List.append_nil])
                  have HBZ := Lib.hid hb
                  clear hx hxl hft V2 hb hR
                  go_wp2_with (at_builtin; refine wpList_append_own_none rfl _ _ 23 rfl wx.heap.size 3 j0 1 Tryz.underlying23 HJ.out.1 _ _ _ rfl HO.out rfl ?_)
                  go_wp2_with fail
                  go_roundw
                  case rel => exact ⟨j + 1, mm, va2, vc2, by omega, by go_num, rfl, (by show _ = mm; rw [HFT.out]; exact HML.out), (by show World.ownsRow _ _ _ _ _ _ _; rw [HFT.out]; exact HO.out), HBZ.out⟩
                  case measure => simp [intOf]; omega
                · obtain ⟨ax, rfl⟩ := Option.ne_none_iff_exists'.1 hpx
                  have HCX := Lib.hid (vs_cells1 V2 _ rfl)
                  have hml : (x.map (Value.int .i64)).length = xl * 1 := by rw [List.length_map, hxl, Nat.mul_one]
                  have HFT := Lib.hid hft
                  have HXL := Lib.hid hxl
                  have HBZ := Lib.hid hb
                  have hsz := hb.size
                  have hxl6 : xl ≤ 6 := by rw [← hxl]; exact HFN6.out x (List.mem_of_getElem? hx)
                  have hmm6 : mm ≤ 18 := by rw [← HML.out]; have h := flatten_few (l := (ntS nr s).take j) (fun y hy => HFN6.out y (List.mem_of_mem_take hy)); rw [List.length_take] at h; omega
                  obtain ⟨rw0, hrw0⟩ : ∃ R, R = (((ntS nr s).take j).flatten).map (Value.int .i64) := ⟨_, rfl⟩
                  have HOR := Lib.hid (show wz.ownsRow wx.heap.size 3 1 (.slice va2 mm vc2) mm rw0 by rw [hrw0]; exact HO.out)
                  have HRW := Lib.hid hrw0
                  clear hx hxl hft V2 hb hR hrw0
                  go_wp2_with (at_builtin; refine wpList_append_own _ rfl (.tmp 91) (.tmp 92) 23 rfl wx.heap.size 3 j0 (.int .i64 0) 1 8 Tryz.underlying23 HJ.out.1 HJ.out.2.1 HJ.out.2.2.1 HJ.out.2.2.2 rfl (by decide) (.slice va2 mm vc2) mm rw0 rfl HOR.out ax xl pxc (x.map (.int .i64)) rfl hml HCX.out (one_intsR x) (by unfold maxLen; omega) (by omega) (by omega) ?_)
                  intro v4 w4 hown hgrow _
                  obtain ⟨va4, vc4, rfl⟩ := own_shapeR hown
                  have HB4 := Lib.hid (HBZ.out.grown hgrow hsz (fun g hr => (HO.out.lt g hr).1))
                  have HO4 := Lib.hid (show w4.ownsRow wx.heap.size 3 1 (.slice va4 (mm + xl) vc4) (mm + xl) ((((ntS nr s).take (j + 1)).flatten).map (.int .i64)) by rw [HFT.out, List.map_append, ← HRW.out]; exact hown)
                  have HML4 := Lib.hid (show ((ntS nr s).take (j + 1)).flatten.length = mm + xl by rw [HFT.out, List.length_append, HML.out, HXL.out])
                  clear hown hgrow hml
                  go_wp2_with fail
                  go_roundw
                  case rel => exact ⟨j + 1, mm + xl, va4, vc4, by omega, by go_num, rfl, HML4.out, HO4.out, HB4.out⟩
                  case measure => simp [intOf]; omega
              · obtain rfl : j = nr := by omega
                have hml := HML.out
                have hfl : (ntS j s).take j = ntS j s := List.take_of_length_le (by simp [ntS])
                have HO9 := Lib.hid (show wz.ownsRow wx.heap.size 3 1 (.slice va2 mm vc2) mm ((ntS j s).flatten.map (.int .i64)) by have h := HO.out; rw [hfl] at h; exact h)
                rw [hfl] at hml
                have HML9 := Lib.hid hml
                have hmm6 : mm ≤ 18 := by rw [← hml]; have h := flatten_few (l := ntS j s) HFN6.out; have e : (ntS j s).length = j := by simp [ntS]
                                          rw [e] at h; omega
                have hb' := hb
                have S1 := HSX.out.st.ws
                have hwl : 1 ≤ s.ws.length ∧ s.ws.length ≤ 3 := by rw [HK.out.wl]; have := (mayL_parts HM.out).1; omega
                have hn := S1.1
                obtain ⟨xb, xo, rfl, -, -⟩ := S1.2.resolve_left (by omega)
                have HCX := Lib.hid (vs_cells1 (vs_keep (kept_B hb) (vs_of_slP S1)) _ rfl)
                have z0 := kept_B (Q := Any) hb _ _ _ trivial (HSX.out.cl 0 _ rfl)
                have hwm : (s.ws.map (Value.int .i64)).length = n * 1 := by rw [List.length_map, hn, Nat.mul_one]
                have hn3 : n ≤ 3 ∧ 1 ≤ n := by omega
                have HWN := Lib.hid hn
                have HBZ := Lib.hid hb
                have hsz := hb.size
                obtain ⟨rw0, hrw0⟩ : ∃ R, R = ((ntS j s).flatten).map (Value.int .i64) := ⟨_, rfl⟩
                have HOR := Lib.hid (show wz.ownsRow wx.heap.size 3 1 (.slice va2 mm vc2) mm rw0 by rw [hrw0]; exact HO9.out)
                have HRW := Lib.hid hrw0
                clear hb hb' S1 hfl hml hn hrw0
                go_wp2_with (at_builtin; refine wpList_append_own _ rfl (.tmp 95) (.tmp 99) 23 rfl wx.heap.size 3 j0 (.int .i64 0) 1 8 Tryz.underlying23 HJ.out.1 HJ.out.2.1 HJ.out.2.2.1 HJ.out.2.2.2 rfl (by decide) (.slice va2 mm vc2) mm rw0 rfl HOR.out ⟨xb, xo, none⟩ n c (s.ws.map (.int .i64)) rfl hwm HCX.out (one_intsR _) (by unfold maxLen; omega) (by omega) (by omega) ?_)
                intro v4 w4 hown hgrow _
                rw [HRW.out, ← List.map_append, HOS.out] at hown
                have hb4 : Below wx.heap.size wx w4 := HBZ.out.grown hgrow hsz (fun g hr => (HO9.out.lt g hr).1)
                obtain ⟨a4, c4, rfl, k1, k2, k3, V4⟩ := vs_own (r := repInt) (Q := fun b => Any b ∧ (Value.slice va1 N1 vc1).ownBlock ≠ some b) hown (flat_map1 (.int .i64) (outS s)) (fun b hb _ => ⟨trivial, fun e => by have := (all_own HAX.out e).2; omega⟩)
                have hof := out_few HM.out HBF.out
                have h0 := refPutQ_any (fun b => Any b ∧ (Value.slice va1 N1 vc1).ownBlock ≠ some b) oq on oc out a4 (mm + n) c4 (outS s) w4 (fun b hb => ⟨trivial, fun e => by have h1 := (all_own HAX.out e).2; have h2 := hb4.size; omega⟩) (vs_keep (kept_B hb4) (by have h := HSX.out.ou; rw [HON.out] at h; exact h)) HOC.out.1 HOC.out.2.1 HOC.out.2.2 V4 k1 k2 k3 (by rw [← HON.out]; omega) (by omega) hof.2
                have HH0 := Lib.hid h0
                have HA4 := Lib.hid (all_B HAX.out hb4)
                clear hown hgrow k1 k2 k3 V4 hof h0 hb4 hwm z0
                go_wp2_with fail
                with_reducible refine HH0.out.mono ?_
                rintro e w5 ⟨pq, pcc, rfl, k1, k2, k3, V5, hb5⟩
                obtain ⟨pn, hpn⟩ : ∃ x, (putP out (outS s)).length = x := ⟨_, rfl⟩
                rw [hpn] at k1 V5 ⊢
                have HA5 := Lib.hid (all_B HA4.out hb5)
                have HV5 := Lib.hid V5
                have HPN := Lib.hid hpn
                have HPC := Lib.hid (And.intro k1 (And.intro k2 k3))
                clear k1 k2 k3 V5 hpn hb5
                go_wp2_with fail
                go_roundw
                case rel => exact ⟨k0 + 1, N1, pcc, vc1, pn, A1, putP out (outS s), pq, va1, HL1.out, HPN.out, by go_num, rfl, rfl, HBF2.out, HA5.out, HV5.out, HPC.out⟩
                case measure => simp [intOf]; omega
          | false =>
            have hen : endedB s k = false := HED.out.symm
            rw [hen, if_neg (by decide)] at hbf
            have HBF2 := Lib.hid hbf
            clear hen hbf
            go_wp2_with fail
            go_roundw
            case rel => exact ⟨k0 + 1, N1, oc, vc1, on, A1, out, oq, va1, HL1.out, HON.out, by go_num, rfl, rfl, HBF2.out, HAX.out, (by show Vs _ _ _ _ _ _; have h := HSX.out.ou; rw [HON.out] at h; exact h), HOC.out⟩
            case measure => simp [intOf]; omega
    · have hbf := HBF.out
      rw [show k0 = all.length by rw [HNN.out]; omega] at hbf
      have HE := Lib.hid (bfs_end HM.out hbf)
      clear hbf
      go_wp2_with fail
      go_ret
      rw [← HE.out]
      exact ⟨oq, oc, by rw [HON.out]; rfl, by rw [HON.out]; exact HOC.out.1, HOC.out.2.1, HOC.out.2.2, by rw [HON.out]; exact vs_any HOU.out, HBG.out.trans ((all_below HAL.out).mono HBG.out.size)⟩
end Go.Proofs.YtiebaeaomgpicaaGreat
