/- The walk of BufferTells. -/
import Derived.Test.YtocblckhlpihhaaLawP
import Derived.Test.YtocblckhlpihhaaRefN
import Derived.Deep.RegionHeld3
import Derived.Deep.DeepCutAuto
import Derived.Deep.CutBlock
namespace Go.Proofs.Ytocblckhlpihhaa
open Go.ChangeShapes Go.WideShapes Go.ChangeAt Go.RowKit

theorem push_may {n : Nat} {depth : Int} : (mayP n depth = false → pushE n depth = 1) ∧ (mayP n depth = true → (n : Int) = depth → pushE n depth = 7) ∧ (mayP n depth = true → (n : Int) ≠ depth → pushE n depth = 0) := by
  simp only [mayP, decide_eq_false_iff_not, decide_eq_true_eq]
  refine ⟨fun h => ?_, fun h e => ?_, fun h e => ?_⟩
  · rw [pushE, if_pos (by omega)]
  · rw [pushE, if_neg (by omega), if_pos e]
  · rw [pushE, if_neg (by omega), if_neg e]
def TellsCut (w : World) (a : Option Addr) (m : Nat) (ps : List (Int × Int)) (r : Option Addr) (j : Nat) (rl : List (Int × Int)) (g : Nat) (x y : Int) (wx : World) : Prop :=
  Pl wx a m ps ∧ Pl wx r j rl ∧ wx.cell? ⟨g, 0, none⟩ = some (.int .i64 x) ∧ wx.cell? ⟨g, 1, none⟩ = some (.int .i64 y) ∧ Below w.heap.size w wx

set_option maxRecDepth 100000 in
set_option maxHeartbeats 8000000 in
theorem Tells_walk (a : Option Addr) (n c : Nat) (ps : List (Int × Int)) (depth x y at' : Int) (w : World) (S : Pl w a (min n 20) ps) (hcap : CapOk a (min n 20) c) (hnc : n ≤ c) :
    Calls Try.prog 3 #[.slice a n c, .int .i64 depth, .agg #[.int .i64 x, .int .i64 y], .int .i64 at'] w (BoolPost true w) := by
  obtain ⟨m, hm⟩ : ∃ m, m = min n 20 := ⟨_, rfl⟩
  have HM := Lib.hid hm
  rw [← hm] at S hcap
  have h3 : c ≤ 9223372036854775807 := hcap.2.1
  have hm20 : m ≤ 20 := by omega
  have HCAP := Lib.hid hcap
  have Hm := Lib.hid S.1
  clear hcap hm
  go_enter Try.func3, Try.ntmps3
  go_upto_region 1 with fail
  go_cut [0] (fun s0 wx => s0 = .slice a m c ∧ wx = w.alloc (Obj.cells #[.int .i64 x, .int .i64 y] 24))
  case first =>
    go_wp2_with fail
    all_goals
      go_meet
      have HH := HM.out
      exact ⟨by congr 1; omega, rfl⟩
  case rest =>
    obtain ⟨rfl, rfl⟩ := hcut
    go_wp2_with fail
    have hB0 : Below w.heap.size w (w.alloc (Obj.cells #[.int .i64 x, .int .i64 y] 24)) := by go_grown
    have S0 := plA (Obj.cells #[.int .i64 x, .int .i64 y] 24) S
    have p0 : (w.alloc (Obj.cells #[.int .i64 x, .int .i64 y] 24)).cell? ⟨w.heap.size, 0, none⟩ = some (.int .i64 x) := by simp
    have p1 : (w.alloc (Obj.cells #[.int .i64 x, .int .i64 y] 24)).cell? ⟨w.heap.size, 1, none⟩ = some (.int .i64 y) := by simp
    refine (Push_any a m c ps depth x y _ S0 HCAP.out).mono ?_
    rintro e w1 ⟨q, d, rfl, hc1, s1, hb1⟩
    obtain ⟨pe, hpe⟩ : ∃ z, pushE m depth = z := ⟨_, rfl⟩
    obtain ⟨ql, hql⟩ : ∃ z, pushL ps depth (x, y) = z := ⟨_, rfl⟩
    rw [hpe]
    rw [hql] at hc1 s1 ⊢
    have HPE := Lib.hid hpe
    have HQL := Lib.hid hql
    obtain ⟨k, hk⟩ : ∃ z, ql.length = z := ⟨_, rfl⟩
    rw [hk] at hc1 s1 ⊢
    have HK := Lib.hid hk
    replace hB0 := below_from hB0 hb1
    replace S0 := plB hb1 S0
    replace p0 := cellB hb1 p0
    replace p1 := cellB hb1 p1
    clear hb1 hpe hql hk
    go_wp2_with fail
    refine (Newest_any a m c ps at' _ S0 (by omega)).mono ?_
    rintro e w2 ⟨rfl, hb2⟩
    obtain ⟨nv, hnv⟩ : ∃ z, newestV ps at' = z := ⟨_, rfl⟩
    obtain ⟨nb, hnb⟩ : ∃ z, newestB ps at' = z := ⟨_, rfl⟩
    rw [hnv, hnb]
    have HNV := Lib.hid hnv
    have HNB := Lib.hid hnb
    replace hB0 := below_from hB0 hb2
    replace S0 := plB hb2 S0
    replace s1 := plF_below hb2 s1
    replace p0 := cellB hb2 p0
    replace p1 := cellB hb2 p1
    clear hb2 hnv hnb
    go_wp2_with fail
    refine (Pop_any a m c ps _ S0 HCAP.out (by omega)).mono ?_
    rintro e w3 ⟨r, f, rfl, hc3, s3, hb3⟩
    obtain ⟨oe, hoe⟩ : ∃ z, popE ps = z := ⟨_, rfl⟩
    obtain ⟨⟨x1, y1⟩, hfp⟩ : ∃ z, firstP ps = z := ⟨_, rfl⟩
    obtain ⟨rl, hrl⟩ : ∃ z, restP ps = z := ⟨_, rfl⟩
    rw [hoe, hfp]
    rw [hrl] at hc3 s3 ⊢
    have HOE := Lib.hid hoe
    have HFP := Lib.hid hfp
    have HRL := Lib.hid hrl
    obtain ⟨j, hj⟩ : ∃ z, rl.length = z := ⟨_, rfl⟩
    rw [hj] at hc3 s3 ⊢
    have HJ := Lib.hid hj
    replace hB0 := below_from hB0 hb3
    have hsz0 := hB0.size
    have hj9 : j ≤ 9223372036854775807 := by have := hc3.1; have := hc3.2.1; omega
    have B := hB0.alloc hsz0 (Obj.cells #[.int .i64 x1, .int .i64 y1] 24)
    replace S0 := plA (Obj.cells #[.int .i64 x1, .int .i64 y1] 24) (plB hb3 S0)
    replace s1 := plF_alloc (Obj.cells #[.int .i64 x1, .int .i64 y1] 24) (plF_below hb3 s1)
    replace s3 := plF_alloc (Obj.cells #[.int .i64 x1, .int .i64 y1] 24) s3
    replace p0 := cellA (Obj.cells #[.int .i64 x1, .int .i64 y1] 24) (cellB hb3 p0)
    replace p1 := cellA (Obj.cells #[.int .i64 x1, .int .i64 y1] 24) (cellB hb3 p1)
    have f0 : (w3.alloc (Obj.cells #[.int .i64 x1, .int .i64 y1] 24)).cell? ⟨w3.heap.size, 0, none⟩ = some (.int .i64 x1) := by simp
    have f1 : (w3.alloc (Obj.cells #[.int .i64 x1, .int .i64 y1] 24)).cell? ⟨w3.heap.size, 1, none⟩ = some (.int .i64 y1) := by simp
    clear hb3 hoe hfp hrl hj hB0
    go_wp2_with fail
    refine (refNewest_any a m c ps at' _ S0 (by omega)).mono ?_
    rintro e w4 ⟨rfl, hb4⟩
    rw [HNV.out, HNB.out]
    replace B := below_from B hb4
    replace S0 := plB hb4 S0
    replace s1 := plF_below hb4 s1
    replace s3 := plF_below hb4 s3
    replace p0 := cellB hb4 p0
    replace p1 := cellB hb4 p1
    replace f0 := cellB hb4 f0
    replace f1 := cellB hb4 f1
    have q1 : (nv != nv) = false := by simp
    have q2 : (nb != nb) = false := by simp
    clear hb4
    go_wp2_with fail
    refine (alive2_any _).mono ?_
    rintro e w5 ⟨rfl, hb5⟩
    replace B := below_from B hb5
    replace S0 := plB hb5 S0
    replace s1 := plF_below hb5 s1
    replace s3 := plF_below hb5 s3
    replace p0 := cellB hb5 p0
    replace p1 := cellB hb5 p1
    replace f0 := cellB hb5 f0
    replace f1 := cellB hb5 f1
    clear hb5
    go_upto_block 0 with fail
    go_cut [] (fun wx => TellsCut w a m ps r j rl w3.heap.size x1 y1 wx)
    case first =>
      have HP := Lib.hid (push_may (n := m) (depth := depth))
      go_wp2_with fail
      refine (refMay_any a m c depth _).mono ?_
      rintro e w' ⟨rfl, rfl⟩
      cases hmay : mayP m depth with
      | false =>
        have h1 := HP.out.1 hmay
        rw [HPE.out] at h1
        have h2 : ql = [] := by rw [← HQL.out, pushL, Hm.out, HPE.out, h1, if_neg (by decide)]
        have h3 : k = 0 := by rw [← HK.out, h2]; rfl
        subst h1 h3
        clear hmay h2
        go_wp2_with fail
        go_meet
        exact ⟨S0, s3.pl, f0, f1, B⟩
      | true =>
        by_cases hd : (m : Int) = depth
        · have h1 := HP.out.2.1 hmay hd
          rw [HPE.out] at h1
          have h2 : ql = [] := by rw [← HQL.out, pushL, Hm.out, HPE.out, h1, if_neg (by decide)]
          have h3 : k = 0 := by rw [← HK.out, h2]; rfl
          have q3 : ((m : Int) == depth) = true := by simpa using hd
          subst h1 h3
          clear hmay h2 hd
          go_wp2_with fail
          go_meet
          exact ⟨S0, s3.pl, f0, f1, B⟩
        · have h1 := HP.out.2.2 hmay hd
          rw [HPE.out] at h1
          have h2 : ql = ps ++ [(x, y)] := by rw [← HQL.out, pushL, Hm.out, HPE.out, h1, if_pos rfl]
          have q3 : ((m : Int) == depth) = false := by simpa using hd
          have H2 := Lib.hid h2
          have hk1 : k ≤ 21 := by rw [← HK.out, h2, List.length_append, Hm.out]; simp; omega
          subst h1
          clear hmay h2 hd
          go_wp2_with fail
          refine (refPush_any a m c ps x y _ S0 (by omega) HCAP.out.2.2).mono ?_
          rintro e w6 ⟨t, u, rfl, hc6, s6, hb6⟩
          replace B := below_from B hb6
          replace S0 := plB hb6 S0
          replace s1 := plF_below hb6 s1
          replace s3 := plF_below hb6 s3
          replace f0 := cellB hb6 f0
          replace f1 := cellB hb6 f1
          rw [← H2.out] at s6 ⊢
          rw [HK.out] at s6 ⊢
          clear hb6 hc6 p0 p1
          go_wp2_with fail
          refine (refSameP_any q t k d k u ql ql _ s1.pl s6.pl (by omega)).mono ?_
          rintro e w7 ⟨rfl, hb7⟩
          rw [samePB_refl]
          replace B := below_from B hb7
          replace S0 := plB hb7 S0
          replace s3 := plF_below hb7 s3
          replace f0 := cellB hb7 f0
          replace f1 := cellB hb7 f1
          clear hb7 s6 s1
          go_wp2_with fail
          go_meet
          exact ⟨S0, s3.pl, f0, f1, B⟩
    case rest =>
      obtain ⟨S1, s4, g0, g1, BB⟩ := hcut
      by_cases h0 : m = 0
      · subst h0
        have h1 : ps = [] := List.eq_nil_of_length_eq_zero Hm.out
        have h2 : oe = 8 := by rw [← HOE.out, h1]; rfl
        have h4 : ((x1, y1) : Int × Int) = (0, 0) := by rw [← HFP.out, h1]; rfl
        have h5 : j = 0 := by rw [← HJ.out, ← HRL.out, h1]; rfl
        cases h4
        subst h2 h5
        have q4 := fun w => eql_put 0 0 0 0 w
        clear h1 S1 s4 S0 s1 s3 p0 p1 f0 f1 B S
        go_wp2
        go_ret
        exact boolPost_mk rfl BB
      · obtain ⟨b, o, rfl, R⟩ := S1.2.resolve_left h0
        have h2 : oe = 0 := by
          rw [← HOE.out, popE, if_neg]; intro h; have := Hm.out; rw [h] at this; simp at this; omega
        have k0 := (R 0 (by rw [Hm.out]; omega)).1
        have k1 := (R 0 (by rw [Hm.out]; omega)).2
        have h4 : ps.getD 0 (0, 0) = (x1, y1) := HFP.out
        rw [h4, Nat.zero_mul, Nat.add_zero] at k0 k1
        dsimp only at k0 k1
        subst h2
        have q3 : ((m : Int) == 0) = false := by simp; omega
        have q4 := fun w => eql_put x1 y1 x1 y1 w
        have q5 : (x1 == x1 && y1 == y1) = true := by simp
        have hm1 : 0 < m := by omega
        have hm2 : (1 : Int) ≤ m := by omega
        clear h4 S0 s1 s3 p0 p1 f0 f1 B S
        go_wp2_with fail
        have hB0 : Below wc.heap.size wc wc.drew := (Below.refl _ _).drew
        have HS1 := Lib.hid S1
        have HS4 := Lib.hid s4
        have HBB := Lib.hid BB
        clear S1 s4 BB hB0 R
        go_region_with (first | (go_at_call 16; refine (refRest_any (some ⟨b, o, none⟩) m c ps _ (plD HS1.out) (by omega)).mono ?_; rintro e wx ⟨t, u, rfl, hct, st, hbx⟩; rw [HRL.out] at st ⊢; rw [HJ.out] at st ⊢; have HBX := Lib.hid hbx; have HST := Lib.hid st; clear hbx st hct) | (go_at_call 14; refine (refSameP_any r t j f j u rl rl _ (plB HBX.out (plD HS4.out)) HST.out.pl (by omega)).mono ?_; rintro e wy ⟨rfl, hby⟩; rw [samePB_refl]; have HBY := Lib.hid hby; clear hby))
        all_goals
          go_wp2
          go_ret
          exact boolPost_mk rfl (below_from (below_from HBB.out.drew HBX.out) HBY.out)
end Go.Proofs.Ytocblckhlpihhaa
