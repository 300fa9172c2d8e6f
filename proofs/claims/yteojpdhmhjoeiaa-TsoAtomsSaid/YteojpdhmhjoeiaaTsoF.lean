/- The contract of package tso's Load. -/
import Derived.Test.YteojpdhmhjoeiaaTsoE
namespace Go.Proofs.Yteojpdhmhjoeiaa
open Go.ChangeShapes Go.WideShapes Go.ChangeAt Go.RowKit

def LoadPost (v x : Int) (w : World) (e : Ending) (w' : World) : Prop := e = .returned (.tuple #[.int .i64 v, .int .i64 x]) ∧ Below w.heap.size w w'
theorem loadPost_mk {v x z y : Int} {w w' : World} (h1 : v = z) (h2 : x = y) (hb : Below w.heap.size w w') : LoadPost v x w (.returned (.tuple #[.int .i64 z, .int .i64 y])) w' := by subst h1; subst h2; exact ⟨rfl, hb⟩

set_option maxHeartbeats 4000000 in
theorem tsoLoad_any (a a' q : Option Addr) (n c n' c' l d : Nat) (ws ts : List Int) (D : Int) (bs : List (List (Int × Int))) (th x : Int) (w : World) (S1 : Sl w a n ws) (S2 : Sl w a' n' ts) (S : Bl w q l bs) (hx : (Lit.int .i64 x).wf = true) :
    Calls Try.prog 28 #[.agg #[.slice a n c, .slice a' n' c', .int .i64 D, .slice q l d], .int .i64 th, .int .i64 x] w (LoadPost (loadT ws ts D bs th x) (loadTE ws ts D bs th x) w) := by
  have HX := Lib.hid hx
  have Hl := Lib.hid S.1
  clear hx
  cases hh : hasB ws ts D bs th with
  | false =>
    have HE := Lib.hid (show loadTE ws ts D bs th x = 1 by rw [loadTE, if_neg (by rw [hh]; decide)])
    have HV := Lib.hid (show loadT ws ts D bs th x = 0 by rw [loadT, HE.out, if_neg (by decide)])
    rw [HE.out, HV.out]
    have HH := Lib.hid (show (mayT ws ts D bs && thB bs th) = false from hh)
    clear hh HE HV
    go_enter Try.func28, Try.ntmps28
    go_wp2_with fail
    refine (tsoHas_any a a' q n c n' c' l d ws ts D th bs _ (slA _ (slA _ S1)) (slA _ (slA _ S2)) (blA _ (blA _ S))).mono ?_
    rintro e w1 ⟨rfl, hb⟩
    rw [HH.out]
    have HB := Lib.hid (below_from (by go_grown) hb : Below w.heap.size w w1)
    clear hb
    go_wp2
    go_ret2
    exact loadPost_mk rfl rfl HB.out
  | true =>
    obtain ⟨hm, h0, h1⟩ := hasB_parts hh
    obtain ⟨j, rfl⟩ := Int.eq_ofNat_of_zero_le h0
    have hjl : j < l := by rw [← Hl.out]; omega
    have i1 : (0 : Int) ≤ j := by omega
    have i2 : (j : Int) < l := by omega
    have HH := Lib.hid (show (mayT ws ts D bs && thB bs j) = true from hh)
    have HE := Lib.hid (show loadTE ws ts D bs j x = usableZ ws ts x by rw [loadTE, if_pos hh])
    have HV := Lib.hid (show loadT ws ts D bs j x = if usableZ ws ts x = 0 then (newest (bs.getD j []) x).getD (loadZ ws ts x) else 0 by rw [loadT, HE.out, bufOf, Int.toNat_natCast])
    have H8 : (bs.getD j []).length ≤ 8 := by have := (mayT_parts hm).2.2.2 j (by omega); have := (mayT_parts hm).2.2.1; omega
    have HS8 := Lib.hid H8
    clear hh hm h0 h1 H8
    go_enter Try.func28, Try.ntmps28
    go_wp2_with fail
    refine (tsoHas_any a a' q n c n' c' l d ws ts D j bs _ (slA _ (slA _ S1)) (slA _ (slA _ S2)) (blA _ (blA _ S))).mono ?_
    rintro e w1 ⟨rfl, hb⟩
    rw [HH.out]
    have hb1 : Below w.heap.size w w1 := below_from (by go_grown) hb
    have k0 : w1.cell? ⟨w.heap.size + 1, 0, none⟩ = some (.slice a n c) := cellB hb (by simp)
    have k1 : w1.cell? ⟨w.heap.size + 1, 1, none⟩ = some (.slice a' n' c') := cellB hb (by simp)
    have k3 : w1.cell? ⟨w.heap.size + 1, 3, none⟩ = some (.slice q l d) := cellB hb (by simp)
    have T1 := slB hb1 S1
    have T2 := slB hb1 S2
    have T := blB hb1 S
    have HB := Lib.hid hb1
    clear hb hb1 S1 S2 S
    go_wp2_with fail
    refine (Load_any a a' n c n' c' ws ts x _ T1 T2 HX.out).mono ?_
    rintro e w2 ⟨rfl, hb⟩
    obtain ⟨ev, hev⟩ : ∃ z, usableZ ws ts x = z := ⟨_, rfl⟩
    obtain ⟨lv, hlv⟩ : ∃ z, loadZ ws ts x = z := ⟨_, rfl⟩
    have HEV := Lib.hid hev
    have HLV := Lib.hid hlv
    rw [hev, hlv]
    have HB2 := Lib.hid (below_from HB.out hb)
    by_cases he : ev = 0
    · subst he
      replace k3 := cellB hb k3
      replace T := blB hb T
      obtain ⟨b, o, y, yc, rfl, g0, hcap, hp⟩ := bl_at T hjl
      obtain ⟨ps, hps⟩ : ∃ ps, bs.getD j [] = ps := ⟨_, rfl⟩
      have h8 := HS8.out
      rw [hps] at g0 hp hcap h8
      have HPS := Lib.hid hps
      obtain ⟨m, hm⟩ : ∃ m, ps.length = m := ⟨_, rfl⟩
      rw [hm] at g0 hp hcap h8
      clear hb hlv hev hps hm hcap k0 k1 T1 T2 T HB HS8
      go_wp2_with fail
      refine (Newest_any y m yc ps x _ hp (by omega)).mono ?_
      rintro e w3 ⟨rfl, hb⟩
      have HB3 := Lib.hid (below_from HB2.out hb)
      cases hnw : newest ps x with
      | some v =>
        have HN := Lib.hid (And.intro (show newestV ps x = v by rw [newestV, hnw]; rfl) (show newestB ps x = true by rw [newestB, hnw]; rfl))
        have HW := Lib.hid hnw
        rw [HN.out.1, HN.out.2]
        clear hnw hb hp
        go_wp2
        go_ret2
        exact loadPost_mk (by rw [HV.out, HEV.out, if_pos rfl, HPS.out, HW.out]; rfl) (by rw [HE.out, HEV.out]) HB3.out
      | none =>
        have HN := Lib.hid (And.intro (show newestV ps x = 0 by rw [newestV, hnw]; rfl) (show newestB ps x = false by rw [newestB, hnw]; rfl))
        have HW := Lib.hid hnw
        rw [HN.out.1, HN.out.2]
        clear hnw hb hp
        go_wp2
        go_ret2
        exact loadPost_mk (by rw [HV.out, HEV.out, if_pos rfl, HPS.out, HW.out, HLV.out]; rfl) (by rw [HE.out, HEV.out]) HB3.out
    · have q1 : (ev != 0) = true := by simpa using he
      have HEN := Lib.hid he
      clear hb hlv hev he k0 k1 k3 T1 T2 T HB HS8
      go_wp2
      go_ret2
      exact loadPost_mk (by rw [HV.out, HEV.out, if_neg HEN.out]) (by rw [HE.out, HEV.out]) HB2.out
end Go.Proofs.Yteojpdhmhjoeiaa
