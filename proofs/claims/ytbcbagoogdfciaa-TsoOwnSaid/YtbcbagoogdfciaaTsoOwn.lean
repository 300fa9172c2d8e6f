/- The walk of TsoOwn. -/
import Derived.Test.YtbcbagoogdfciaaAliveT
namespace Go.Proofs.Ytbcbagoogdfciaa
open Go.ChangeShapes Go.WideShapes Go.ChangeAt Go.RowKit

set_option maxRecDepth 100000 in
set_option maxHeartbeats 8000000 in
theorem TsoOwn_walk (a a' q : Option Addr) (n c n' c' l d : Nat) (ws ts : List Int) (D : Int) (bs : List (List (Int × Int))) (th x v o k : Int) (w : World) (S1 : Sl w a (min n 170) ws) (S2 : Sl w a' (min n' 170) ts) (h1 : n ≤ c) (h2 : n' ≤ c') (h3 : c ≤ 9223372036854775807) (h4 : c' ≤ 9223372036854775807) (hld : l ≤ d) (hd : d ≤ 9223372036854775807) (S : Bl w q l bs)
    (hx : (Lit.int .i64 x).wf = true) (hk : (Lit.int .i64 k).wf = true) :
    Calls Try.prog 6 #[.slice a n c, .slice a' n' c', .int .i64 D, .slice q l d, .int .i64 th, .int .i64 x, .int .i64 v, .int .i64 o, .int .i64 k] w (BoolPost true w) := by
  have HX := Lib.hid hx
  have HK := Lib.hid hk
  clear hx hk
  go_enter Try.func6, Try.ntmps6
  go_wp2_with fail
  refine (machine_any a a' q n c n' c' l d D bs _ h1 h2 h3 h4 hld hd S).mono ?_
  rintro e w1 ⟨q1, d1, rfl, B, hb1⟩
  generalize min n 170 = N at S1 ⊢
  generalize min n' 170 = N' at S2 ⊢
  generalize min l 10 = L at B ⊢
  generalize cutB bs = cs at B ⊢
  have U1 := slA (Obj.cells #[.slice a N c, .slice a' N' c', .int .i64 D, .slice q1 L d1] 27) (slB hb1 S1)
  have U2 := slA (Obj.cells #[.slice a N c, .slice a' N' c', .int .i64 D, .slice q1 L d1] 27) (slB hb1 S2)
  have U := blA (Obj.cells #[.slice a N c, .slice a' N' c', .int .i64 D, .slice q1 L d1] 27) B
  have X := var4_new (w := w1) (x := .slice a N c) (y := .slice a' N' c') (z := .int .i64 D) (u := .slice q1 L d1) (t := 27) w1.heap.size rfl
  have HB1 := Lib.hid (hb1.alloc hb1.size (Obj.cells #[.slice a N c, .slice a' N' c', .int .i64 D, .slice q1 L d1] 27))
  clear hb1 S1 S2 B S h1 h2 h3 h4 hld hd
  go_wp2_with fail
  refine (tsoStore_any a a' q1 N c N' c' L d1 ws ts D cs th x v _ U1 U2 U HX.out).mono ?_
  rintro e w2 ⟨a2, n2, c2, a3, n3, c3, q2, l2, d2, rfl, v1, v2, v3, hb2⟩
  obtain ⟨E, hE⟩ : ∃ E, storeTE ws ts D cs th x = E := ⟨_, rfl⟩
  have HE := Lib.hid hE
  rw [hE] at v1 v2 v3 ⊢
  replace U1 := slA (Obj.cells #[.slice a2 n2 c2, .slice a3 n3 c3, .int .i64 (okZ E D), .slice q2 l2 d2] 27) (slB hb2 U1)
  replace U2 := slA (Obj.cells #[.slice a2 n2 c2, .slice a3 n3 c3, .int .i64 (okZ E D), .slice q2 l2 d2] 27) (slB hb2 U2)
  replace U := blA (Obj.cells #[.slice a2 n2 c2, .slice a3 n3 c3, .int .i64 (okZ E D), .slice q2 l2 d2] 27) (blB hb2 U)
  replace X := var4_A (Obj.cells #[.slice a2 n2 c2, .slice a3 n3 c3, .int .i64 (okZ E D), .slice q2 l2 d2] 27) (var4_B hb2 X)
  have Y := var4_new (w := w2) (x := .slice a2 n2 c2) (y := .slice a3 n3 c3) (z := .int .i64 (okZ E D)) (u := .slice q2 l2 d2) (t := 27) w2.heap.size rfl
  have V1 := slA (Obj.cells #[.slice a2 n2 c2, .slice a3 n3 c3, .int .i64 (okZ E D), .slice q2 l2 d2] 27) v1.sl
  have V2 := slA (Obj.cells #[.slice a2 n2 c2, .slice a3 n3 c3, .int .i64 (okZ E D), .slice q2 l2 d2] 27) v2.sl
  have V := blA (Obj.cells #[.slice a2 n2 c2, .slice a3 n3 c3, .int .i64 (okZ E D), .slice q2 l2 d2] 27) v3.bl
  have HB2 := Lib.hid ((below_from HB1.out hb2).alloc (below_from HB1.out hb2).size (Obj.cells #[.slice a2 n2 c2, .slice a3 n3 c3, .int .i64 (okZ E D), .slice q2 l2 d2] 27))
  clear hb2 v1 v2 v3 hE HB1
  by_cases he : E = 0
  · subst he
    rw [okL_pos rfl] at V1 V2 V
    rw [okZ_pos rfl] at *
    have HO := Lib.hid (store_own (v := v) HE.out)
    have HA := Lib.hid (store_after (v := v) HE.out o k)
    obtain ⟨⟨x0, x1, x2, x3⟩, -⟩ := X
    obtain ⟨⟨y0, y1, y2, y3⟩, -⟩ := Y
    go_wp2_with fail
    refine (tsoLoad_any a2 a3 q2 n2 c2 n3 c3 l2 d2 (storeTW ws D x v) ts D (storeTB D cs th x v) th x _ V1 V2 V HX.out).mono ?_
    rintro e w3 ⟨rfl, hb3⟩
    rw [HO.out.1, HO.out.2]
    replace U1 := slB hb3 U1
    replace U2 := slB hb3 U2
    replace U := blB hb3 U
    replace V1 := slB hb3 V1
    replace V2 := slB hb3 V2
    replace V := blB hb3 V
    replace x0 := cellB hb3 x0
    replace x1 := cellB hb3 x1
    replace x2 := cellB hb3 x2
    replace x3 := cellB hb3 x3
    replace y0 := cellB hb3 y0
    replace y1 := cellB hb3 y1
    replace y2 := cellB hb3 y2
    replace y3 := cellB hb3 y3
    have HB3 := Lib.hid (below_from HB2.out hb3)
    have qv : (v != v) = false := by simp
    clear hb3
    go_wp2_with fail
    refine (alive3_any _).mono ?_
    rintro e w4 ⟨rfl, hb4⟩
    replace U1 := slB hb4 U1
    replace U2 := slB hb4 U2
    replace U := blB hb4 U
    replace V1 := slB hb4 V1
    replace V2 := slB hb4 V2
    replace V := blB hb4 V
    replace x0 := cellB hb4 x0
    replace x1 := cellB hb4 x1
    replace x2 := cellB hb4 x2
    replace x3 := cellB hb4 x3
    replace y0 := cellB hb4 y0
    replace y1 := cellB hb4 y1
    replace y2 := cellB hb4 y2
    replace y3 := cellB hb4 y3
    have HB4 := Lib.hid (below_from HB3.out hb4)
    clear hb4 HB3
    go_wp2_with fail
    refine (tsoLoad_any a a' q1 N c N' c' L d1 ws ts D cs o k _ U1 U2 U HK.out).mono ?_
    rintro e w5 ⟨rfl, hb5⟩
    obtain ⟨le, hle⟩ : ∃ z, loadTE ws ts D cs o k = z := ⟨_, rfl⟩
    obtain ⟨lv, hlv⟩ : ∃ z, loadT ws ts D cs o k = z := ⟨_, rfl⟩
    rw [hle, hlv] at HA
    rw [hle, hlv]
    replace V1 := slB hb5 V1
    replace V2 := slB hb5 V2
    replace V := blB hb5 V
    replace y0 := cellB hb5 y0
    replace y1 := cellB hb5 y1
    replace y2 := cellB hb5 y2
    replace y3 := cellB hb5 y3
    have HB5 := Lib.hid (below_from HB4.out hb5)
    have HLE := Lib.hid hle
    have HLV := Lib.hid hlv
    clear hb5 HB4 U1 U2 U x0 x1 x2 x3 hle hlv
    go_wp2_with fail
    refine (tsoLoad_any a2 a3 q2 n2 c2 n3 c3 l2 d2 (storeTW ws D x v) ts D (storeTB D cs th x v) o k _ V1 V2 V HK.out).mono ?_
    rintro e w6 ⟨rfl, hb6⟩
    have HB6 := Lib.hid (below_from HB5.out hb6)
    rw [HA.out.1, HA.out.2]
    clear hb6 HB5 V1 V2 V y0 y1 y2 y3
    by_cases hc : k = x ∧ (o = th ∨ D = 0)
    · have hif : (if le = 0 ∧ k = x ∧ (o = th ∨ D = 0) then v else lv) = if le = 0 then v else lv := by
        by_cases h : le = 0
        · rw [if_pos ⟨h, hc⟩, if_pos h]
        · rw [if_neg (fun hh => h hh.1), if_neg h]
      rw [hif]
      obtain ⟨rfl, hc2⟩ := hc
      clear hif
      have hle2 : le = 0 ∨ le = 1 := by
        obtain ⟨_, hu, _⟩ := store_zero HE.out
        have := HLE.out
        rw [loadTE] at this
        split at this
        · left; omega
        · right; omega
      have qk : (k == k) = true := by simp
      rcases hle2 with rfl | rfl
      · rw [if_pos rfl]
        have qv2 : (v == v) = true := by simp
        rcases hc2 with rfl | rfl
        · have qo : (o == o) = true := by simp
          go_wp2
          all_goals
            go_ret
            exact boolPost_mk (by first | rfl | simp) HB6.out
        · go_wp2
          all_goals
            go_ret
            exact boolPost_mk (by first | rfl | simp) HB6.out
      · rw [if_neg (by decide)]
        rcases hc2 with rfl | rfl
        · have qo : (o == o) = true := by simp
          go_wp2
          all_goals
            go_ret
            exact boolPost_mk (by first | rfl | simp) HB6.out
        · go_wp2
          all_goals
            go_ret
            exact boolPost_mk (by first | rfl | simp) HB6.out
    · rw [if_neg (fun h => hc h.2)]
      have qe : (le == le) = true := by simp
      have ql : (lv == lv) = true := by simp
      by_cases hk : k = x
      · have ho : o ≠ th ∧ D ≠ 0 := ⟨fun h => hc ⟨hk, .inl h⟩, fun h => hc ⟨hk, .inr h⟩⟩
        have q3 : (k == x) = true := by simpa using hk
        have q4 : (o == th) = false := by simpa using ho.1
        have q5 : (D == 0) = false := by simpa using ho.2
        clear hk ho hc
        go_wp2
        all_goals
          go_ret
          exact boolPost_mk (by first | rfl | simp) HB6.out
      · have q3 : (k == x) = false := by simpa using hk
        clear hk hc
        go_wp2
        all_goals
          go_ret
          exact boolPost_mk (by first | rfl | simp) HB6.out
  · have hl2 : l2 = 0 := by rw [okL_neg he] at V; exact V.1.symm
    subst hl2
    have q1 : (E != 0) = true := by simpa using he
    obtain ⟨⟨y0, y1, y2, y3⟩, -⟩ := Y
    clear he V V1 V2 U U1 U2 X
    go_wp2_with fail
    refine (alive3_any _).mono ?_
    rintro e w3 ⟨rfl, hb3⟩
    replace y3 := cellB hb3 y3
    have HB3 := Lib.hid (below_from HB2.out hb3)
    clear hb3
    go_wp2
    go_ret
    exact boolPost_mk rfl HB3.out
end Go.Proofs.Ytbcbagoogdfciaa
