/- The walk of TsoMoves. -/
import Derived.Test.YtbcbagoogdfciaaAliveT
import Derived.Test.YtbcbagoogdfciaaRefY
import Derived.Test.YtbcbagoogdfciaaTsoH
namespace Go.Proofs.Ytbcbagoogdfciaa
open Go.ChangeShapes Go.WideShapes Go.ChangeAt Go.RowKit

theorem okL_len {α : Type} {e : Int} {l : List α} {k : Nat} (h : l.length ≤ k) : (okL e l).length ≤ k := by
  unfold okL; split
  · exact h
  · simp
theorem storeTW_len (ws : List Int) (D x v : Int) : (storeTW ws D x v).length = ws.length := by unfold storeTW; split <;> simp
theorem storeTB_len (D : Int) (bs : List (List (Int × Int))) (th x v : Int) : (storeTB D bs th x v).length = bs.length := by unfold storeTB; split <;> simp

set_option maxRecDepth 100000 in
set_option maxHeartbeats 8000000 in
theorem TsoMoves_walk (a a' q : Option Addr) (n c n' c' l d : Nat) (ws ts : List Int) (D : Int) (bs : List (List (Int × Int))) (th x v : Int) (w : World) (S1 : Sl w a (min n 170) ws) (S2 : Sl w a' (min n' 170) ts) (h1 : n ≤ c) (h2 : n' ≤ c') (h3 : c ≤ 9223372036854775807) (h4 : c' ≤ 9223372036854775807) (hld : l ≤ d) (hd : d ≤ 9223372036854775807) (S : Bl w q l bs)
    (hx : (Lit.int .i64 x).wf = true) :
    Calls Try.prog 4 #[.slice a n c, .slice a' n' c', .int .i64 D, .slice q l d, .int .i64 th, .int .i64 x, .int .i64 v] w (BoolPost true w) := by
  have HX := Lib.hid hx
  clear hx
  go_enter Try.func4, Try.ntmps4
  go_wp2_with fail
  refine (machine_any a a' q n c n' c' l d D bs _ h1 h2 h3 h4 hld hd S).mono ?_
  rintro e w1 ⟨q1, d1, rfl, B, hb1⟩
  have hN : min n 170 ≤ 170 := by omega
  have hN' : min n' 170 ≤ 170 := by omega
  have hL : min l 10 ≤ 10 := by omega
  generalize min n 170 = N at S1 hN ⊢
  generalize min n' 170 = N' at S2 hN' ⊢
  generalize min l 10 = L at B hL ⊢
  generalize cutB bs = cs at B ⊢
  have HW1 := Lib.hid S1.1
  have HW2 := Lib.hid S2.1
  have HW3 := Lib.hid B.1
  have U1 := slA (Obj.cells #[.slice a N c, .slice a' N' c', .int .i64 D, .slice q1 L d1] 27) (slB hb1 S1)
  have U2 := slA (Obj.cells #[.slice a N c, .slice a' N' c', .int .i64 D, .slice q1 L d1] 27) (slB hb1 S2)
  have U := blA (Obj.cells #[.slice a N c, .slice a' N' c', .int .i64 D, .slice q1 L d1] 27) B
  have X := var4_new (w := w1) (x := .slice a N c) (y := .slice a' N' c') (z := .int .i64 D) (u := .slice q1 L d1) (t := 27) w1.heap.size rfl
  have HB1 := Lib.hid (hb1.alloc hb1.size (Obj.cells #[.slice a N c, .slice a' N' c', .int .i64 D, .slice q1 L d1] 27))
  obtain ⟨E1, hE1⟩ : ∃ z, loadTE ws ts D cs th x = z := ⟨_, rfl⟩
  obtain ⟨V, hV⟩ : ∃ z, loadT ws ts D cs th x = z := ⟨_, rfl⟩
  obtain ⟨E2, hE2⟩ : ∃ z, storeTE ws ts D cs th x = z := ⟨_, rfl⟩
  obtain ⟨E3, hE3⟩ : ∃ z, flushTE ws ts D cs th = z := ⟨_, rfl⟩
  obtain ⟨D2, hD2⟩ : ∃ z, okZ E2 D = z := ⟨_, rfl⟩
  obtain ⟨D3, hD3⟩ : ∃ z, okZ E3 D = z := ⟨_, rfl⟩
  have HE1 := Lib.hid hE1
  have HV := Lib.hid hV
  have HE2 := Lib.hid hE2
  have HE3 := Lib.hid hE3
  have HD2 := Lib.hid hD2
  have HD3 := Lib.hid hD3
  clear hb1 S1 S2 B S h1 h2 h3 h4 hld hd hE1 hV hE2 hE3 hD2 hD3
  go_wp2_with fail
  refine (tsoLoad_any a a' q1 N c N' c' L d1 ws ts D cs th x _ U1 U2 U HX.out).mono ?_
  rw [HE1.out, HV.out]
  rintro e w2 ⟨rfl, hb2⟩
  replace U1 := slB hb2 U1
  replace U2 := slB hb2 U2
  replace U := blB hb2 U
  replace X := var4_B hb2 X
  have HB2 := Lib.hid (below_from HB1.out hb2)
  obtain ⟨⟨x0, x1, x2, x3⟩, -⟩ := id X
  clear hb2 HB1
  go_wp2_with fail
  refine (tsoStore_any a a' q1 N c N' c' L d1 ws ts D cs th x v _ U1 U2 U HX.out).mono ?_
  rw [HE2.out, HD2.out]
  rintro e w3 ⟨a2, n2, c2, a3, n3, c3, q2, l2, d2, rfl, v1, v2, v3, hb3⟩
  have bA : Below w2.heap.size w2 (w3.alloc (Obj.cells #[.slice a2 n2 c2, .slice a3 n3 c3, .int .i64 D2, .slice q2 l2 d2] 27)) := hb3.alloc hb3.size _
  have Y := var4_new (w := w3) (x := .slice a2 n2 c2) (y := .slice a3 n3 c3) (z := .int .i64 D2) (u := .slice q2 l2 d2) (t := 27) w3.heap.size rfl
  have V1 := slA (Obj.cells #[.slice a2 n2 c2, .slice a3 n3 c3, .int .i64 D2, .slice q2 l2 d2] 27) v1.sl
  have V2 := slA (Obj.cells #[.slice a2 n2 c2, .slice a3 n3 c3, .int .i64 D2, .slice q2 l2 d2] 27) v2.sl
  have V3 := blA (Obj.cells #[.slice a2 n2 c2, .slice a3 n3 c3, .int .i64 D2, .slice q2 l2 d2] 27) v3.bl
  replace U1 := slB bA U1
  replace U2 := slB bA U2
  replace U := blB bA U
  replace X := var4_B bA X
  have HB3 := Lib.hid (below_from HB2.out bA)
  clear hb3 bA v1 v2 v3 HB2 x0 x1 x2 x3
  obtain ⟨⟨x0, x1, x2, x3⟩, -⟩ := id X
  go_wp2_with fail
  refine (tsoFlush_any a a' q1 N c N' c' L d1 ws ts D cs th _ U1 U2 U).mono ?_
  rw [HE3.out, HD3.out]
  rintro e w4 ⟨a4, n4, c4, a5, n5, c5, q4, l4, d4, rfl, z1, z2, z3, hb4⟩
  have bA : Below (w3.alloc (Obj.cells #[.slice a2 n2 c2, .slice a3 n3 c3, .int .i64 D2, .slice q2 l2 d2] 27)).heap.size (w3.alloc (Obj.cells #[.slice a2 n2 c2, .slice a3 n3 c3, .int .i64 D2, .slice q2 l2 d2] 27)) (w4.alloc (Obj.cells #[.slice a4 n4 c4, .slice a5 n5 c5, .int .i64 D3, .slice q4 l4 d4] 27)) := hb4.alloc hb4.size _
  have Z := var4_new (w := w4) (x := .slice a4 n4 c4) (y := .slice a5 n5 c5) (z := .int .i64 D3) (u := .slice q4 l4 d4) (t := 27) w4.heap.size rfl
  have Z1 := slA (Obj.cells #[.slice a4 n4 c4, .slice a5 n5 c5, .int .i64 D3, .slice q4 l4 d4] 27) z1.sl
  have Z2 := slA (Obj.cells #[.slice a4 n4 c4, .slice a5 n5 c5, .int .i64 D3, .slice q4 l4 d4] 27) z2.sl
  have Z3 := blA (Obj.cells #[.slice a4 n4 c4, .slice a5 n5 c5, .int .i64 D3, .slice q4 l4 d4] 27) z3.bl
  replace U1 := slB bA U1
  replace U2 := slB bA U2
  replace U := blB bA U
  replace X := var4_B bA X
  replace V1 := slB bA V1
  replace V2 := slB bA V2
  replace V3 := blB bA V3
  replace Y := var4_B bA Y
  have HB4 := Lib.hid (below_from HB3.out bA)
  clear hb4 bA z1 z2 z3 HB3 x0 x1 x2 x3
  obtain ⟨⟨x0, x1, x2, x3⟩, -⟩ := id X
  go_wp2_with fail
  refine (refRightT_any a a' q1 N c N' c' L d1 ws ts D cs _ U1 U2 U).mono ?_
  rintro e w5 ⟨rfl, hb5⟩
  replace U1 := slB hb5 U1
  replace U2 := slB hb5 U2
  replace U := blB hb5 U
  replace X := var4_B hb5 X
  replace V1 := slB hb5 V1
  replace V2 := slB hb5 V2
  replace V3 := blB hb5 V3
  replace Y := var4_B hb5 Y
  replace Z1 := slB hb5 Z1
  replace Z2 := slB hb5 Z2
  replace Z3 := blB hb5 Z3
  replace Z := var4_B hb5 Z
  have HB5 := Lib.hid (below_from HB4.out hb5)
  clear hb5 HB4 x0 x1 x2 x3
  obtain ⟨⟨x0, x1, x2, x3⟩, -⟩ := id X
  have q1' : (E1 == E1) = true := by simp
  have q2' : (E2 == E2) = true := by simp
  have q3' : (E3 == E3) = true := by simp
  have q4' : (V == V) = true := by simp
  by_cases hh : hasB ws ts D cs th = true
  · obtain ⟨hm, t0, t1⟩ := hasB_parts hh
    rw [hm]
    have i1 : ¬ th < 0 := by omega
    have i2 : ¬ (L : Int) ≤ th := by rw [← HW3.out]; omega
    have i2' : th < L := by omega
    have HH := Lib.hid hh
    clear hh hm t1
    go_wp2_with fail
    refine (refLoadT_any a a' q1 N c N' c' L d1 ws ts D cs th x _ U1 U2 U HH.out).mono ?_
    rw [HE1.out, HV.out]
    rintro e w6 ⟨rfl, hb6⟩
    replace U1 := slB hb6 U1
    replace U2 := slB hb6 U2
    replace U := blB hb6 U
    replace V1 := slB hb6 V1
    replace V2 := slB hb6 V2
    replace V3 := blB hb6 V3
    replace Z1 := slB hb6 Z1
    replace Z2 := slB hb6 Z2
    replace Z3 := blB hb6 Z3
    replace X := var4_B hb6 X
    replace Y := var4_B hb6 Y
    replace Z := var4_B hb6 Z
    have HB6 := Lib.hid (below_from HB5.out hb6)
    clear hb6 HB5 x0 x1 x2 x3
    obtain ⟨⟨x0, x1, x2, x3⟩, -⟩ := id X
    go_wp2_with fail
    refine (refStoreT_any a a' q1 N c N' c' L d1 ws ts D cs th x v _ U1 U2 U HH.out).mono ?_
    rw [HE2.out, HD2.out]
    rintro e w7 ⟨a6, n6, c6, a7, n7, c7, q6, l6, d6, rfl, r1, r2, r3, hb7⟩
    have bA : Below w6.heap.size w6 (w7.alloc (Obj.cells #[.slice a6 n6 c6, .slice a7 n7 c7, .int .i64 D2, .slice q6 l6 d6] 27)) := hb7.alloc hb7.size _
    have A := var4_new (w := w7) (x := .slice a6 n6 c6) (y := .slice a7 n7 c7) (z := .int .i64 D2) (u := .slice q6 l6 d6) (t := 27) w7.heap.size rfl
    have R1 := slA (Obj.cells #[.slice a6 n6 c6, .slice a7 n7 c7, .int .i64 D2, .slice q6 l6 d6] 27) r1
    have R2 := slA (Obj.cells #[.slice a6 n6 c6, .slice a7 n7 c7, .int .i64 D2, .slice q6 l6 d6] 27) r2
    have R3 := blA (Obj.cells #[.slice a6 n6 c6, .slice a7 n7 c7, .int .i64 D2, .slice q6 l6 d6] 27) r3
    replace U1 := slB bA U1
    replace U2 := slB bA U2
    replace U := blB bA U
    replace V1 := slB bA V1
    replace V2 := slB bA V2
    replace V3 := blB bA V3
    replace Z1 := slB bA Z1
    replace Z2 := slB bA Z2
    replace Z3 := blB bA Z3
    replace X := var4_B bA X
    replace Y := var4_B bA Y
    replace Z := var4_B bA Z
    have HB7 := Lib.hid (below_from HB6.out bA)
    clear hb7 bA HB6 x0 x1 x2 x3 r1 r2 r3
    obtain ⟨⟨x0, x1, x2, x3⟩, -⟩ := id X
    go_wp2_with fail
    refine (refFlushT_any a a' q1 N c N' c' L d1 ws ts D cs th _ U1 U2 U HH.out).mono ?_
    rw [HE3.out, HD3.out]
    rintro e w8 ⟨a8, n8, c8, a9, n9, c9, q8, l8, d8, rfl, s1, s2, s3, hb8⟩
    have bA : Below (w7.alloc (Obj.cells #[.slice a6 n6 c6, .slice a7 n7 c7, .int .i64 D2, .slice q6 l6 d6] 27)).heap.size (w7.alloc (Obj.cells #[.slice a6 n6 c6, .slice a7 n7 c7, .int .i64 D2, .slice q6 l6 d6] 27)) (w8.alloc (Obj.cells #[.slice a8 n8 c8, .slice a9 n9 c9, .int .i64 D3, .slice q8 l8 d8] 27)) := hb8.alloc hb8.size _
    have C := var4_new (w := w8) (x := .slice a8 n8 c8) (y := .slice a9 n9 c9) (z := .int .i64 D3) (u := .slice q8 l8 d8) (t := 27) w8.heap.size rfl
    have T1 := slA (Obj.cells #[.slice a8 n8 c8, .slice a9 n9 c9, .int .i64 D3, .slice q8 l8 d8] 27) s1
    have T2 := slA (Obj.cells #[.slice a8 n8 c8, .slice a9 n9 c9, .int .i64 D3, .slice q8 l8 d8] 27) s2
    have T3 := blA (Obj.cells #[.slice a8 n8 c8, .slice a9 n9 c9, .int .i64 D3, .slice q8 l8 d8] 27) s3
    replace V1 := slB bA V1
    replace V2 := slB bA V2
    replace V3 := blB bA V3
    replace Z1 := slB bA Z1
    replace Z2 := slB bA Z2
    replace Z3 := blB bA Z3
    replace Y := var4_B bA Y
    replace Z := var4_B bA Z
    replace R1 := slB bA R1
    replace R2 := slB bA R2
    replace R3 := blB bA R3
    replace A := var4_B bA A
    have HB8 := Lib.hid (below_from HB7.out bA)
    clear hb8 bA HB7 x0 x1 x2 x3 s1 s2 s3 U1 U2 U X
    go_wp2_with fail
    refine (alive3_any _).mono ?_
    rintro e w9 ⟨rfl, hb9⟩
    replace V1 := slB hb9 V1
    replace V2 := slB hb9 V2
    replace V3 := blB hb9 V3
    replace Z1 := slB hb9 Z1
    replace Z2 := slB hb9 Z2
    replace Z3 := blB hb9 Z3
    replace Y := var4_B hb9 Y
    replace Z := var4_B hb9 Z
    replace R1 := slB hb9 R1
    replace R2 := slB hb9 R2
    replace R3 := blB hb9 R3
    replace A := var4_B hb9 A
    replace T1 := slB hb9 T1
    replace T2 := slB hb9 T2
    replace T3 := blB hb9 T3
    replace C := var4_B hb9 C
    have HB9 := Lib.hid (below_from HB8.out hb9)
    clear hb9 HB8
    have k1 : n2 ≤ 1000 := by rw [← V1.1]; exact okL_len (by rw [storeTW_len, HW1.out]; omega)
    have k2 : n3 ≤ 1000 := by rw [← V2.1]; exact okL_len (by rw [HW2.out]; omega)
    have k3 : l2 ≤ 1000 := by rw [← V3.1]; exact okL_len (by rw [storeTB_len, HW3.out]; omega)
    have k4 : n4 ≤ 1000 := by rw [← Z1.1]; exact okL_len (by rw [flushTW, List.length_set, HW1.out]; omega)
    have k5 : n5 ≤ 1000 := by rw [← Z2.1]; exact okL_len (by rw [HW2.out]; omega)
    have k6 : l4 ≤ 1000 := by rw [← Z3.1]; exact okL_len (by rw [flushTB, List.length_set, HW3.out]; omega)
    obtain ⟨⟨y0, y1, y2, y3⟩, -⟩ := Y
    obtain ⟨⟨z0, z1, z2, z3⟩, -⟩ := Z
    obtain ⟨⟨b0, b1, b2, b3⟩, -⟩ := A
    obtain ⟨⟨g0, g1, g2, g3⟩, -⟩ := C
    go_wp2_with fail
    have h0 := refSameT_any a2 a3 q2 a6 a7 q6 n2 c2 n3 c3 l2 d2 n6 c6 n7 c7 l6 d6 _ _ D2 _ _ V1 V2 V3 R1 R2 R3 k1 k2 k3
    with_reducible refine h0.mono ?_
    clear h0
    rintro e wa ⟨rfl, hba⟩
    replace Z1 := slB hba Z1
    replace Z2 := slB hba Z2
    replace Z3 := blB hba Z3
    replace T1 := slB hba T1
    replace T2 := slB hba T2
    replace T3 := blB hba T3
    replace z0 := cellB hba z0
    replace z1 := cellB hba z1
    replace z2 := cellB hba z2
    replace z3 := cellB hba z3
    replace g0 := cellB hba g0
    replace g1 := cellB hba g1
    replace g2 := cellB hba g2
    replace g3 := cellB hba g3
    have HBa := Lib.hid (below_from HB9.out hba)
    clear hba HB9 y0 y1 y2 y3 b0 b1 b2 b3 V1 V2 V3 R1 R2 R3 k1 k2 k3
    go_wp2_with fail
    have h0 := refSameT_any a4 a5 q4 a8 a9 q8 n4 c4 n5 c5 l4 d4 n8 c8 n9 c9 l8 d8 _ _ D3 _ _ Z1 Z2 Z3 T1 T2 T3 k4 k5 k6
    with_reducible refine h0.mono ?_
    clear h0
    rintro e wb ⟨rfl, hbb⟩
    have HBb := Lib.hid (below_from HBa.out hbb)
    clear hbb HBa z0 z1 z2 z3 g0 g1 g2 g3 Z1 Z2 Z3 T1 T2 T3 k4 k5 k6
    go_wp2
    go_ret
    exact boolPost_mk rfl HBb.out
  · have e1 : E1 = 1 := by rw [← HE1.out, loadTE, if_neg hh]
    have e2 : E2 = 1 := by rw [← HE2.out, storeTE, if_neg hh]
    have e3 : E3 = 1 := by rw [← HE3.out, flushTE, if_neg hh]
    have e4 : V = 0 := by rw [← HV.out, loadT, HE1.out, e1]; rfl
    subst e1 e2 e3 e4
    have e5 : D2 = 0 := by rw [← HD2.out]; rfl
    have e6 : D3 = 0 := by rw [← HD3.out]; rfl
    subst e5 e6
    rw [okL_neg (by decide)] at V1 V2 V3 Z1 Z2 Z3
    obtain rfl : n2 = 0 := by have := V1.1; simpa using this.symm
    obtain rfl : n3 = 0 := by have := V2.1; simpa using this.symm
    obtain rfl : l2 = 0 := by have := V3.1; simpa using this.symm
    obtain rfl : n4 = 0 := by have := Z1.1; simpa using this.symm
    obtain rfl : n5 = 0 := by have := Z2.1; simpa using this.symm
    obtain rfl : l4 = 0 := by have := Z3.1; simpa using this.symm
    have HL3 : Hid (thB cs th = decide (0 ≤ th ∧ th < L)) := by show thB cs th = _; rw [thB, HW3.out]
    have hcase : mayT ws ts D cs = false ∨ (mayT ws ts D cs = true ∧ th < 0) ∨ (mayT ws ts D cs = true ∧ 0 ≤ th ∧ (L : Int) ≤ th) := by
      cases hm : mayT ws ts D cs with
      | false => exact .inl rfl
      | true =>
        right
        by_cases u1 : th < 0
        · exact .inl ⟨rfl, u1⟩
        · by_cases u2 : (L : Int) ≤ th
          · exact .inr ⟨rfl, by omega, u2⟩
          · exact absurd (show hasB ws ts D cs th = true by rw [hasB, hm, HL3.out]; simp; omega) hh
    clear hh U1 U2 U X HE1 HE2 HE3 HV HD2 HD3 q1' q2' q3' q4'
    obtain ⟨⟨y0, y1, y2, y3⟩, -⟩ := id Y
    obtain ⟨⟨z0, z1, z2, z3⟩, -⟩ := id Z
    rcases hcase with hm | ⟨hm, ht⟩ | ⟨hm, ht, ht2⟩
    all_goals
      rw [hm]
      clear hm
      go_wp2_with fail
      refine (alive3_any _).mono ?_
      rintro e w9 ⟨rfl, hb9⟩
      replace V1 := slB hb9 V1
      replace V2 := slB hb9 V2
      replace V3 := blB hb9 V3
      replace Z1 := slB hb9 Z1
      replace Z2 := slB hb9 Z2
      replace Z3 := blB hb9 Z3
      replace y0 := cellB hb9 y0
      replace y1 := cellB hb9 y1
      replace y2 := cellB hb9 y2
      replace y3 := cellB hb9 y3
      replace z0 := cellB hb9 z0
      replace z1 := cellB hb9 z1
      replace z2 := cellB hb9 z2
      replace z3 := cellB hb9 z3
      have HB9 := Lib.hid (below_from HB5.out hb9)
      clear hb9 x0 x1 x2 x3
      go_wp2_with fail
      have h0 := refSameT_any a2 a3 q2 none none none 0 c2 0 c3 0 d2 0 0 0 0 0 0 [] [] 0 [] _ V1 V2 V3 (sl_nil _) (sl_nil _) (bl_nil _) (Nat.zero_le _) (Nat.zero_le _) (Nat.zero_le _)
      with_reducible refine h0.mono ?_
      clear h0
      rintro e wa ⟨rfl, hba⟩
      replace Z1 := slB hba Z1
      replace Z2 := slB hba Z2
      replace Z3 := blB hba Z3
      replace z0 := cellB hba z0
      replace z1 := cellB hba z1
      replace z2 := cellB hba z2
      replace z3 := cellB hba z3
      have HBa := Lib.hid (below_from HB9.out hba)
      clear hba
      go_wp2_with fail
      have h0 := refSameT_any a4 a5 q4 none none none 0 c4 0 c5 0 d4 0 0 0 0 0 0 [] [] 0 [] _ Z1 Z2 Z3 (sl_nil _) (sl_nil _) (bl_nil _) (Nat.zero_le _) (Nat.zero_le _) (Nat.zero_le _)
      with_reducible refine h0.mono ?_
      clear h0
      rintro e wb ⟨rfl, hbb⟩
      have HBb := Lib.hid (below_from HBa.out hbb)
      clear hbb
      go_wp2
      go_ret
      exact boolPost_mk rfl HBb.out
end Go.Proofs.Ytbcbagoogdfciaa
