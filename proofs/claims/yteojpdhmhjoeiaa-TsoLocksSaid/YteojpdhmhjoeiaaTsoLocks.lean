/- The walk of TsoLocks. -/
import Derived.Test.YteojpdhmhjoeiaaAliveT
import Derived.Test.YteojpdhmhjoeiaaRefZ
import Derived.Test.YteojpdhmhjoeiaaTsoK
namespace Go.Proofs.Yteojpdhmhjoeiaa
open Go.ChangeShapes Go.WideShapes Go.ChangeAt Go.RowKit

theorem okL_lenL {α : Type} {e : Int} {l : List α} {k : Nat} (h : l.length ≤ k) : (okL e l).length ≤ k := by
  unfold okL; split
  · exact h
  · simp

set_option maxRecDepth 100000 in
set_option maxHeartbeats 8000000 in
theorem TsoLocks_walk (a a' q : Option Addr) (n c n' c' l d : Nat) (ws ts : List Int) (D : Int) (bs : List (List (Int × Int))) (th k x y z : Int) (w : World) (S1 : Sl w a (min n 170) ws) (S2 : Sl w a' (min n' 170) ts) (h1 : n ≤ c) (h2 : n' ≤ c') (h3 : c ≤ 9223372036854775807) (h4 : c' ≤ 9223372036854775807) (hld : l ≤ d) (hd : d ≤ 9223372036854775807) (S : Bl w q l bs)
    (hx : (Lit.int .i64 x).wf = true) :
    Calls Try.prog 4 #[.slice a n c, .slice a' n' c', .int .i64 D, .slice q l d, .int .i64 th, .int .i64 k, .int .i64 x, .int .i64 y, .int .i64 z] w (BoolPost true w) := by
  have HX := Lib.hid hx
  clear hx
  go_enter Try.func4, Try.ntmps4
  go_wp2_with fail
  refine (machine_any a a' q n c n' c' l d D bs _ h1 h2 h3 h4 hld hd S).mono ?_
  rintro e w1 ⟨q1, d1, rfl, B, hb1⟩
  have hN : min n 170 ≤ 170 := by omega
  have hN' : min n' 170 ≤ 170 := by omega
  have hL : min l 10 ≤ 10 := by omega
  generalize min n 170 = N at S1 hN ⊢
  generalize min n' 170 = N' at S2 hN' ⊢
  generalize min l 10 = L at B hL ⊢
  generalize cutB bs = cs at B ⊢
  have HW1 := Lib.hid S1.1
  have HW2 := Lib.hid S2.1
  have HW3 := Lib.hid B.1
  have U1 := slA (Obj.cells #[.slice a N c, .slice a' N' c', .int .i64 D, .slice q1 L d1] 27) (slB hb1 S1)
  have U2 := slA (Obj.cells #[.slice a N c, .slice a' N' c', .int .i64 D, .slice q1 L d1] 27) (slB hb1 S2)
  have U := blA (Obj.cells #[.slice a N c, .slice a' N' c', .int .i64 D, .slice q1 L d1] 27) B
  have X := var4_new (w := w1) (x := .slice a N c) (y := .slice a' N' c') (z := .int .i64 D) (u := .slice q1 L d1) (t := 27) w1.heap.size rfl
  have HB1 := Lib.hid (hb1.alloc hb1.size (Obj.cells #[.slice a N c, .slice a' N' c', .int .i64 D, .slice q1 L d1] 27))
  obtain ⟨E1, hE1⟩ : ∃ z, lockTE ws ts D cs th k x = z := ⟨_, rfl⟩
  obtain ⟨D2, hD2⟩ : ∃ z, okZ E1 D = z := ⟨_, rfl⟩
  obtain ⟨V, hV⟩ : ∃ z, okZ E1 (loadZ ws ts x) = z := ⟨_, rfl⟩
  have HE1 := Lib.hid hE1
  have HD2 := Lib.hid hD2
  have HV := Lib.hid hV
  clear hb1 S1 S2 B S h1 h2 h3 h4 hld hd hE1 hV hD2
  go_wp2_with fail
  refine (tsoLocked_any a a' q1 N c N' c' L d1 ws ts D cs th k x y z _ U1 U2 U HX.out).mono ?_
  rw [HE1.out, HV.out, HD2.out]
  rintro e w3 ⟨a2, n2, c2, a3, n3, c3, q2, l2, d2, rfl, v1, v2, v3, hb3⟩
  have bA : Below (w1.alloc (Obj.cells #[.slice a N c, .slice a' N' c', .int .i64 D, .slice q1 L d1] 27)).heap.size (w1.alloc (Obj.cells #[.slice a N c, .slice a' N' c', .int .i64 D, .slice q1 L d1] 27)) (w3.alloc (Obj.cells #[.slice a2 n2 c2, .slice a3 n3 c3, .int .i64 D2, .slice q2 l2 d2] 27)) := hb3.alloc hb3.size _
  have Y := var4_new (w := w3) (x := .slice a2 n2 c2) (y := .slice a3 n3 c3) (z := .int .i64 D2) (u := .slice q2 l2 d2) (t := 27) w3.heap.size rfl
  have V1 := slA (Obj.cells #[.slice a2 n2 c2, .slice a3 n3 c3, .int .i64 D2, .slice q2 l2 d2] 27) v1
  have V2 := slA (Obj.cells #[.slice a2 n2 c2, .slice a3 n3 c3, .int .i64 D2, .slice q2 l2 d2] 27) v2
  have V3 := blA (Obj.cells #[.slice a2 n2 c2, .slice a3 n3 c3, .int .i64 D2, .slice q2 l2 d2] 27) v3
  replace U1 := slB bA U1
  replace U2 := slB bA U2
  replace U := blB bA U
  replace X := var4_B bA X
  have HB3 := Lib.hid (below_from HB1.out bA)
  clear hb3 bA v1 v2 v3 HB1
  obtain ⟨⟨x0, x1, x2, x3⟩, -⟩ := id X
  go_wp2_with fail
  refine (refRightT_any a a' q1 N c N' c' L d1 ws ts D cs _ U1 U2 U).mono ?_
  rintro e w5 ⟨rfl, hb5⟩
  replace U1 := slB hb5 U1
  replace U2 := slB hb5 U2
  replace U := blB hb5 U
  replace X := var4_B hb5 X
  replace V1 := slB hb5 V1
  replace V2 := slB hb5 V2
  replace V3 := blB hb5 V3
  replace Y := var4_B hb5 Y
  have HB5 := Lib.hid (below_from HB3.out hb5)
  clear hb5 HB3 x0 x1 x2 x3
  obtain ⟨⟨x0, x1, x2, x3⟩, -⟩ := id X
  have q1' : (E1 == E1) = true := by simp
  have q2' : (V == V) = true := by simp
  by_cases hh : hasB ws ts D cs th = true ∧ kindB k = true
  · obtain ⟨hh, hk⟩ := hh
    obtain ⟨hm, t0, t1⟩ := hasB_parts hh
    rw [hm]
    have hk2 : 0 ≤ k ∧ k ≤ 2 := by simpa [kindB] using hk
    have i1 : ¬ th < 0 := by omega
    have i2 : ¬ (L : Int) ≤ th := by rw [← HW3.out]; omega
    have i2' : th < L := by omega
    have i3 : ¬ k < 0 := by omega
    have i4 : ¬ 2 < k := by omega
    have HH := Lib.hid hh
    have HK := Lib.hid hk
    clear hh hm t1 hk hk2
    go_wp2_with fail
    refine (refLockedT_any a a' q1 N c N' c' L d1 ws ts D cs th k x y z _ U1 U2 U HH.out HK.out).mono ?_
    rw [HE1.out, HV.out, HD2.out]
    rintro e w7 ⟨a6, n6, c6, a7, n7, c7, q6, l6, d6, rfl, r1, r2, r3, hb7⟩
    have bA : Below w5.heap.size w5 (w7.alloc (Obj.cells #[.slice a6 n6 c6, .slice a7 n7 c7, .int .i64 D2, .slice q6 l6 d6] 27)) := hb7.alloc hb7.size _
    have A := var4_new (w := w7) (x := .slice a6 n6 c6) (y := .slice a7 n7 c7) (z := .int .i64 D2) (u := .slice q6 l6 d6) (t := 27) w7.heap.size rfl
    have R1 := slA (Obj.cells #[.slice a6 n6 c6, .slice a7 n7 c7, .int .i64 D2, .slice q6 l6 d6] 27) r1
    have R2 := slA (Obj.cells #[.slice a6 n6 c6, .slice a7 n7 c7, .int .i64 D2, .slice q6 l6 d6] 27) r2
    have R3 := blA (Obj.cells #[.slice a6 n6 c6, .slice a7 n7 c7, .int .i64 D2, .slice q6 l6 d6] 27) r3
    replace V1 := slB bA V1
    replace V2 := slB bA V2
    replace V3 := blB bA V3
    replace Y := var4_B bA Y
    have HB7 := Lib.hid (below_from HB5.out bA)
    clear hb7 bA HB5 x0 x1 x2 x3 r1 r2 r3 U1 U2 U X
    go_wp2_with fail
    refine (alive3_any _).mono ?_
    rintro e w9 ⟨rfl, hb9⟩
    replace V1 := slB hb9 V1
    replace V2 := slB hb9 V2
    replace V3 := blB hb9 V3
    replace Y := var4_B hb9 Y
    replace R1 := slB hb9 R1
    replace R2 := slB hb9 R2
    replace R3 := blB hb9 R3
    replace A := var4_B hb9 A
    have HB9 := Lib.hid (below_from HB7.out hb9)
    clear hb9 HB7
    have k1 : n2 ≤ 1000 := by rw [← V1.1]; exact okL_lenL (by rw [lockTW, List.length_set, HW1.out]; omega)
    have k2 : n3 ≤ 1000 := by rw [← V2.1]; exact okL_lenL (by rw [HW2.out]; omega)
    have k3 : l2 ≤ 1000 := by rw [← V3.1]; exact okL_lenL (by rw [HW3.out]; omega)
    obtain ⟨⟨y0, y1, y2, y3⟩, -⟩ := Y
    obtain ⟨⟨b0, b1, b2, b3⟩, -⟩ := A
    go_wp2_with fail
    have h0 := refSameT_any a2 a3 q2 a6 a7 q6 n2 c2 n3 c3 l2 d2 n6 c6 n7 c7 l6 d6 _ _ D2 _ _ V1 V2 V3 R1 R2 R3 k1 k2 k3
    with_reducible refine h0.mono ?_
    clear h0
    rintro e wa ⟨rfl, hba⟩
    have HBa := Lib.hid (below_from HB9.out hba)
    clear hba HB9 y0 y1 y2 y3 b0 b1 b2 b3 V1 V2 V3 R1 R2 R3 k1 k2 k3
    go_wp2
    go_ret
    exact boolPost_mk rfl HBa.out
  · have e1 : E1 = 1 := by rw [← HE1.out, lockTE, if_neg hh]
    subst e1
    have e4 : V = 0 := by rw [← HV.out]; rfl
    have e5 : D2 = 0 := by rw [← HD2.out]; rfl
    subst e4 e5
    rw [okL_neg (by decide)] at V1 V2 V3
    obtain rfl : n2 = 0 := by have := V1.1; simpa using this.symm
    obtain rfl : n3 = 0 := by have := V2.1; simpa using this.symm
    obtain rfl : l2 = 0 := by have := V3.1; simpa using this.symm
    have HL3 : Hid (thB cs th = decide (0 ≤ th ∧ th < L)) := by show thB cs th = _; rw [thB, HW3.out]
    have hcase : mayT ws ts D cs = false ∨ (mayT ws ts D cs = true ∧ th < 0) ∨ (mayT ws ts D cs = true ∧ 0 ≤ th ∧ (L : Int) ≤ th) ∨ (mayT ws ts D cs = true ∧ 0 ≤ th ∧ th < L ∧ k < 0) ∨ (mayT ws ts D cs = true ∧ 0 ≤ th ∧ th < L ∧ 2 < k) := by
      cases hm : mayT ws ts D cs with
      | false => exact .inl rfl
      | true =>
        right
        by_cases u1 : th < 0
        · exact .inl ⟨rfl, u1⟩
        · by_cases u2 : (L : Int) ≤ th
          · exact .inr (.inl ⟨rfl, by omega, u2⟩)
          · have hb : hasB ws ts D cs th = true := by rw [hasB, hm, HL3.out]; simp; omega
            by_cases u3 : k < 0
            · exact .inr (.inr (.inl ⟨rfl, by omega, by omega, u3⟩))
            · exact .inr (.inr (.inr ⟨rfl, by omega, by omega, by
                by_cases u4 : 2 < k
                · exact u4
                · exact absurd ⟨hb, by simp [kindB]; omega⟩ hh⟩))
    clear hh U1 U2 U X HE1 HV HD2 q1' q2'
    obtain ⟨⟨y0, y1, y2, y3⟩, -⟩ := id Y
    rcases hcase with hm | ⟨hm, ht⟩ | ⟨hm, ht, ht2⟩ | ⟨hm, ht, ht2, ht3⟩ | ⟨hm, ht, ht2, ht3⟩
    all_goals
      rw [hm]
      clear hm
      go_wp2_with fail
      refine (alive3_any _).mono ?_
      rintro e w9 ⟨rfl, hb9⟩
      replace V1 := slB hb9 V1
      replace V2 := slB hb9 V2
      replace V3 := blB hb9 V3
      replace y0 := cellB hb9 y0
      replace y1 := cellB hb9 y1
      replace y2 := cellB hb9 y2
      replace y3 := cellB hb9 y3
      have HB9 := Lib.hid (below_from HB5.out hb9)
      clear hb9 x0 x1 x2 x3
      go_wp2_with fail
      have h0 := refSameT_any a2 a3 q2 none none none 0 c2 0 c3 0 d2 0 0 0 0 0 0 [] [] 0 [] _ V1 V2 V3 (sl_nil _) (sl_nil _) (bl_nil _) (Nat.zero_le _) (Nat.zero_le _) (Nat.zero_le _)
      with_reducible refine h0.mono ?_
      clear h0
      rintro e wa ⟨rfl, hba⟩
      have HBa := Lib.hid (below_from HB9.out hba)
      clear hba
      go_wp2
      go_ret
      exact boolPost_mk rfl HBa.out
end Go.Proofs.Yteojpdhmhjoeiaa
