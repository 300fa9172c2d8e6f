/- The walk of MemoryCycles. -/
import Derived.Test.YtmkpjmcekoenbaaLawA
import Derived.Test.YtmkpjmcekoenbaaMathB
namespace Go.Proofs.Ytmkpjmcekoenbaa
open Go.ChangeShapes Go.WideShapes Go.ChangeAt Go.RowKit

set_option maxRecDepth 100000 in
set_option maxHeartbeats 4000000 in
theorem Cycles_no (a a' : Option Addr) (n c n' c' : Nat) (ws ts : List Int) (i v k : Int) (w : World) (S1 : Sl w a (min n 170) ws) (S2 : Sl w a' (min n' 170) ts) (h1 : n ≤ c) (h2 : n' ≤ c') (h3 : c ≤ 9223372036854775807) (h4 : c' ≤ 9223372036854775807)
    (hi : (Lit.int .i64 i).wf = true) (he : markE ws ts i v 1 ≠ 0) :
    Calls Try.prog 7 #[.slice a n c, .slice a' n' c', .int .i64 i, .int .i64 v, .int .i64 k] w fun e w' => e = .returned (.bool true) ∧ Below w.heap.size w w' := by
  have HI := Lib.hid hi
  have e1 : markW ws ts i v 1 = [] := by rw [markW, if_neg he]
  have HE1 := Lib.hid e1
  have HE := Lib.hid he
  clear hi e1 he
  go_enter Try.func7, Try.ntmps7
  go_wp2_with fail
  refine (mem_any a a' n c n' c' w h1 h2 h3 h4).mono ?_
  rintro e w1 ⟨rfl, hb1⟩
  generalize min n 170 = m at S1 ⊢
  generalize min n' 170 = m' at S2 ⊢
  clear h1 h2 h3 h4
  go_wp2_with fail
  have b1 : Below w.heap.size w (w1.alloc (Obj.cells #[.slice a m c, .slice a' m' c'] 24)) := hb1.alloc hb1.size _
  refine (Mark_any a a' m c m' c' ws ts i v 1 _ (slA _ (slB hb1 S1)) (slA _ (slB hb1 S2)) HI.out).mono ?_
  rintro e w2 ⟨p, l, d, p', l', d', rfl, u1, u2, hb2⟩
  have b2 : Below w.heap.size w w2 := below_from b1 hb2
  rw [HE1.out] at u1
  have hl : 0 = l := u1.1
  subst hl
  have q1 : (markE ws ts i v 1 != 0) = true := by simpa using HE.out
  generalize markE ws ts i v 1 = ev at q1
  clear u1 u2 hb2 b1
  go_wp2_with fail
  refine (alive_any _).mono ?_
  rintro e w5 ⟨rfl, hb5⟩
  have b4 : Below w.heap.size w (w2.alloc (Obj.cells #[.slice p 0 d, .slice p' l' d'] 24)) := b2.alloc b2.size _
  have b6 : Below w.heap.size w w5 := below_from b4 hb5
  have g0 : w5.cell? ⟨w2.heap.size, 0, none⟩ = some (.slice p 0 d) := cellB hb5 (by simp)
  clear hb5
  go_wp2_with fail
  go_ret
  exact ⟨rfl, b6⟩

/-- what the five marks come to -/
theorem marks {ws ts : List Int} {i k : Nat} (hm : mayB ws ts = true) (hk : 1 ≤ k) (hik : i + k ≤ ws.length) :
    markE ws (setR ts i 1 k) i k 1 = 6 ∧ markE ws (setR ts i 1 k) i k 2 = 0 ∧ markE ws (setR ts i 2 k) i k 2 = 5 ∧ markE ws (setR ts i 2 k) i k 1 = 0 :=
  ⟨mark_all hm (.inl rfl) (.inl rfl) hk hik, mark_all hm (.inr rfl) (.inl rfl) hk hik, mark_all hm (.inr rfl) (.inr rfl) hk hik, mark_all hm (.inl rfl) (.inr rfl) hk hik⟩
theorem mark_out {ws ts : List Int} {i k : Nat} {tag : Int} (h : markE ws ts i k tag = 0) : markW ws ts i k tag = ws ∧ markT ws ts i k tag = setR ts i tag k :=
  ⟨by rw [markW, if_pos h], by rw [markT, if_pos h]; simp⟩

set_option maxRecDepth 100000 in
set_option maxHeartbeats 8000000 in
theorem Cycles_yes (a a' : Option Addr) (n c n' c' : Nat) (ws ts : List Int) (i k : Nat) (z : Int) (w : World) (S1 : Sl w a (min n 170) ws) (S2 : Sl w a' (min n' 170) ts) (h1 : n ≤ c) (h2 : n' ≤ c') (h3 : c ≤ 9223372036854775807) (h4 : c' ≤ 9223372036854775807)
    (hz : -9223372036854775808 ≤ z ∧ z ≤ 9223372036854775807) (hm : mayB ws ts = true) (hk : 1 ≤ k) (hik : i + k ≤ ws.length) (he : markE ws ts i k 1 = 0) :
    Calls Try.prog 7 #[.slice a n c, .slice a' n' c', .int .i64 i, .int .i64 k, .int .i64 z] w fun e w' => e = .returned (.bool true) ∧ Below w.heap.size w w' := by
  have hlw : ws.length ≤ 160 := (mayB_size hm).2.1
  have hi0 : i + k ≤ 160 := by omega
  have hwi : (Lit.int .i64 (i : Int)).wf = true := by exact WalkArith.wf_i64 (by omega)
  have HI := Lib.hid hwi
  have HM := Lib.hid (marks hm hk hik)
  have HE := Lib.hid he
  have HO := Lib.hid (mark_out he)
  have HO4 := Lib.hid (mark_out (marks hm hk hik).2.1)
  have HO6 := Lib.hid (mark_out (marks hm hk hik).2.2.2)
  obtain ⟨hzl, hzh⟩ := hz
  have HP := Lib.hid (place_in z i k hk)
  have HQ := Lib.hid (rem_range z k (by omega))
  clear hwi he hlw
  have Hm := Lib.hid hm
  have Hik := Lib.hid hik
  clear hm hik
  go_enter Try.func7, Try.ntmps7
  go_wp2_with fail
  refine (mem_any a a' n c n' c' w h1 h2 h3 h4).mono ?_
  rintro e w1 ⟨rfl, hb1⟩
  generalize min n 170 = m at S1 ⊢
  generalize min n' 170 = m' at S2 ⊢
  clear h1 h2 h3 h4
  go_wp2_with fail
  have b1 : Below w.heap.size w (w1.alloc (Obj.cells #[.slice a m c, .slice a' m' c'] 24)) := hb1.alloc hb1.size _
  refine (Mark_any a a' m c m' c' ws ts i k 1 _ (slA _ (slB hb1 S1)) (slA _ (slB hb1 S2)) HI.out).mono ?_
  rintro e w2 ⟨p, l, d, p', l', d', rfl, u1, u2, hb2⟩
  have b2 : Below w.heap.size w w2 := below_from b1 hb2
  rw [HO.out.1] at u1
  rw [HO.out.2] at u2
  rw [HE.out]
  clear hb2 b1
  have A1 := slA (Obj.cells #[.slice p l d, .slice p' l' d'] 24) u1.sl
  have A2 := slA (Obj.cells #[.slice p l d, .slice p' l' d'] 24) u2.sl
  have b3 : Below w.heap.size w (w2.alloc (Obj.cells #[.slice p l d, .slice p' l' d'] 24)) := b2.alloc b2.size _
  go_wp2_with fail
  refine (Mark_any p p' l d l' d' ws _ i k 1 _ A1 A2 HI.out).mono ?_
  rintro e w3 ⟨r, q, f, r', q', f', rfl, -, -, hb3⟩
  have b4 : Below w.heap.size w w3 := below_from b3 hb3
  rw [HM.out.1]
  have fa0 : (w3.alloc (Obj.cells #[.slice r q f, .slice r' q' f'] 24)).cell? ⟨w2.heap.size, 0, none⟩ = some (.slice p l d) := cellA _ (cellB hb3 (by simp))
  have fa1 : (w3.alloc (Obj.cells #[.slice r q f, .slice r' q' f'] 24)).cell? ⟨w2.heap.size, 1, none⟩ = some (.slice p' l' d') := cellA _ (cellB hb3 (by simp))
  replace A1 := slA (Obj.cells #[.slice r q f, .slice r' q' f'] 24) (slB hb3 A1)
  replace A2 := slA (Obj.cells #[.slice r q f, .slice r' q' f'] 24) (slB hb3 A2)
  have b5 : Below w.heap.size w (w3.alloc (Obj.cells #[.slice r q f, .slice r' q' f'] 24)) := b4.alloc b4.size _
  clear hb3 b3 b4 u1 u2
  go_wp2_with fail
  refine (Mark_any p p' l d l' d' ws _ i k 2 _ A1 A2 HI.out).mono ?_
  rintro e w4 ⟨x, y, t, x', y', t', rfl, v1, v2, hb4⟩
  have b6 : Below w.heap.size w w4 := below_from b5 hb4
  rw [HO4.out.1] at v1
  rw [HO4.out.2, setR_setR] at v2
  rw [HM.out.2.1]
  replace fa0 := cellA (Obj.cells #[.slice x y t, .slice x' y' t'] 24) (cellB hb4 fa0)
  replace fa1 := cellA (Obj.cells #[.slice x y t, .slice x' y' t'] 24) (cellB hb4 fa1)
  replace A1 := slA (Obj.cells #[.slice x y t, .slice x' y' t'] 24) (slB hb4 A1)
  replace A2 := slA (Obj.cells #[.slice x y t, .slice x' y' t'] 24) (slB hb4 A2)
  have B1 := slA (Obj.cells #[.slice x y t, .slice x' y' t'] 24) v1.sl
  have B2 := slA (Obj.cells #[.slice x y t, .slice x' y' t'] 24) v2.sl
  have b7 : Below w.heap.size w (w4.alloc (Obj.cells #[.slice x y t, .slice x' y' t'] 24)) := b6.alloc b6.size _
  clear hb4 b5 b6 v1 v2
  go_wp2_with fail
  refine (Mark_any x x' y t y' t' ws _ i k 2 _ B1 B2 HI.out).mono ?_
  rintro e w5 ⟨r, q, f, r', q', f', rfl, -, -, hb5⟩
  have b8 : Below w.heap.size w w5 := below_from b7 hb5
  rw [HM.out.2.2.1]
  replace fa0 := cellA (Obj.cells #[.slice r q f, .slice r' q' f'] 24) (cellB hb5 fa0)
  replace fa1 := cellA (Obj.cells #[.slice r q f, .slice r' q' f'] 24) (cellB hb5 fa1)
  have fb0 : (w5.alloc (Obj.cells #[.slice r q f, .slice r' q' f'] 24)).cell? ⟨w4.heap.size, 0, none⟩ = some (.slice x y t) := cellA _ (cellB hb5 (by simp))
  have fb1 : (w5.alloc (Obj.cells #[.slice r q f, .slice r' q' f'] 24)).cell? ⟨w4.heap.size, 1, none⟩ = some (.slice x' y' t') := cellA _ (cellB hb5 (by simp))
  replace A1 := slA (Obj.cells #[.slice r q f, .slice r' q' f'] 24) (slB hb5 A1)
  replace A2 := slA (Obj.cells #[.slice r q f, .slice r' q' f'] 24) (slB hb5 A2)
  replace B1 := slA (Obj.cells #[.slice r q f, .slice r' q' f'] 24) (slB hb5 B1)
  replace B2 := slA (Obj.cells #[.slice r q f, .slice r' q' f'] 24) (slB hb5 B2)
  have b9 : Below w.heap.size w (w5.alloc (Obj.cells #[.slice r q f, .slice r' q' f'] 24)) := b8.alloc b8.size _
  clear hb5 b7 b8
  go_wp2_with fail
  refine (Mark_any x x' y t y' t' ws _ i k 1 _ B1 B2 HI.out).mono ?_
  rintro e w6 ⟨g, j, o, g', j', o', rfl, v1, v2, hb6⟩
  have b10 : Below w.heap.size w w6 := below_from b9 hb6
  rw [HO6.out.1] at v1
  rw [HO6.out.2, setR_setR] at v2
  rw [HM.out.2.2.2]
  have fc0 : (w6.alloc (Obj.cells #[.slice g j o, .slice g' j' o'] 24)).cell? ⟨w6.heap.size, 0, none⟩ = some (.slice g j o) := by simp
  have fc1 : (w6.alloc (Obj.cells #[.slice g j o, .slice g' j' o'] 24)).cell? ⟨w6.heap.size, 1, none⟩ = some (.slice g' j' o') := by simp
  replace fa0 := cellA (Obj.cells #[.slice g j o, .slice g' j' o'] 24) (cellB hb6 fa0)
  replace fa1 := cellA (Obj.cells #[.slice g j o, .slice g' j' o'] 24) (cellB hb6 fa1)
  replace fb0 := cellA (Obj.cells #[.slice g j o, .slice g' j' o'] 24) (cellB hb6 fb0)
  replace fb1 := cellA (Obj.cells #[.slice g j o, .slice g' j' o'] 24) (cellB hb6 fb1)
  replace A1 := slA (Obj.cells #[.slice g j o, .slice g' j' o'] 24) (slB hb6 A1)
  replace A2 := slA (Obj.cells #[.slice g j o, .slice g' j' o'] 24) (slB hb6 A2)
  replace B1 := slA (Obj.cells #[.slice g j o, .slice g' j' o'] 24) (slB hb6 B1)
  replace B2 := slA (Obj.cells #[.slice g j o, .slice g' j' o'] 24) (slB hb6 B2)
  have C1 := slA (Obj.cells #[.slice g j o, .slice g' j' o'] 24) v1.sl
  have C2 := slA (Obj.cells #[.slice g j o, .slice g' j' o'] 24) v2.sl
  have b11 : Below w.heap.size w (w6.alloc (Obj.cells #[.slice g j o, .slice g' j' o'] 24)) := b10.alloc b10.size _
  clear hb6 b9 b10 v1 v2
  go_wp2_with fail
  refine (alive_any _).mono ?_
  rintro e w7 ⟨rfl, hb7⟩
  have b12 : Below w.heap.size w w7 := below_from b11 hb7
  replace fa0 := cellB hb7 fa0
  replace fa1 := cellB hb7 fa1
  replace fb0 := cellB hb7 fb0
  replace fb1 := cellB hb7 fb1
  replace fc0 := cellB hb7 fc0
  replace fc1 := cellB hb7 fc1
  replace A1 := slB hb7 A1
  replace A2 := slB hb7 A2
  replace B1 := slB hb7 B1
  replace B2 := slB hb7 B2
  replace C1 := slB hb7 C1
  replace C2 := slB hb7 C2
  clear hb7 b11
  have hq := HQ.out
  obtain ⟨hq1, hq2⟩ := hq
  go_wp2_with fail
  obtain ⟨s, hs, hs1, hs2⟩ := HP.out
  have hs' : wrap64 ((i : Int) + z.tmod k % k) = s := by rw [hs]; exact IntWalk.wrap64_in _ ⟨by omega, by omega⟩
  rw [hs']
  have HW := Lib.hid (show (Lit.int .i64 (s : Int)).wf = true from WalkArith.wf_i64 (by omega))
  have HU1 := Lib.hid (show usableZ ws (setR ts i 1 k) s = 0 from usable_in (t := 1) Hm.out (.inl rfl) Hik.out hs1 hs2)
  have HU2 := Lib.hid (show usableZ ws (setR ts i 2 k) s = 5 from usable_in (t := 2) Hm.out (.inr rfl) Hik.out hs1 hs2)
  have HL1 := Lib.hid (load_in Hm.out Hik.out hs1 hs2)
  have HL2 := Lib.hid (load_out Hm.out Hik.out hs1 hs2)
  clear hs hs' hs1 hs2 hq1 hq2
  refine (Load_any p p' l d l' d' ws _ s _ A1 A2 HW.out).mono ?_
  rintro e w8 ⟨rfl, hb8⟩
  have b13 : Below w.heap.size w w8 := below_from b12 hb8
  rw [HU1.out, HL1.out]
  replace fa0 := cellB hb8 fa0
  replace fa1 := cellB hb8 fa1
  replace fb0 := cellB hb8 fb0
  replace fb1 := cellB hb8 fb1
  replace fc0 := cellB hb8 fc0
  replace fc1 := cellB hb8 fc1
  replace A1 := slB hb8 A1
  replace A2 := slB hb8 A2
  replace B1 := slB hb8 B1
  replace B2 := slB hb8 B2
  replace C1 := slB hb8 C1
  replace C2 := slB hb8 C2
  clear hb8 b12
  obtain ⟨lv, hlv⟩ : ∃ lv, ws.getD s 0 = lv := ⟨_, rfl⟩
  rw [hlv]
  have HLV := Lib.hid hlv
  clear hlv
  go_wp2_with fail
  refine (Load_any x x' y t y' t' ws _ s _ B1 B2 HW.out).mono ?_
  rintro e w9 ⟨rfl, hb9⟩
  have b14 : Below w.heap.size w w9 := below_from b13 hb9
  rw [HU2.out, HL2.out]
  replace fa0 := cellB hb9 fa0
  replace fa1 := cellB hb9 fa1
  replace fb0 := cellB hb9 fb0
  replace fb1 := cellB hb9 fb1
  replace fc0 := cellB hb9 fc0
  replace fc1 := cellB hb9 fc1
  replace A1 := slB hb9 A1
  replace A2 := slB hb9 A2
  replace B1 := slB hb9 B1
  replace B2 := slB hb9 B2
  replace C1 := slB hb9 C1
  replace C2 := slB hb9 C2
  clear hb9 b13
  go_wp2_with fail
  refine (Store_any x x' y t y' t' ws _ s 1 _ B1 B2 HW.out).mono ?_
  rintro e w10 ⟨r, q, f, r', q', f', rfl, -, -, hb10⟩
  have b15 : Below w.heap.size w w10 := below_from b14 hb10
  rw [HU2.out]
  replace fa0 := cellA (Obj.cells #[.slice r q f, .slice r' q' f'] 24) (cellB hb10 fa0)
  replace fa1 := cellA (Obj.cells #[.slice r q f, .slice r' q' f'] 24) (cellB hb10 fa1)
  replace fb0 := cellA (Obj.cells #[.slice r q f, .slice r' q' f'] 24) (cellB hb10 fb0)
  replace fb1 := cellA (Obj.cells #[.slice r q f, .slice r' q' f'] 24) (cellB hb10 fb1)
  replace fc0 := cellA (Obj.cells #[.slice r q f, .slice r' q' f'] 24) (cellB hb10 fc0)
  replace fc1 := cellA (Obj.cells #[.slice r q f, .slice r' q' f'] 24) (cellB hb10 fc1)
  replace A1 := slA (Obj.cells #[.slice r q f, .slice r' q' f'] 24) (slB hb10 A1)
  replace A2 := slA (Obj.cells #[.slice r q f, .slice r' q' f'] 24) (slB hb10 A2)
  replace B1 := slA (Obj.cells #[.slice r q f, .slice r' q' f'] 24) (slB hb10 B1)
  replace B2 := slA (Obj.cells #[.slice r q f, .slice r' q' f'] 24) (slB hb10 B2)
  replace C1 := slA (Obj.cells #[.slice r q f, .slice r' q' f'] 24) (slB hb10 C1)
  replace C2 := slA (Obj.cells #[.slice r q f, .slice r' q' f'] 24) (slB hb10 C2)
  have b16 : Below w.heap.size w (w10.alloc (Obj.cells #[.slice r q f, .slice r' q' f'] 24)) := b15.alloc b15.size _
  clear hb10 b14 b15
  go_wp2_with fail
  refine (Load_any g g' j o j' o' ws _ s _ C1 C2 HW.out).mono ?_
  rintro e w11 ⟨rfl, hb11⟩
  have b17 : Below w.heap.size w w11 := below_from b16 hb11
  rw [HU1.out, HL1.out, HLV.out]
  replace fa0 := cellB hb11 fa0
  replace fa1 := cellB hb11 fa1
  replace fb0 := cellB hb11 fb0
  replace fb1 := cellB hb11 fb1
  replace A1 := slB hb11 A1
  replace A2 := slB hb11 A2
  replace B1 := slB hb11 B1
  replace B2 := slB hb11 B2
  clear hb11 b16 fc0 fc1 C1 C2
  go_wp2_with fail
  refine (Count_any p p' l d l' d' ws _ _ A1 A2).mono ?_
  rintro e w12 ⟨rfl, hb12⟩
  have b18 : Below w.heap.size w w12 := below_from b17 hb12
  rw [if_pos (may_setR Hm.out (.inl rfl))]
  obtain ⟨a0, a1, a2, ha0, ha1, ha2, y0, y1, y2, y3, y4, y5⟩ := counts_free Hm.out Hik.out
  rw [y0, y1, y2]
  have HY := Lib.hid (And.intro y3 (And.intro y4 y5))
  clear y0 y1 y2 y3 y4 y5
  replace fb0 := cellA (Obj.cells #[.int .i64 a0, .int .i64 a1, .int .i64 a2] 29) (cellB hb12 fb0)
  replace fb1 := cellA (Obj.cells #[.int .i64 a0, .int .i64 a1, .int .i64 a2] 29) (cellB hb12 fb1)
  replace B1 := slA (Obj.cells #[.int .i64 a0, .int .i64 a1, .int .i64 a2] 29) (slB hb12 B1)
  replace B2 := slA (Obj.cells #[.int .i64 a0, .int .i64 a1, .int .i64 a2] 29) (slB hb12 B2)
  have b19 : Below w.heap.size w (w12.alloc (Obj.cells #[.int .i64 a0, .int .i64 a1, .int .i64 a2] 29)) := b18.alloc b18.size _
  clear hb12 b17 b18 fa0 fa1 A1 A2
  go_wp2_with fail
  refine (Count_any x x' y t y' t' ws _ _ B1 B2).mono ?_
  rintro e w13 ⟨rfl, hb13⟩
  have b20 : Below w.heap.size w w13 := below_from b19 hb13
  rw [if_pos (may_setR Hm.out (.inr rfl)), HY.out.1, HY.out.2.1, HY.out.2.2]
  obtain ⟨ha00, ha01⟩ := ha0
  obtain ⟨ha10, ha11⟩ := ha1
  obtain ⟨ha20, ha21⟩ := ha2
  have p0 : (w13.alloc (Obj.cells #[.int .i64 a0, .int .i64 (a1 - k), .int .i64 (a2 + k)] 29)).cell? ⟨w12.heap.size, 0, none⟩ = some (.int .i64 a0) := cellA _ (cellB hb13 (by simp))
  have p1 : (w13.alloc (Obj.cells #[.int .i64 a0, .int .i64 (a1 - k), .int .i64 (a2 + k)] 29)).cell? ⟨w12.heap.size, 1, none⟩ = some (.int .i64 a1) := cellA _ (cellB hb13 (by simp))
  have p2 : (w13.alloc (Obj.cells #[.int .i64 a0, .int .i64 (a1 - k), .int .i64 (a2 + k)] 29)).cell? ⟨w12.heap.size, 2, none⟩ = some (.int .i64 a2) := cellA _ (cellB hb13 (by simp))
  have q1 : (lv == lv) = true := by simp
  have q2 : (a0 == a0) = true := by simp
  have q3 : (a1 - (k : Int) == a1 - k) = true := by simp
  have q4 : (a2 + (k : Int) == a2 + k) = true := by simp
  clear hb13 b19 fb0 fb1 B1 B2
  go_wp2_with fail
  go_ret
  exact ⟨rfl, b20.alloc b20.size _⟩

theorem Cycles_walk (a a' : Option Addr) (n c n' c' : Nat) (ws ts : List Int) (i v k : Int) (w : World) (S1 : Sl w a (min n 170) ws) (S2 : Sl w a' (min n' 170) ts) (h1 : n ≤ c) (h2 : n' ≤ c') (h3 : c ≤ 9223372036854775807) (h4 : c' ≤ 9223372036854775807)
    (hi : (Lit.int .i64 i).wf = true) (hk : (Lit.int .i64 k).wf = true) :
    Calls Try.prog 7 #[.slice a n c, .slice a' n' c', .int .i64 i, .int .i64 v, .int .i64 k] w fun e w' => e = .returned (.bool true) ∧ Below w.heap.size w w' := by
  by_cases he : markE ws ts i v 1 = 0
  · obtain ⟨hm, -, h5, h6, h7, -⟩ := mark_zero he
    obtain ⟨i, rfl⟩ := Int.eq_ofNat_of_zero_le h6
    obtain ⟨v, rfl⟩ := Int.eq_ofNat_of_zero_le (show 0 ≤ v by omega)
    have hz : -9223372036854775808 ≤ k ∧ k ≤ 9223372036854775807 := by simpa [Lit.wf, IntKind.min, IntKind.max, IntKind.signed, IntKind.bits] using hk
    exact Cycles_yes a a' n c n' c' ws ts i v k w S1 S2 h1 h2 h3 h4 hz hm (by omega) (by omega) he
  · exact Cycles_no a a' n c n' c' ws ts i v k w S1 S2 h1 h2 h3 h4 hi he
end Go.Proofs.Ytmkpjmcekoenbaa
