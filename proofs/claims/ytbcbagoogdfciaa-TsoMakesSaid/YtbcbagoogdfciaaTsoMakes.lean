/- The walk of TsoMakes. -/
import Derived.Test.YtbcbagoogdfciaaAliveT
import Derived.Test.YtbcbagoogdfciaaRefU
import Derived.Test.YtbcbagoogdfciaaTsoE
namespace Go.Proofs.Ytbcbagoogdfciaa
open Go.ChangeShapes Go.WideShapes Go.ChangeAt Go.RowKit

theorem sl_zero {w : World} {a : Option Addr} {n : Nat} (h : Sl w a n []) : n = 0 := by have := h.1; simpa using this.symm
theorem bl_zero {w : World} {a : Option Addr} {n : Nat} (h : Bl w a n []) : n = 0 := by have := h.1; simpa using this.symm
theorem bool_neq_self (b : Bool) (w : World) : (binOp .neq 4 (.bool b) (.bool b)).run Try.prog w = .ok (.bool false) w := by
  cases b <;> simp [go_sem, binOp, Op.equal, Op.maxDepth]

set_option maxRecDepth 100000 in
set_option maxHeartbeats 8000000 in
theorem TsoMakes_walk (a a' q : Option Addr) (n c n' c' l d : Nat) (ws ts : List Int) (K D : Int) (bs : List (List (Int × Int))) (w : World) (S1 : Sl w a (min n 170) ws) (S2 : Sl w a' (min n' 170) ts) (h1 : n ≤ c) (h2 : n' ≤ c') (h3 : c ≤ 9223372036854775807) (h4 : c' ≤ 9223372036854775807) (hld : l ≤ d) (hd : d ≤ 9223372036854775807) (S : Bl w q l bs) :
    Calls Try.prog 3 #[.slice a n c, .slice a' n' c', .int .i64 K, .int .i64 D, .slice q l d] w (BoolPost true w) := by
  go_enter Try.func3, Try.ntmps3
  go_wp2_with fail
  refine (machine_any a a' q n c n' c' l d D bs _ h1 h2 h3 h4 hld hd S).mono ?_
  rintro e w1 ⟨q1, d1, rfl, B, hb1⟩
  have hN : min n 170 ≤ 170 := by omega
  have hN' : min n' 170 ≤ 170 := by omega
  generalize min n 170 = N at S1 hN ⊢
  generalize min n' 170 = N' at S2 hN' ⊢
  generalize min l 10 = L at B ⊢
  generalize cutB bs = cs at B ⊢
  have U1 := slA (Obj.cells #[.slice a N c, .slice a' N' c', .int .i64 D, .slice q1 L d1] 27) (slB hb1 S1)
  have U2 := slA (Obj.cells #[.slice a N c, .slice a' N' c', .int .i64 D, .slice q1 L d1] 27) (slB hb1 S2)
  have U := blA (Obj.cells #[.slice a N c, .slice a' N' c', .int .i64 D, .slice q1 L d1] 27) B
  have X := var4_new (w := w1) (x := .slice a N c) (y := .slice a' N' c') (z := .int .i64 D) (u := .slice q1 L d1) (t := 27) w1.heap.size rfl
  have HB1 := Lib.hid (hb1.alloc hb1.size (Obj.cells #[.slice a N c, .slice a' N' c', .int .i64 D, .slice q1 L d1] 27))
  clear hb1 S1 S2 B S h1 h2 h3 h4 hld hd
  go_wp2_with fail
  refine (tsoNew_any a a' N c N' c' ws ts K D _ U1 U2).mono ?_
  rintro e w2 ⟨a2, n2, c2, a3, n3, c3, q2, l2, d2, rfl, v1, v2, v3, hb2⟩
  obtain ⟨E, hE⟩ : ∃ E, newTE ws ts K D = E := ⟨_, rfl⟩
  obtain ⟨FD, hFD⟩ : ∃ z, newTD ws ts K D = z := ⟨_, rfl⟩
  have HE := Lib.hid hE
  have HFD := Lib.hid hFD
  rw [hE, hFD]
  obtain ⟨W, hW⟩ : ∃ W, W = w2.alloc (Obj.cells #[.slice a2 n2 c2, .slice a3 n3 c3, .int .i64 FD, .slice q2 l2 d2] 27) := ⟨_, rfl⟩
  have bW : Below w2.heap.size w2 W := by rw [hW]; exact (Below.refl _ _).alloc (Nat.le_refl _) _
  replace U1 := slB bW (slB hb2 U1)
  replace U2 := slB bW (slB hb2 U2)
  replace U := blB bW (blB hb2 U)
  replace X := var4_B bW (var4_B hb2 X)
  have Y : Var4 W w2.heap.size (.slice a2 n2 c2) (.slice a3 n3 c3) (.int .i64 FD) (.slice q2 l2 d2) := by rw [hW]; exact var4_new w2.heap.size rfl
  have V1 := slB bW v1.sl
  have V2 := slB bW v2.sl
  have V := blB bW v3.bl
  have HB2 := Lib.hid ((below_from HB1.out hb2).trans (bW.mono (below_from HB1.out hb2).size))
  have HW := Lib.hid hW
  clear hb2 v1 v2 v3 hE HB1 bW hW hFD
  go_upto_region 3 with fail
  rw [← HW.out]
  obtain ⟨mt, hmt⟩ : ∃ b, mayT ws ts D cs = b := ⟨_, rfl⟩
  have HMT := Lib.hid hmt
  have hneq := fun w => bool_neq_self mt w
  obtain ⟨⟨x0, x1, x2, x3⟩, -⟩ := X
  obtain ⟨⟨y0, y1, y2, y3⟩, -⟩ := Y
  have hB0 : Below W.heap.size W W.drew := (Below.refl _ _).drew
  clear hmt
  go_region_held3 (fun w' => w'.cell? ⟨w1.heap.size, 0, none⟩ = some (.slice a N c) ∧ w'.cell? ⟨w1.heap.size, 1, none⟩ = some (.slice a' N' c') ∧ w'.cell? ⟨w1.heap.size, 2, none⟩ = some (.int .i64 D) ∧ w'.cell? ⟨w1.heap.size, 3, none⟩ = some (.slice q1 L d1) ∧ Below W.heap.size W w')
    (first | exact ⟨x0, x1, x2, x3, (Below.refl _ _).drew⟩ | (exact ⟨cellB (by assumption) x0, cellB (by assumption) x1, cellB (by assumption) x2, cellB (by assumption) x3, by assumption⟩))
    ((first | (go_at_call 10; refine (tsoRightX_any a a' q1 N c N' c' L d1 ws ts D cs _ (slB (by assumption) U1) (slB (by assumption) U2) (blB (by assumption) U)).mono ?_; rw [HMT.out]; rintro e wx ⟨rfl, hbx⟩; have hbx' := below_from (by assumption) hbx) | (go_at_call 11; refine (refRightT_any a a' q1 N c N' c' L d1 ws ts D cs _ (slB (by assumption) U1) (slB (by assumption) U2) (blB (by assumption) U)).mono ?_; rw [HMT.out]; rintro e wx ⟨rfl, hbx⟩; have hbx' := below_from (by assumption) hbx) | (go_at_call 12; refine (alive3_any _).mono ?_; rintro e wx ⟨rfl, hbx⟩; have hbx' := below_from (by assumption) hbx)))
  have HB3 := Lib.hid (below_from HB2.out hbx')
  replace U1 := slB hbx' U1
  replace U2 := slB hbx' U2
  replace V1 := slB hbx' V1
  replace V2 := slB hbx' V2
  replace V := blB hbx' V
  replace x0 := cellB hbx' x0
  replace x1 := cellB hbx' x1
  replace y0 := cellB hbx' y0
  replace y1 := cellB hbx' y1
  replace y2 := cellB hbx' y2
  replace y3 := cellB hbx' y3
  clear hbx hbx' hB0 x2 x3 U HB2
  go_wp2_with fail
  refine (refRight_any a a' N c N' c' ws ts _ U1 U2).mono ?_
  rintro e w3 ⟨rfl, hb3⟩
  have HB4 := Lib.hid (below_from HB3.out hb3)
  replace U1 := slB hb3 U1
  replace U2 := slB hb3 U2
  replace V1 := slB hb3 V1
  replace V2 := slB hb3 V2
  replace V := blB hb3 V
  replace x0 := cellB hb3 x0
  replace x1 := cellB hb3 x1
  replace y0 := cellB hb3 y0
  replace y1 := cellB hb3 y1
  replace y2 := cellB hb3 y2
  replace y3 := cellB hb3 y3
  clear hb3 HB3
  cases hm : mayB ws ts with
  | false =>
    have e1 : E = 1 := by rw [← HE.out, newTE, if_neg (by rw [hm]; decide)]
    subst e1
    obtain ⟨e2, e3, e4, e5⟩ := newT_no (ws := ws) (ts := ts) (n := K) (D := D) (by rw [HE.out]; decide)
    rw [e2] at V1
    rw [e3] at V2
    rw [e5] at V
    have e6 : FD = 0 := by rw [← HFD.out, e4]
    subst e6
    obtain rfl := sl_zero V1
    obtain rfl := sl_zero V2
    obtain rfl := bl_zero V
    clear e2 e3 e4 e5 hm
    go_wp2_with fail
    have h0 := refSameT_any a2 a3 q2 none none none 0 c2 0 c3 0 d2 0 0 0 0 0 0 [] [] 0 [] _ V1 V2 V (sl_nil _) (sl_nil _) (bl_nil _) (Nat.zero_le _) (Nat.zero_le _) (Nat.zero_le _)
    with_reducible refine h0.mono ?_
    clear h0
    rintro e w4 ⟨rfl, hb4⟩
    have HB5 := Lib.hid (below_from HB4.out hb4)
    clear hb4
    go_wp2
    go_ret
    exact boolPost_mk rfl HB5.out
  | true =>
    have HM := Lib.hid hm
    clear hm
    go_wp2_with fail
    refine (refSizes_any K D _).mono ?_
    rintro e w4 ⟨rfl, rfl⟩
    cases hs : sizesB K D with
    | false =>
      have e1 : E = 2 := by rw [← HE.out, newTE, if_pos HM.out, if_neg (by rw [hs]; decide)]
      subst e1
      obtain ⟨e2, e3, e4, e5⟩ := newT_no (ws := ws) (ts := ts) (n := K) (D := D) (by rw [HE.out]; decide)
      rw [e2] at V1
      rw [e3] at V2
      rw [e5] at V
      have e6 : FD = 0 := by rw [← HFD.out, e4]
      subst e6
      obtain rfl := sl_zero V1
      obtain rfl := sl_zero V2
      obtain rfl := bl_zero V
      clear e2 e3 e4 e5 hs
      go_wp2_with fail
      have h0 := refSameT_any a2 a3 q2 none none none 0 c2 0 c3 0 d2 0 0 0 0 0 0 [] [] 0 [] _ V1 V2 V (sl_nil _) (sl_nil _) (bl_nil _) (Nat.zero_le _) (Nat.zero_le _) (Nat.zero_le _)
      with_reducible refine h0.mono ?_
      clear h0
      rintro e w5 ⟨rfl, hb5⟩
      have HB5 := Lib.hid (below_from HB4.out hb5)
      clear hb5
      go_wp2
      go_ret
      exact boolPost_mk rfl HB5.out
    | true =>
      have hs' : 1 ≤ K ∧ K ≤ 8 ∧ 0 ≤ D ∧ D ≤ 8 := by simpa [sizesB] using hs
      obtain ⟨e1, e2, e3, e4, e5⟩ := newT_ok HM.out hs
      obtain ⟨k, rfl⟩ := Int.eq_ofNat_of_zero_le (show 0 ≤ K by omega)
      rw [Int.toNat_natCast] at e5
      rw [e2] at V1
      rw [e3] at V2
      rw [e5] at V
      have e6 : E = 0 := by rw [← HE.out, e1]
      have e7 : FD = D := by rw [← HFD.out, e4]
      subst e6
      subst e7
      have hk8 : k ≤ 8 := by omega
      have z1 : n2 ≤ 1000 := by have := V1.1; have := U1.1; omega
      have z2 : n3 ≤ 1000 := by have := V2.1; have := U2.1; omega
      have z3 : l2 ≤ 1000 := by have := V.1; rw [List.length_replicate] at this; omega
      clear e1 e2 e3 e4 e5 hs hs'
      go_wp2_with fail
      have hB0 : Below w3.heap.size w3 w3.drew := (Below.refl _ _).drew
      go_region_held3 (fun w' => (w'.cell? ⟨w2.heap.size, 0, none⟩ = some (.slice a2 n2 c2) ∧ w'.cell? ⟨w2.heap.size, 1, none⟩ = some (.slice a3 n3 c3) ∧ w'.cell? ⟨w2.heap.size, 2, none⟩ = some (.int .i64 FD) ∧ w'.cell? ⟨w2.heap.size, 3, none⟩ = some (.slice q2 l2 d2)) ∧ w'.cell? ⟨w1.heap.size, 0, none⟩ = some (.slice a N c) ∧ w'.cell? ⟨w1.heap.size, 1, none⟩ = some (.slice a' N' c') ∧ Below w3.heap.size w3 w')
        (first | exact ⟨⟨y0, y1, y2, y3⟩, x0, x1, (Below.refl _ _).drew⟩ | (exact ⟨⟨cellB (by assumption) y0, cellB (by assumption) y1, cellB (by assumption) y2, cellB (by assumption) y3⟩, cellB (by assumption) x0, cellB (by assumption) x1, by assumption⟩))
        ((first | (go_at_call 16; refine (refNewT_any a a' N c N' c' k FD _ hk8).mono ?_; rintro e wy ⟨q5, d5, rfl, B5, hby⟩; have hby' := below_from (by assumption) hby) | (go_at_call 14; refine (refSameT_any a2 a3 q2 a a' q5 n2 c2 n3 c3 l2 d2 N c N' c' k d5 ws ts FD (List.replicate k []) _ (slB (by assumption) V1) (slB (by assumption) V2) (blB (by assumption) V) (slB (by assumption) U1) (slB (by assumption) U2) B5 z1 z2 z3).mono ?_; rintro e wz ⟨rfl, hbz⟩; have hbz' := below_from (by assumption) hbz)))
      have HB5 := Lib.hid (below_from HB4.out hbz')
      clear hby hby' hbz hbz' hB0 U1 U2 V1 V2 V B5
      go_wp2
      go_ret
      exact boolPost_mk rfl HB5.out
end Go.Proofs.Ytbcbagoogdfciaa
