/- The walk of the statement on two texts one behind the other. -/
import Derived.Test.YtlkeacekdmjafaaDoorAsJ
namespace Go.Proofs.YtlkeacekdmjafaaDoor
open Go.ChangeShapes Go.WideShapes Go.ChangeAt Go.RowKit
open Gen

theorem str_app (l m : Bs) : str l ++ str m = str (l ++ m) := by
  apply ByteArray.ext
  simp
set_option maxRecDepth 100000 in
set_option maxHeartbeats 4000000 in
theorem AsmJoins_walk (one two : ByteArray) (w : World) (h1 : one.size ≤ 9223372036854775807) (h2 : two.size ≤ 9223372036854775807) (G : Glob w) :
    Calls Tryd.prog 7 #[.string one, .string two] w (BoolPost true w) := by
  obtain ⟨s, hs⟩ : ∃ s, one.data.toList.take 3000 = s := ⟨_, rfl⟩
  obtain ⟨t, ht⟩ : ∃ t, two.data.toList.take 3000 = t := ⟨_, rfl⟩
  have ls : s.length ≤ 3000 := by rw [← hs, List.length_take]; omega
  have lt : t.length ≤ 3000 := by rw [← ht, List.length_take]; omega
  have pt1 := part_any one w h1
  have pt2 := part_any two w h2
  rw [hs] at pt1
  rw [ht] at pt2
  have hp1 := fun (W : World) (GW : Glob W) => Parse_v s W (by omega) GW
  have hp2 := fun (W : World) (GW : Glob W) => Parse_v t W (by omega) GW
  have hp3 := fun (W : World) (GW : Glob W) => Parse_v (s ++ t) W (by rw [List.length_append]; omega) GW
  obtain ⟨⟨a, n1, e1⟩, r1⟩ : ∃ r, parseL s = r := ⟨_, rfl⟩
  obtain ⟨⟨b, n2, e2⟩, r2⟩ : ∃ r, parseL t = r := ⟨_, rfl⟩
  have la := Nat.le_trans (codeOf_le r1) ls
  have lb := Nat.le_trans (codeOf_le r2) lt
  rw [r1] at hp1
  rw [r2] at hp2
  have hl3 : ¬ 9223372036854775807 < s.length + t.length := by omega
  clear hs ht
  by_cases he1 : e1 = 0
  · by_cases he2 : e2 = 0
    · subst he1 he2
      obtain rfl := parse_zero r1
      obtain rfl := parse_zero r2
      have tok1 : True := trivial
      have tok2 : True := trivial
      have jp := join_parse ls lt r1 r2
      have htb : ∀ i ∈ b, ((i.1 = 10 ∨ i.1 = 13) → 0 ≤ i.2.1 ∧ i.2.1 ≤ 3000) ∧ ((i.1 = 11 ∨ i.1 = 12) → 0 ≤ i.2.2.1 ∧ i.2.2.1 ≤ 3000) := fun i hi => by
        have h := tgt_bound r2 i hi
        exact ⟨fun q => by have := h.1 q; omega, fun q => by have := h.2 q; omega⟩
      clear r1 r2
      rcases jp with jp | ⟨n3, jp, hn3⟩ | ⟨n3, jp, hn3⟩
      · rw [jp] at hp3
        obtain ⟨cs, hcs⟩ : ∃ cs, a ++ b.map (shI a.length) = cs := ⟨_, rfl⟩
        rw [hcs] at hp3
        obtain ⟨n, hn⟩ : ∃ n, a.length = n := ⟨_, rfl⟩
        obtain ⟨m, hm⟩ : ∃ m, b.length = m := ⟨_, rfl⟩
        have hcl : cs.length = n + m := by rw [← hcs, List.length_append, List.length_map, hn, hm]
        have HCS := Lib.hid hcs
        clear hcs jp
        go_enter Tryd.func7, Tryd.ntmps7
        go_wp2_with (first
        | (go_at_call 8; refine pt1.mono ?_; clear pt1; rintro e w' ⟨rfl, hw⟩; obtain rfl := hw.symm)
        | (go_at_call 8; refine pt2.mono ?_; clear pt2; rintro e w' ⟨rfl, hw⟩; obtain rfl := hw.symm)
        | (go_at_call 9; refine (hp1 _ G).mono ?_; clear hp1; rintro e w1 ⟨a1, c1, rfl, -, -, V1, b1⟩; have G1 := G.B b1)
        | (go_at_call 9; refine (hp2 _ G1).mono ?_; clear hp2; rintro e w2 ⟨a2, c2, rfl, -, -, V2, b2⟩; have G2 := G1.B b2; have B2 := below_from b1 b2)
        | (go_at_call 9; rw [str_app]; refine (hp3 _ G2).mono ?_; clear hp3; rintro e w3 ⟨a3, c3, rfl, -, -, V3, b3⟩; have G3 := G2.B b3; have B3 := below_from B2 b3)
        | (go_at_call 11; have _t := tok1; refine (alive_k_any _ G3).mono ?_; clear tok1; rintro e w4 ⟨rfl, b4⟩; have G4 := G3.B b4; have B4 := below_from B3 b4)
        | (go_at_call 11; have _t := tok2; refine (alive_k_any _ G4).mono ?_; clear tok2; rintro e w5 ⟨rfl, b5⟩; have B5 := below_from B4 b5))
        have VA : Vs repIns Any w4 a1 n a := by rw [← hn]; exact vs_B b4 (vs_B b3 (vs_B b2 V1))
        have VB : Vs repIns Any w4 a2 m b := by rw [← hm]; exact vs_B b4 (vs_B b3 V2)
        have VC : Vs repIns Any w4 a3 (n + m) cs := by rw [← hcl]; exact vs_B b4 V3
        have HVA := Lib.hid VA
        have HVB := Lib.hid VB
        have HVC := Lib.hid VC
        have HB4 := Lib.hid B4
        have HN := Lib.hid hn
        have HLA := Lib.hid la
        have HLB := Lib.hid lb
        have hnl : n ≤ 3000 := by rw [← hn]; exact la
        have HTB := Lib.hid htb
        have hml : m ≤ 3000 := by rw [← hm]; exact lb
        clear htb V1 V2 V3 VA VB VC B4 b1 b2 b3 b4 B2 B3 hn hm hcl la lb hl3 ls lt
        go_loopw [119] (fun i wr => ∃ k : Nat, k ≤ n + m ∧ i = .int .i64 k ∧ Hid (Below w4.heap.size w4 wr)) (fun i _ => n + m - (intOf i).toNat)
        case atStart => exact ⟨0, by omega, rfl, Below.refl _ _⟩
        case round =>
          obtain ⟨k, hk, rfl, hb⟩ := hrel
          by_cases hlt : k < n + m
          · obtain ⟨bb, oo, y, rfl, hy, -, hAt⟩ := vs_at (vs_B hb.out HVC.out) hlt
            obtain ⟨i0, i1, i2, i3⟩ := y
            obtain ⟨z0, z1, z2, z3⟩ := ins_at hAt
            dsimp only at z0 z1 z2 z3
            rw [show repIns.k = 4 from rfl] at z0 z1 z2 z3
            have j1 : (0 : Int) ≤ k := by omega
            have j2 : (k : Int) < (n : Int) + m := by omega
            have HY := Lib.hid hy
            clear hy hAt
            by_cases hkn : k < n
            · obtain ⟨ba, oa, y2, rfl, hy2, -, hAt2⟩ := vs_at (vs_B hb.out HVA.out) hkn
              have hyy : y2 = (i0, i1, i2, i3) := by
                have h5 := HY.out
                rw [← HCS.out, List.getElem?_append_left (by rw [HN.out]; exact hkn), hy2] at h5
                injection h5
              subst hyy
              obtain ⟨u0, u1, u2, u3⟩ := ins_at hAt2
              dsimp only at u0 u1 u2 u3
              rw [show repIns.k = 4 from rfl] at u0 u1 u2 u3
              have u0 := cellA (Obj.cells #[Value.int .i64 i0, Value.int .i64 i1, Value.int .i64 i2, Value.int .i64 i3] 39) u0
              have u1 := cellA (Obj.cells #[Value.int .i64 i0, Value.int .i64 i1, Value.int .i64 i2, Value.int .i64 i3] 39) u1
              have u2 := cellA (Obj.cells #[Value.int .i64 i0, Value.int .i64 i1, Value.int .i64 i2, Value.int .i64 i3] 39) u2
              have u3 := cellA (Obj.cells #[Value.int .i64 i0, Value.int .i64 i1, Value.int .i64 i2, Value.int .i64 i3] 39) u3
              have j3 : (k : Int) < n := by omega
              clear hy2 hAt2
              go_wp2
              have mixed : Tryd.prog.follows .mixedOrders = true := by kernel_rfl
              go_region
              go_wp2
              go_roundw
              case rel => exact ⟨k + 1, by omega, by go_num, (hb.out.alloc hb.out.size _).drew⟩
              case measure => simp [intOf]; omega
            · obtain ⟨j, hkj⟩ : ∃ j, k = n + j := ⟨k - n, by omega⟩
              have hjm : j < m := by omega
              obtain ⟨ba, oa, y2, rfl, hy2, -, hAt2⟩ := vs_at (vs_B hb.out HVB.out) hjm
              obtain ⟨v0, v1, v2, v3⟩ := y2
              have hyy : (i0, i1, i2, i3) = shI n (v0, v1, v2, v3) := by
                have h5 := HY.out
                rw [← HCS.out, List.getElem?_append_right (by rw [HN.out]; omega), HN.out, hkj, show n + j - n = j by omega, List.getElem?_map, hy2] at h5
                exact (Option.some.inj h5).symm
              have hbd := HTB.out _ (List.mem_of_getElem? hy2)
              dsimp only at hbd
              simp only [shI, Prod.mk.injEq] at hyy
              obtain ⟨rfl, y1, y2, rfl⟩ := hyy
              obtain ⟨u0, u1, u2, u3⟩ := ins_at hAt2
              dsimp only at u0 u1 u2 u3
              rw [show repIns.k = 4 from rfl] at u0 u1 u2 u3
              have u0 := cellA (Obj.cells #[Value.int .i64 i0, Value.int .i64 i1, Value.int .i64 i2, Value.int .i64 i3] 39) u0
              have u1 := cellA (Obj.cells #[Value.int .i64 i0, Value.int .i64 i1, Value.int .i64 i2, Value.int .i64 i3] 39) u1
              have u2 := cellA (Obj.cells #[Value.int .i64 i0, Value.int .i64 i1, Value.int .i64 i2, Value.int .i64 i3] 39) u2
              have u3 := cellA (Obj.cells #[Value.int .i64 i0, Value.int .i64 i1, Value.int .i64 i2, Value.int .i64 i3] 39) u3
              have k1 : (k : Int) - (n : Int) = (j : Int) := by omega
              have k2 : ¬ (k : Int) < n := by omega
              have k3 : (j : Int) < m := by omega
              have k4 : (0 : Int) ≤ j := by omega
              have HKJ := Lib.hid hkj
              clear hy2 hAt2 hkj
              by_cases hA : i0 = 10 ∨ i0 = 13
              · have hB : ¬ (i0 = 11 ∨ i0 = 12) := by omega
                have hb1 := hbd.1 hA
                rw [if_pos hA] at y1
                rw [if_neg hB] at y2
                subst y1 y2
                clear hB hbd
                have c5 : v1 + (n : Int) ≤ 9223372036854775807 := by omega
                have c6 : -9223372036854775808 ≤ v1 + (n : Int) := by omega
                have hb1a := hb1.1
                have hb1b := hb1.2
                clear hb1
                rcases hA with rfl | rfl
                · go_wp2
                  go_roundw
                  case rel => exact ⟨k + 1, by omega, by go_num, (hb.out.alloc hb.out.size _).alloc (by rw [World.size_alloc]; have := hb.out.size; omega) _⟩
                  case measure => simp [intOf]; omega
                · go_wp2
                  go_roundw
                  case rel => exact ⟨k + 1, by omega, by go_num, (hb.out.alloc hb.out.size _).alloc (by rw [World.size_alloc]; have := hb.out.size; omega) _⟩
                  case measure => simp [intOf]; omega
              · by_cases hB : i0 = 11 ∨ i0 = 12
                · have hb1 := hbd.2 hB
                  rw [if_neg hA] at y1
                  rw [if_pos hB] at y2
                  subst y1 y2
                  clear hA hbd
                  have c5 : v2 + (n : Int) ≤ 9223372036854775807 := by omega
                  have c6 : -9223372036854775808 ≤ v2 + (n : Int) := by omega
                  have hb1a := hb1.1
                  have hb1b := hb1.2
                  clear hb1
                  rcases hB with rfl | rfl
                  · go_wp2
                    go_roundw
                    case rel => exact ⟨k + 1, by omega, by go_num, (hb.out.alloc hb.out.size _).alloc (by rw [World.size_alloc]; have := hb.out.size; omega) _⟩
                    case measure => simp [intOf]; omega
                  · go_wp2
                    go_roundw
                    case rel => exact ⟨k + 1, by omega, by go_num, (hb.out.alloc hb.out.size _).alloc (by rw [World.size_alloc]; have := hb.out.size; omega) _⟩
                    case measure => simp [intOf]; omega
                · rw [if_neg hA] at y1
                  rw [if_neg hB] at y2
                  subst y1 y2
                  have c1 : (i0 == 10) = false := by simp; omega
                  have c2 : (i0 == 13) = false := by simp; omega
                  have c3 : (i0 == 11) = false := by simp; omega
                  have c4 : (i0 == 12) = false := by simp; omega
                  clear hA hB hbd
                  go_wp2
                  go_roundw
                  case rel => exact ⟨k + 1, by omega, by go_num, (hb.out.alloc hb.out.size _).alloc (by rw [World.size_alloc]; have := hb.out.size; omega) _⟩
                  case measure => simp [intOf]; omega
          · obtain rfl : k = n + m := by omega
            go_wp2
            go_ret
            exact boolPost_mk rfl (below_from HB4.out hb.out)
      · rw [jp] at hp3
        go_enter Tryd.func7, Tryd.ntmps7
        go_wp2_with (first
        | (go_at_call 8; refine pt1.mono ?_; clear pt1; rintro e w' ⟨rfl, hw⟩; obtain rfl := hw.symm)
        | (go_at_call 8; refine pt2.mono ?_; clear pt2; rintro e w' ⟨rfl, hw⟩; obtain rfl := hw.symm)
        | (go_at_call 9; refine (hp1 _ G).mono ?_; clear hp1; rintro e w1 ⟨a1, c1, rfl, -, -, V1, b1⟩; have G1 := G.B b1)
        | (go_at_call 9; refine (hp2 _ G1).mono ?_; clear hp2; rintro e w2 ⟨a2, c2, rfl, -, -, V2, b2⟩; have G2 := G1.B b2; have B2 := below_from b1 b2)
        | (go_at_call 9; rw [str_app]; refine (hp3 _ G2).mono ?_; clear hp3; rintro e w3 ⟨a3, c3, rfl, -, -, V3, b3⟩; have G3 := G2.B b3; have B3 := below_from B2 b3)
        | (go_at_call 11; have _t := tok1; refine (alive_k_any _ G3).mono ?_; clear tok1; rintro e w4 ⟨rfl, b4⟩; have G4 := G3.B b4; have B4 := below_from B3 b4)
        | (go_at_call 11; have _t := tok2; refine (alive_k_any _ G4).mono ?_; clear tok2; rintro e w5 ⟨rfl, b5⟩; have B5 := below_from B4 b5))
        go_ret
        exact boolPost_mk rfl B4
      · rw [jp] at hp3
        have hn4 : (1000 : Int) < (a.length : Nat) + (b.length : Nat) := by omega
        go_enter Tryd.func7, Tryd.ntmps7
        go_wp2_with (first
        | (go_at_call 8; refine pt1.mono ?_; clear pt1; rintro e w' ⟨rfl, hw⟩; obtain rfl := hw.symm)
        | (go_at_call 8; refine pt2.mono ?_; clear pt2; rintro e w' ⟨rfl, hw⟩; obtain rfl := hw.symm)
        | (go_at_call 9; refine (hp1 _ G).mono ?_; clear hp1; rintro e w1 ⟨a1, c1, rfl, -, -, V1, b1⟩; have G1 := G.B b1)
        | (go_at_call 9; refine (hp2 _ G1).mono ?_; clear hp2; rintro e w2 ⟨a2, c2, rfl, -, -, V2, b2⟩; have G2 := G1.B b2; have B2 := below_from b1 b2)
        | (go_at_call 9; rw [str_app]; refine (hp3 _ G2).mono ?_; clear hp3; rintro e w3 ⟨a3, c3, rfl, -, -, V3, b3⟩; have G3 := G2.B b3; have B3 := below_from B2 b3)
        | (go_at_call 11; have _t := tok1; refine (alive_k_any _ G3).mono ?_; clear tok1; rintro e w4 ⟨rfl, b4⟩; have G4 := G3.B b4; have B4 := below_from B3 b4)
        | (go_at_call 11; have _t := tok2; refine (alive_k_any _ G4).mono ?_; clear tok2; rintro e w5 ⟨rfl, b5⟩; have B5 := below_from B4 b5))
        go_ret
        exact boolPost_mk rfl B5
    · subst he1
      have hb := parse_empty r2 he2
      subst hb
      have q1 : (e2 != 0) = true := by simpa using he2
      have q2 : (e2 == 0) = false := by simpa using he2
      go_enter Tryd.func7, Tryd.ntmps7
      go_wp2_with (first
        | (go_at_call 8; refine pt1.mono ?_; clear pt1; rintro e w' ⟨rfl, hw⟩; obtain rfl := hw.symm)
        | (go_at_call 8; refine pt2.mono ?_; clear pt2; rintro e w' ⟨rfl, hw⟩; obtain rfl := hw.symm)
        | (go_at_call 9; refine (hp1 _ G).mono ?_; clear hp1; rintro e w1 ⟨a1, c1, rfl, -, -, V1, b1⟩; have G1 := G.B b1)
        | (go_at_call 9; refine (hp2 _ G1).mono ?_; clear hp2; rintro e w2 ⟨a2, c2, rfl, -, -, V2, b2⟩; have G2 := G1.B b2; have B2 := below_from b1 b2)
        | (go_at_call 11; refine (alive_k_any _ G2).mono ?_; rintro e w3 ⟨rfl, b3⟩; have B3 := below_from B2 b3))
      go_ret
      exact boolPost_mk rfl B3
  · have ha := parse_empty r1 he1
    subst ha
    have q1 : (e1 != 0) = true := by simpa using he1
    have q2 : (e1 == 0) = false := by simpa using he1
    by_cases he2 : e2 = 0
    · subst he2
      go_enter Tryd.func7, Tryd.ntmps7
      go_wp2_with (first
        | (go_at_call 8; refine pt1.mono ?_; clear pt1; rintro e w' ⟨rfl, hw⟩; obtain rfl := hw.symm)
        | (go_at_call 8; refine pt2.mono ?_; clear pt2; rintro e w' ⟨rfl, hw⟩; obtain rfl := hw.symm)
        | (go_at_call 9; refine (hp1 _ G).mono ?_; clear hp1; rintro e w1 ⟨a1, c1, rfl, -, -, V1, b1⟩; have G1 := G.B b1)
        | (go_at_call 9; refine (hp2 _ G1).mono ?_; clear hp2; rintro e w2 ⟨a2, c2, rfl, -, -, V2, b2⟩; have G2 := G1.B b2; have B2 := below_from b1 b2)
        | (go_at_call 11; refine (alive_k_any _ G2).mono ?_; rintro e w3 ⟨rfl, b3⟩; have B3 := below_from B2 b3))
      go_ret
      exact boolPost_mk rfl B3
    · have hb := parse_empty r2 he2
      subst hb
      have q3 : (e2 != 0) = true := by simpa using he2
      have q4 : (e2 == 0) = false := by simpa using he2
      go_enter Tryd.func7, Tryd.ntmps7
      go_wp2_with (first
        | (go_at_call 8; refine pt1.mono ?_; clear pt1; rintro e w' ⟨rfl, hw⟩; obtain rfl := hw.symm)
        | (go_at_call 8; refine pt2.mono ?_; clear pt2; rintro e w' ⟨rfl, hw⟩; obtain rfl := hw.symm)
        | (go_at_call 9; refine (hp1 _ G).mono ?_; clear hp1; rintro e w1 ⟨a1, c1, rfl, -, -, V1, b1⟩; have G1 := G.B b1)
        | (go_at_call 9; refine (hp2 _ G1).mono ?_; clear hp2; rintro e w2 ⟨a2, c2, rfl, -, -, V2, b2⟩; have G2 := G1.B b2; have B2 := below_from b1 b2)
        | (go_at_call 11; refine (alive_k_any _ G2).mono ?_; rintro e w3 ⟨rfl, b3⟩; have B3 := below_from B2 b3))
      go_ret
      exact boolPost_mk rfl B3
end Go.Proofs.YtlkeacekdmjafaaDoor
