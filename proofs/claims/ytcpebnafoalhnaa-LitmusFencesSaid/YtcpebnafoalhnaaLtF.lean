/- The walk of LitmusFences. -/
import Derived.Test.YtcpebnafoalhnaaLtB
import Derived.Test.YtcpebnafoalhnaaMT
import Derived.Maps.AppendAt
namespace Go.Proofs.Ytcpebnafoalhnaa
open Go.ChangeShapes Go.WideShapes Go.ChangeAt Go.RowKit
open Gen
theorem fen_snoc (m : Mv) : ∀ l : List Mv, fen (l ++ m :: []) = fen l ++ (if m.1 = 0 then m :: (2, 0, 0) :: [] else m :: [])
  | [] => by simp only [List.nil_append, fen]
  | x :: l => by
    rw [List.cons_append, fen, fen, fen_snoc m l]
    by_cases h : x.1 = 0
    · rw [if_pos h, if_pos h]; rfl
    · rw [if_neg h, if_neg h]; rfl
theorem fen_take {t : List Mv} {k : Nat} {m : Mv} (h : t[k]? = some m) : fen (t.take (k + 1)) = fen (t.take k) ++ (if m.1 = 0 then m :: (2, 0, 0) :: [] else m :: []) := by
  obtain ⟨hk, rfl⟩ := List.getElem?_eq_some_iff.1 h
  rw [List.take_succ_eq_append_getElem hk, fen_snoc]
theorem fen_short : ∀ l : List Mv, (fen l).length ≤ 2 * l.length
  | [] => by simp [fen]
  | x :: l => by
    have := fen_short l
    rw [fen]
    split <;> simp only [List.length_cons] <;> omega
theorem own_shapeG {k : Nat} {w : World} {B : Nat} {e : TypeId} {v : Value} {n : Nat} {xs : List Value} (h : w.ownsRow B e k v n xs) : ∃ a c, v = .slice a n c := by
  rcases h.2 with ⟨rfl, rfl⟩ | ⟨g, cap, cur, rfl, _⟩
  · exact ⟨_, _, rfl⟩
  · exact ⟨_, _, rfl⟩
theorem infoM : (Try.prog.info? 28).map (fun i => (i.zero, i.size, i.bytes)) = some (some (.agg #[.int .i64 0, .int .i64 0, .int .i64 0]), 3, 24) := by kernel_rfl
theorem cells3 (w : World) (g : Nat) (hg : g = w.heap.size) (x y z : Int) : ∀ j u, (int3 (x, y, z))[j]? = some u → (w.alloc (Obj.cells #[.int .i64 x, .int .i64 y, .int .i64 z] 28)).cell? ((⟨g, 0, none⟩ : Addr).add j) = some u := by
  intro j u hu
  rw [Gen.add_plain, Nat.zero_add]
  exact (varN_new (w := w) [.int .i64 x, .int .i64 y, .int .i64 z] (t := 28) g hg j u hu).1
/-- a row more in a row of one's own, which is then stored -/
theorem row_more {w w' : World} {B g o : Nat} {v v' x u : Value} {vs : List Value} {rows : List (List Mv)} {r : List Mv} (hf : Flat (repSlice repInt3) (fun b => B ≤ b ∧ v.ownBlock ≠ some b) w vs rows) (hr : (repSlice repInt3).R (fun b => B ≤ b ∧ v.ownBlock ≠ some b) w (x :: []) r)
    (hg : w.grownBy w' v.ownBlock) (hp : v'.ownBlock = v.ownBlock ∨ v'.ownBlock = some w.heap.size) (hgB : g < B) : Flat (repSlice repInt3) (fun b => B ≤ b ∧ v'.ownBlock ≠ some b) (w'.setCell ⟨g, o, none⟩ u) (vs ++ x :: []) (rows ++ r :: []) := by
  have f3 := flat_keep (kept_grown hg (fun b (hb : (B ≤ b ∧ v.ownBlock ≠ some b) ∧ b < w.heap.size) e => hb.1.2 e)) (flat_und (flat_snoc hr hf))
  have hQ : ∀ b, (B ≤ b ∧ v.ownBlock ≠ some b) ∧ b < w.heap.size → B ≤ b ∧ v'.ownBlock ≠ some b := by
    rintro b ⟨⟨hB, hne⟩, hlt⟩
    refine ⟨hB, ?_⟩
    rcases hp with e | e
    · rw [e]; exact hne
    · rw [e]; intro h; injection h with h; omega
  exact flat_keep (kept_set w' ⟨g, o, none⟩ u (fun b hb => by show b ≠ g; omega)) (flat_mono hQ f3)
theorem one3 (y : Mv) : ∀ u ∈ int3 y, u.oneCell' = true := by
  intro u hu
  simp only [int3, List.mem_cons, List.not_mem_nil, or_false] at hu
  rcases hu with rfl | rfl | rfl <;> rfl
/-- what Outcomes tells of whatever test -/
theorem outcomes_some (W D : Int) (q : Option Addr) (d : Nat) (ts : List (List Mv)) (w : World) (V : Vs (repSlice repInt3) Any w q ts.length ts) (hlen : ∀ t ∈ ts, t.length ≤ 100) (hl : ts.length ≤ 1000) :
    Calls Try.prog 8 #[.agg #[.int .i64 W, .int .i64 D, .slice q ts.length d]] w fun e w' => (∃ a n c k, e = .returned (.tuple #[.slice a n c, .int .i64 k])) ∧ Below w.heap.size w w' := by
  cases hm : mayL W D ts with
  | false =>
    refine (outcomes_no W D q ts.length d ts w V hlen hl hm).mono ?_
    rintro e w' ⟨rfl, hb⟩
    exact ⟨⟨_, _, _, _, rfl⟩, hb⟩
  | true =>
    refine (outcomes_row W D q d ts w V hlen hm).mono ?_
    rintro e w' ⟨v, vs, rfl, own, -, hb⟩
    obtain ⟨a, c, rfl⟩ := own_shapeG own
    exact ⟨⟨_, _, _, _, rfl⟩, hb⟩
theorem rows_fen_same {W D : Int} {ts : List (List Mv)} (hm : mayL W D (ts.map fen) = true) : srtL (rowsL W D (ts.map fen)) = srtL (rowsL W 0 ts) :=
  srt_same (rows_once hm).1 (rows_once (may_fen hm)).1 (rows_fen hm)

set_option maxRecDepth 100000 in
set_option maxHeartbeats 8000000 in
theorem Fences_walk (W D : Int) (q : Option Addr) (l d : Nat) (ts : List (List Mv)) (w : World) (hld : l ≤ d) (hd : d ≤ 9223372036854775807) (V : Vs (repSlice repInt3) Any w q l ts) :
    Calls Try.prog 3 #[.int .i64 W, .int .i64 D, .slice q l d] w (BoolPost true w) := by
  have hts := test_any W D q l d ts w hld hd V
  obtain ⟨m, hm⟩ : ∃ m, min l 4 = m := ⟨_, rfl⟩
  have hsh : ∀ t ∈ cutL ts, t.length ≤ 8 := by
    intro t ht
    simp only [cutL, List.mem_map] at ht
    obtain ⟨x, _, rfl⟩ := ht
    rw [List.length_take]; omega
  obtain ⟨cs, hcs⟩ : ∃ cs, cutL ts = cs := ⟨_, rfl⟩
  rw [hm, hcs] at hts
  rw [hcs] at hsh
  have hm4 : m ≤ 4 := by omega
  have HSH := Lib.hid hsh
  have HTS := Lib.hid hts
  obtain ⟨i0, hi, hz0, hz1, hz2⟩ := info_parts Try.info26
  have HI := Lib.hid (And.intro hi (And.intro hz0 (And.intro hz1 hz2)))
  obtain ⟨j0, ki, kz0, kz1, kz2⟩ := info_parts infoM
  have HJ := Lib.hid (And.intro ki (And.intro kz0 (And.intro kz1 kz2)))
  clear hm hcs hsh hts V hld hd hi hz0 hz1 hz2 ki kz0 kz1 kz2
  go_enter Try.func3, Try.ntmps3
  go_wp2_with fail
  refine HTS.out.mono ?_
  rintro e w1 ⟨tq, td, rfl, htd, htd2, ht0, VT, hb1⟩
  obtain rfl : cs.length = m := VT.1
  obtain ⟨m, hm⟩ : ∃ m, cs.length = m := ⟨_, rfl⟩
  obtain ⟨G, hG⟩ : ∃ G, G = (w1.alloc (Obj.cells #[.int .i64 W, .int .i64 D, .slice tq cs.length td] 24)).alloc (Obj.cells #[.int .i64 W, .int .i64 D, .slice none 0 0] 24) := ⟨_, rfl⟩
  have hbG : Below w1.heap.size w1 G := by rw [hG]; go_grown
  have X7 : VarN G w1.heap.size [.int .i64 W, .int .i64 D, .slice tq cs.length td] := by rw [hG]; exact varN_A _ (varN_new [.int .i64 W, .int .i64 D, .slice tq cs.length td] _ rfl)
  have X8 : VarN G (w1.heap.size + 1) [.int .i64 W, .int .i64 D, .slice none 0 0] := by rw [hG]; exact varN_new [.int .i64 W, .int .i64 D, .slice none 0 0] _ (by simp)
  have hgl := varN_lt X8 (by simp)
  have hw1 := hb1.size
  have HG := Lib.hid hG
  have HB := Lib.hid hbG
  have HB1 := Lib.hid hb1
  have HX7 := Lib.hid X7
  have HX8 := Lib.hid X8
  have HVT := Lib.hid (vs_old VT)
  have x2 := (X7 2 _ rfl).1
  clear hG hbG X7 X8 VT hb1 htd htd2 ht0 HTS
  rw [hm] at hm4 HG HX7 HVT x2
  have HM := Lib.hid hm
  rw [hm]
  clear hm
  go_upto_region 3 with fail
  rw [← HG.out]
  go_wp2_with fail
  go_loopw [28] (fun i wr => ∃ (k : Nat) (v : Value) (vs : List Value), k ≤ m ∧ i = .int .i64 k ∧ Hid (wr.ownsRow (w1.heap.size + 2) 26 1 v k vs) ∧ Hid (Flat (repSlice repInt3) (fun b => w1.heap.size + 2 ≤ b ∧ v.ownBlock ≠ some b) wr vs ((cs.take k).map fen)) ∧ Hid (VarN wr (w1.heap.size + 1) [.int .i64 W, .int .i64 D, v]) ∧ Hid (VarN wr w1.heap.size [.int .i64 W, .int .i64 D, .slice tq m td]) ∧ Below w1.heap.size w1 wr ∧ w1.heap.size + 2 ≤ wr.heap.size) (fun i _ => m - (intOf i).toNat)
  case atStart => exact ⟨0, _, [], Nat.zero_le _, rfl, World.ownsRow_nil _ _ _ _, (by show Flat _ _ _ _ _; rw [List.take_zero]; rfl), HX8.out, HX7.out, HB.out, by omega⟩
  case round =>
    obtain ⟨k, v, vs, hk, rfl, ho, hf, hx8, hx7, hb, hsz⟩ := hrel
    obtain ⟨wo, hwo⟩ : ∃ wo : World, wo = wr := ⟨_, rfl⟩
    subst hwo
    obtain ⟨va, vc, rfl⟩ := own_shapeG ho.out
    by_cases hlt : k < m
    · have hVT := vs_keep (kept_low hb (fun _ h => h)) HVT.out
      obtain ⟨b, o, t, p, c, hq, ht, g0, c1, c2, c3, V2⟩ := moves_at (vs_any hVT) hlt
      obtain ⟨tl, htl⟩ : ∃ tl, t.length = tl := ⟨_, rfl⟩
      have hl8 : tl ≤ 8 := by rw [← htl]; exact HSH.out t (List.mem_of_getElem? ht)
      have V3 : Vs repInt3 (fun b => b < wo.heap.size) wo p tl t := by rw [← htl]; exact vs_old V2
      rw [htl] at g0
      have HQ := Lib.hid hq
      have HT := Lib.hid ht
      have HTL := Lib.hid htl
      have HV3 := Lib.hid V3
      have i1 : (0 : Int) ≤ k := by omega
      have i2 : (k : Int) < m := by omega
      have HBB := Lib.hid hb
      subst hq
      clear ht htl c1 c2 c3 V2 V3 hVT hb
      go_wp2_with fail
      go_loopw [11, 34] (fun u i wr => ∃ (j K : Nat) (us : List Value), j ≤ tl ∧ K ≤ 2 * j ∧ i = .int .i64 j ∧ Hid ((fen (t.take j)).length = K ∧ (fen (t.take j)).flatMap int3 = us) ∧ Hid (wr.ownsRow wo.heap.size 28 3 u K us) ∧ Below wo.heap.size wo wr) (fun _ i _ => tl - (intOf i).toNat)
      case atStart => exact ⟨0, 0, [], Nat.zero_le _, Nat.le_refl _, rfl, (by show _ ∧ _; rw [List.take_zero]; exact ⟨rfl, rfl⟩), World.ownsRow_nil _ _ _ _, Below.refl _ _⟩
      case round =>
        obtain ⟨j, K, us, hj, hK, rfl, hfe, how, hbi⟩ := hrel
        obtain ⟨ua, uc, rfl⟩ := own_shapeG how.out
        by_cases hlt2 : j < tl
        · obtain ⟨b2, o2, kd, ay, vl, hp, hx, y0, y1, y2⟩ := move_at (vs_any (vs_B hbi HV3.out)) hlt2
          subst hp
          have i3 : (0 : Int) ≤ j := by omega
          have i4 : (j : Int) < tl := by omega
          have HFT := Lib.hid (fen_take hx)
          have HBI := Lib.hid hbi
          have hsi := hbi.size
          clear hx hbi
          go_wp2_with (at_builtin; refine wpList_append_own_at _ rfl (.tmp 38) (.tmp 40) 26 rfl wo.heap.size 28 j0 (.agg #[.int .i64 0, .int .i64 0, .int .i64 0]) 3 24 Try.underlying26 HJ.out.1 HJ.out.2.1 HJ.out.2.2.1 HJ.out.2.2.2 rfl (by decide) (.slice ua K uc) K us rfl ((how.out.alloc _).alloc _) ⟨wr.heap.size + 1, 0, none⟩ 1 1 (int3 (kd, ay, vl)) rfl rfl (cells3 _ _ (by simp) kd ay vl) (one3 _) (by unfold maxLen; omega) (by omega) (by simp; omega) ?_)
          intro v' w2 hown hgrow _ _
          obtain ⟨ua2, uc2, rfl⟩ := own_shapeG hown
          have z0 := (grown_cell hgrow (b := wr.heap.size) (by simp; omega) (fun e => by have := (how.out.lt _ e).2; omega) 0).1.trans (cellA _ (cell_new _ _ _ rfl rfl))
          have HB2 := Lib.hid (show Below wo.heap.size wo w2 from ((HBI.out.alloc hsi _).alloc (by simp; omega) _).grown hgrow (by simp; omega) (fun g hr => (how.out.lt g hr).1))
          have HO2 := Lib.hid hown
          have hs2 := HB2.out.size
          clear hown hgrow
          by_cases e0 : kd = 0
          · subst e0
            have HFE := Lib.hid (show (fen (t.take (j + 1))).length = K + 1 + 1 ∧ (fen (t.take (j + 1))).flatMap int3 = us ++ (int3 (0, ay, vl) ++ int3 (2, 0, 0)) by rw [HFT.out]; simp [hfe.out.1, hfe.out.2])
            go_wp2_with (at_builtin; refine wpList_append_own_at _ rfl (.tmp 45) (.tmp 47) 26 rfl wo.heap.size 28 j0 (.agg #[.int .i64 0, .int .i64 0, .int .i64 0]) 3 24 Try.underlying26 HJ.out.1 HJ.out.2.1 HJ.out.2.2.1 HJ.out.2.2.2 rfl (by decide) (.slice ua2 (K + 1) uc2) (K + 1) _ rfl (HO2.out.alloc _) ⟨w2.heap.size, 0, none⟩ 1 1 (int3 (2, 0, 0)) rfl rfl (cells3 _ _ rfl 2 0 0) (one3 _) (by unfold maxLen; omega) (by omega) (by simp; omega) ?_)
            intro v3 w3 hown hgrow _ _
            have HB3 := Lib.hid (show Below wo.heap.size wo w3 from (HB2.out.alloc hs2 _).grown hgrow (by simp; omega) (fun g hr => (HO2.out.lt g hr).1))
            have HO3 := Lib.hid hown
            clear hown hgrow z0
            go_wp2_with fail
            go_roundw
            case rel => exact ⟨j + 1, K + 1 + 1, _, by omega, by omega, by go_num, HFE.out, HO3.out, HB3.out⟩
            case measure => simp [intOf]; omega
          · have HFE := Lib.hid (show (fen (t.take (j + 1))).length = K + 1 ∧ (fen (t.take (j + 1))).flatMap int3 = us ++ int3 (kd, ay, vl) by rw [HFT.out, if_neg e0]; simp [hfe.out.1, hfe.out.2])
            have q0 : (kd == 0) = false := by simpa using e0
            clear e0
            go_wp2_with fail
            go_roundw
            case rel => exact ⟨j + 1, K + 1, _, by omega, by omega, by go_num, HFE.out, HO2.out, HB2.out⟩
            case measure => simp [intOf]; omega
        · obtain rfl : j = tl := by omega
          have hft : fen (t.take j) = fen t := by rw [List.take_of_length_le (by rw [HTL.out]; exact Nat.le_refl _)]
          rw [hft] at hfe
          have hVU := vs_own (r := repInt3) (Q := fun b => wo.heap.size ≤ b) how.out (by rw [← hfe.out.2]; exact flat_mv (fen t)) (fun b h _ => h)
          obtain ⟨a', c', e', n1, n2, n3, VU⟩ := hVU
          cases e'
          have hsi := hbi.size
          have HCT := Lib.hid (show (cs.take (k + 1)).map fen = (cs.take k).map fen ++ fen t :: [] by
            obtain ⟨hk2, rfl⟩ := List.getElem?_eq_some_iff.1 HT.out
            rw [List.take_succ_eq_append_getElem hk2, List.map_append]; rfl)
          have HEL := Lib.hid (show (repSlice repInt3).R (fun b => w1.heap.size + 2 ≤ b ∧ (Value.slice va k vc).ownBlock ≠ some b) (wr.alloc (Obj.cells #[.slice ua K uc] 26)) (.slice ua K uc :: []) (fen t) from
            (repSlice repInt3).keep (kept_A _ _) ⟨ua, uc, by rw [hfe.out.1], by rw [hfe.out.1]; exact n1, n2, n3, by rw [hfe.out.1]; exact vs_mono (fun b hb => ⟨by omega, fun e => by have := (ho.out.lt b e).2; omega⟩) VU⟩)
          have HFL := Lib.hid (flat_keep (kept_A _ (Obj.cells #[.slice ua K uc] 26)) (flat_keep (kept_B hbi) hf.out))
          have HOW := Lib.hid (own_below ho.out hbi)
          have HY8 := Lib.hid (varN_B hbi hx8.out)
          have HY7 := Lib.hid (varN_B hbi hx7.out)
          have HBI := Lib.hid (below_from HBB.out hbi)
          obtain ⟨y2, f2⟩ := HY8.out 2 _ rfl
          clear hft VU n1 n2 n3 hbi
          go_wp2_with (at_builtin; refine wpList_append_own_at _ rfl (.tmp 51) (.tmp 53) 22 rfl (w1.heap.size + 2) 26 i0 (.slice none 0 0) 1 24 Try.underlying22 HI.out.1 HI.out.2.1 HI.out.2.2.1 HI.out.2.2.2 rfl (by decide) (.slice va k vc) k vs rfl (HOW.out.alloc _) ⟨wr.heap.size, 0, none⟩ 1 1 [.slice ua K uc] rfl rfl (cell_one_new _ _ _) (by simp [Value.oneCell']) (by unfold maxLen; omega) (by omega) (by simp; omega) ?_)
          intro v' w2 hown hgrow _ hplace
          obtain ⟨va2, vc2, rfl⟩ := own_shapeG hown
          have HBG := Lib.hid (show Below (w1.heap.size + 2) (wr.alloc (Obj.cells #[.slice ua K uc] 26)) w2 from (Below.refl _ _).grown hgrow (by simp; omega) (fun g hr => (HOW.out.lt g hr).1))
          have HZ8 := Lib.hid (varN_low HBG.out (Nat.lt_succ_self _) (varN_A _ HY8.out))
          have HZ7 := Lib.hid (varN_low HBG.out (by omega) (varN_A _ HY7.out))
          have HBE := Lib.hid ((HBI.out.alloc HBI.out.size (Obj.cells #[.slice ua K uc] 26)).trans (HBG.out.mono (by omega)))
          have HFF := fun u : Value => row_more (g := w1.heap.size + 1) (o := 2) (u := u) (v' := .slice va2 (k + 1) vc2) HFL.out HEL.out hgrow (hplace.imp id (fun e => e.trans (by simp))) (Nat.lt_succ_self _)
          have HF2 := Lib.hid HFF
          have HO2 := Lib.hid hown
          have hs2 := HBG.out.size
          obtain ⟨z2, f2'⟩ := HZ8.out 2 _ rfl
          clear hown hgrow hplace HFF y2 f2
          go_wp2_with fail
          go_roundw
          case rel => exact ⟨k + 1, _, _, by omega, by go_num, own_set HO2.out _ (fun e => by have := (HO2.out.lt _ e).1; simp at this) _, (by show Flat _ _ _ _ _; rw [HCT.out]; exact HF2.out _), varN_set HZ8.out 2 (by simp) _, varN_other HZ7.out (by omega) _, HBE.out.setCell (by simp) _, by simp at hs2 ⊢; omega⟩
          case measure => simp [intOf]; omega
    · obtain rfl : k = m := by omega
      have hts : cs.take k = cs := List.take_of_length_le (by rw [HM.out]; exact Nat.le_refl _)
      rw [hts] at hf
      obtain ⟨a', c', e', -, -, -, VF⟩ := vs_own (r := repSlice repInt3) (Q := Any) ho.out (flat_mono (fun _ _ => trivial) hf.out) (fun _ _ _ => trivial)
      cases e'
      have HVF := Lib.hid VF
      have HBO := Lib.hid (below_from HB1.out hb)
      have HV7 := Lib.hid (vs_keep (kept_low hb (fun _ h => h)) HVT.out)
      have hlf : ∀ t ∈ cs.map fen, t.length ≤ 100 := by
        intro t ht
        obtain ⟨x, hx, rfl⟩ := List.mem_map.1 ht
        have h1 := fen_short x
        have h2 := HSH.out x hx
        omega
      have hlc : ∀ t ∈ cs, t.length ≤ 100 := fun t ht => by have := HSH.out t ht; omega
      have hkf : (cs.map fen).length = k := by rw [List.length_map]; exact HM.out
      obtain ⟨fs, hfs⟩ : ∃ fs, cs.map fen = fs := ⟨_, rfl⟩
      have HRS := fun h => rows_fen_same (W := W) (D := D) (ts := cs) h
      have HMF := fun h => may_fen (W := W) (D := D) (ts := cs) h
      rw [hfs] at hlf hkf HVF HRS HMF
      have HFS := Lib.hid hlf
      have HCS := Lib.hid hlc
      have HKF := Lib.hid hkf
      have HRS := Lib.hid HRS
      have HMF := Lib.hid HMF
      have X8 := hx8.out
      have hs8 := varN_lt X8 (by simp)
      obtain ⟨y0, -⟩ := X8 0 _ rfl
      obtain ⟨y1, -⟩ := X8 1 _ rfl
      obtain ⟨y2, -⟩ := X8 2 _ rfl
      clear hfs hlf hlc hkf X8 VF hb hf hts
      cases hmay : mayL W D fs with
      | false =>
        have HMY := Lib.hid hmay
        have h0 := outcomes_no W D va k vc fs wo HVF.out HFS.out (by omega) hmay
        have H0 := Lib.hid h0
        clear hmay h0
        go_wp2_with fail
        refine H0.out.mono ?_
        rintro e w2 ⟨rfl, hb2⟩
        obtain ⟨z1, g1⟩ := varN_B hb2 hx7.out 1 _ rfl
        obtain ⟨U, hU⟩ : ∃ U, U = w2.setCell ⟨w1.heap.size, 1, none⟩ (.int .i64 0) := ⟨_, rfl⟩
        have HXU := Lib.hid (show VarN U w1.heap.size [.int .i64 W, .int .i64 0, .slice tq k td] by rw [hU]; exact varN_set (varN_B hb2 hx7.out) 1 (by simp) _)
        have HVU := Lib.hid (show Vs (repSlice repInt3) (fun b => b < w1.heap.size) U tq k cs by rw [hU]; exact vs_keep (kept_set _ _ _ (fun b hb => by simp; omega)) (vs_B hb2 HV7.out))
        have HBU := Lib.hid (show Below w.heap.size w U by rw [hU]; exact (below_from HBO.out hb2).setCell (by simp; omega) _)
        have HU := Lib.hid hU
        clear hU hb2 y0 y1 y2
        go_upto_region 18 with fail
        rw [← HU.out]
        obtain ⟨x0, -⟩ := HXU.out 0 _ rfl
        obtain ⟨x1, -⟩ := HXU.out 1 _ rfl
        obtain ⟨x3, -⟩ := HXU.out 2 _ rfl
        have h1 := outcomes_some W 0 tq td cs U (by rw [HM.out]; exact vs_any HVU.out) HCS.out (by rw [HM.out]; omega)
        rw [HM.out] at h1
        have H1 := Lib.hid h1
        clear h1 z1 g1
        go_wp2_with fail
        refine H1.out.mono ?_
        rintro e w3 ⟨⟨a3, n3, c3, e3, rfl⟩, hb3⟩
        have HB3 := Lib.hid (below_from HBU.out hb3)
        clear hb3 x0 x1 x3
        go_wp2_with fail
        refine (alive4_any w3).mono ?_
        rintro e w4 ⟨rfl, hb4⟩
        have HB4 := Lib.hid (below_from HB3.out hb4)
        clear hb4
        go_wp2
        go_ret
        exact boolPost_mk rfl HB4.out
      | true =>
        have HMY := Lib.hid hmay
        obtain ⟨N, hN⟩ : ∃ N, N = (rowsL W D fs).length := ⟨_, rfl⟩
        have h0 := outcomes_row W D va vc fs wo (by rw [HKF.out]; exact HVF.out) HFS.out hmay
        rw [HKF.out, ← hN] at h0
        have hN1 : N ≤ 2000000000 := by have := rows_many hmay; omega
        have hN0 : 0 < N := by have := rows_pos hmay; omega
        obtain ⟨R, hR⟩ : ∃ R, srtL (rowsL W D fs) = R := ⟨_, rfl⟩
        rw [hR] at h0
        have HR0 := Lib.hid ((HRS.out hmay).symm.trans hR)
        have HNN := Lib.hid hN
        have HRR := Lib.hid hR
        have H0 := Lib.hid h0
        clear hmay h0 hN hR
        go_wp2_with fail
        refine H0.out.mono ?_
        rintro e w2 ⟨v2, us2, rfl, own, flat, hb2⟩
        obtain ⟨a2, c2, rfl, -, -, -, VR⟩ := vs_own (r := repSlice repInt) (Q := fun b => wo.heap.size ≤ b) own (flat_mono (fun _ h => h.1) flat) (fun b h _ => h)
        obtain ⟨z1, g1⟩ := varN_B hb2 hx7.out 1 _ rfl
        obtain ⟨U, hU⟩ : ∃ U, U = w2.setCell ⟨w1.heap.size, 1, none⟩ (.int .i64 0) := ⟨_, rfl⟩
        have HXU := Lib.hid (show VarN U w1.heap.size [.int .i64 W, .int .i64 0, .slice tq k td] by rw [hU]; exact varN_set (varN_B hb2 hx7.out) 1 (by simp) _)
        have HVU := Lib.hid (show Vs (repSlice repInt3) (fun b => b < w1.heap.size) U tq k cs by rw [hU]; exact vs_keep (kept_set _ _ _ (fun b hb => by simp; omega)) (vs_B hb2 HV7.out))
        have HRU := Lib.hid (show Vs (repSlice repInt) (fun b => wo.heap.size ≤ b) U a2 N R by rw [hU]; exact vs_keep (kept_set _ _ _ (fun b hb => by simp; omega)) VR)
        have HBU := Lib.hid (show Below w.heap.size w U by rw [hU]; exact (below_from HBO.out hb2).setCell (by simp; omega) _)
        have HU := Lib.hid hU
        clear hU hb2 own flat VR y0 y1 y2
        go_upto_region 18 with fail
        rw [← HU.out]
        obtain ⟨x0, -⟩ := HXU.out 0 _ rfl
        obtain ⟨x1, -⟩ := HXU.out 1 _ rfl
        obtain ⟨x3, -⟩ := HXU.out 2 _ rfl
        have h1 := outcomes_row W 0 tq td cs U (by rw [HM.out]; exact vs_any HVU.out) HCS.out (HMF.out HMY.out)
        obtain ⟨N2, hN2⟩ : ∃ N2, (rowsL W 0 cs).length = N2 := ⟨_, rfl⟩
        rw [HM.out, HR0.out, hN2] at h1
        have H1 := Lib.hid h1
        clear h1 hN2 z1 g1
        go_wp2_with fail
        refine H1.out.mono ?_
        rintro e w3 ⟨v3, us3, rfl, own, flat, hb3⟩
        obtain ⟨a3, c3, rfl, -, -, -, VR3⟩ := vs_own (r := repSlice repInt) (Q := Any) own (flat_mono (fun _ _ => trivial) flat) (fun _ _ _ => trivial)
        have HV3 := Lib.hid VR3
        have HR3 := Lib.hid (vs_B hb3 HRU.out)
        have HB3 := Lib.hid (below_from HBU.out hb3)
        clear hb3 x0 x1 x3 VR3 own flat
        go_wp2_with fail
        refine (alive4_any w3).mono ?_
        rintro e w4 ⟨rfl, hb4⟩
        have HB4 := Lib.hid (below_from HB3.out hb4)
        have hrw := refRows_any a2 N c2 R a3 N2 c3 R w4 (vs_any (vs_B hb4 HR3.out)) (vs_B hb4 HV3.out) (by omega)
        rw [decide_eq_true rfl] at hrw
        have HRW := Lib.hid hrw
        have i5 : (0 : Int) < N := by omega
        clear hb4 hrw
        go_wp2_with fail
        refine HRW.out.mono ?_
        rintro e w5 ⟨rfl, hb5⟩
        have HB5 := Lib.hid (below_from HB4.out hb5)
        clear hb5
        go_wp2
        go_ret
        exact boolPost_mk rfl HB5.out
end Go.Proofs.Ytcpebnafoalhnaa
