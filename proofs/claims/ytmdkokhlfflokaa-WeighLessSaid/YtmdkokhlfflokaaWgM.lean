/- The walk of WeighLess, over what package weigh must answer. -/
import Derived.Test.YtmdkokhlfflokaaWgE
import Derived.Maps.AppendAt
import Derived.Laws.AppendOwnNone
namespace Go.Proofs.Ytmdkokhlfflokaa
open Go.ChangeShapes Go.WideShapes Go.ChangeAt Go.RowKit
open Gen
theorem vs_cellsFl {Q : Nat → Prop} {w : World} {a : Option Addr} {n : Nat} {ys : List Nat} (h : Vs repFl Q w a n ys) : ∀ b, a = some b → ∀ j u, (ys.map (Value.float .f64))[j]? = some u → w.cell? (b.add j) = some u := vs_cells1 h
theorem one_fls (l : List Nat) : ∀ u ∈ l.map (Value.float .f64), u.oneCell' = true := by
  intro u hu
  obtain ⟨z, _, rfl⟩ := List.mem_map.1 hu
  rfl
def LessCut (w : World) (zs : List Nat) (s0 : Value) (wx : World) : Prop :=
  ∃ va vc, s0 = .slice va zs.length vc ∧ zs.length ≤ vc ∧ vc ≤ 9223372036854775807 ∧ (va = none → vc = 0) ∧ Vs repFl Any wx va zs.length zs ∧ Below w.heap.size w wx
theorem lessCut_mk {w w' : World} {zs : List Nat} {v : Value} {n : Nat} (hn : zs.length = n) (ho : w'.ownsRow w.heap.size 23 1 v n (zs.map (.float .f64))) (hb : Below w.heap.size w w') : LessCut w zs v w' := by
  subst hn
  obtain ⟨a, c, rfl, h1, h2, h3, V⟩ := vs_own (r := repFl) (Q := Any) ho (flat_map1 (.float .f64) zs) (fun _ _ _ => trivial)
  exact ⟨a, c, rfl, h1, h2, h3, V, hb⟩

set_option maxRecDepth 100000 in
set_option maxHeartbeats 8000000 in
theorem Less10_walk (W : WeighOk) (p : Option Addr) (n c : Nat) (zs : List Nat) (a b : Nat) (w : World) (hnc : n ≤ c) (hc : c ≤ 9223372036854775807) (hp : p = none → c = 0) (V : Vs repFl Any w p n zs) (hz : ∀ z ∈ zs, FlWf z) (ha : FlWf a) (hb : FlWf b) :
    Calls Try.prog 3 #[.slice p n c, .float .f64 a, .float .f64 b] w (BoolPost true w) := by
  have hfew := fun u => few10_any p n c u hnc hc
  obtain ⟨m, hm⟩ : ∃ m, min n 12 = m := ⟨_, rfl⟩
  rw [hm] at hfew
  have VT := vs_und (vs_take V m (by omega))
  obtain ⟨ys, hys⟩ : ∃ ys, zs.take m = ys := ⟨_, rfl⟩
  rw [hys] at VT
  have hm12 : m ≤ 12 := by omega
  have hmc : m ≤ c := by omega
  obtain ⟨f0, li, lz0, lz1, lz2⟩ := info_parts infoF10
  have HF := Lib.hid (And.intro li (And.intro lz0 (And.intro lz1 lz2)))
  obtain ⟨G, hG⟩ : ∃ X, X = w.alloc (Obj.cells #[] 23) := ⟨_, rfl⟩
  have hbG : Below w.heap.size w G := by rw [hG]; go_grown
  have HO := Lib.hid (show G.ownsRow w.heap.size 23 1 (.slice (some ⟨w.heap.size, 0, none⟩) 0 0) 0 [] by rw [hG]; exact World.ownsRow_lit w #[] 0 (Nat.le_refl _) (by decide) rfl)
  have HVT := Lib.hid (vs_keep (kept_low hbG (fun _ h => h.2)) VT)
  have hsG := hbG.size
  have HFE := Lib.hid hfew
  have HBG := Lib.hid hbG
  have HG := Lib.hid hG
  have hyl : ys.length = m := VT.1
  have HYL := Lib.hid hyl
  have HYZ := Lib.hid (show ∀ z ∈ ys ++ a :: [], FlWf z by
    intro z hz2
    rcases List.mem_append.1 hz2 with h | h
    · rw [← hys] at h; exact hz z (List.mem_of_mem_take h)
    · rw [List.mem_singleton] at h; subst h; exact ha)
  have HAL := Lib.hid (fun u => alive10_any W u)
  have HLP := Lib.hid (fun u => W.less a b u ha hb)
  have HLR := Lib.hid (fun u => ref10Less_any a b u ha hb)
  have HLE := Lib.hid W.least
  clear hfew hm VT V hys hz li lz0 lz1 lz2 hbG hG ha hb W
  go_enter Try.func3, Try.ntmps3
  go_upto_region 1 with fail
  go_cut [0] (fun s0 wx => LessCut w (ys ++ a :: []) s0 wx)
  case first =>
    go_wp2_with fail
    rw [← HG.out]
    refine (HFE.out _).mono ?_
    rintro e w1 ⟨rfl, hw1⟩
    subst hw1
    by_cases hpn : p = none
    · subst hpn
      obtain rfl : c = 0 := hp rfl
      obtain rfl : m = 0 := by omega
      obtain rfl : ys = [] := List.eq_nil_of_length_eq_zero hyl
      go_wp2_with (at_builtin; first | (refine wpList_append_own_none rfl _ _ 22 rfl w.heap.size 23 f0 1 Try.underlying22 HF.out.1 _ _ _ rfl HO.out rfl ?_) | (refine wpList_append_own _ rfl (.tmp 14) (.tmp 16) 22 rfl w.heap.size 23 f0 (.float .f64 0) 1 8 Try.underlying22 HF.out.1 HF.out.2.1 HF.out.2.2.1 HF.out.2.2.2 rfl (by decide) (.slice (some ⟨w.heap.size, 0, none⟩) 0 0) 0 [] rfl (HO.out.alloc _) ⟨w1.heap.size, 0, none⟩ 1 1 [.float .f64 a] rfl rfl (cell10 _ _ rfl _ _) (by simp [Value.oneCell']) (by unfold maxLen; omega) (by omega) (by simp; omega) ?_))
      intro v4 w4 hown hgrow _
      have HB4 := Lib.hid (show Below w.heap.size w w4 from (HBG.out.alloc hsG _).grown hgrow (by simp; omega) (fun g hr => (HO.out.lt g hr).1))
      have HO4 := Lib.hid hown
      clear hown hgrow
      go_wp2_with fail
      go_meet
      exact lessCut_mk (n := 1) rfl HO4.out HB4.out
    · obtain ⟨ap, rfl⟩ := Option.ne_none_iff_exists'.1 hpn
      have HCX := Lib.hid (vs_cellsFl HVT.out _ rfl)
      have hml : (ys.map (Value.float .f64)).length = m * 1 := by rw [List.length_map, hyl, Nat.mul_one]
      go_wp2_with (at_builtin; refine wpList_append_own _ rfl (.tmp 11) (.tmp 13) 22 rfl w.heap.size 23 f0 (.float .f64 0) 1 8 Try.underlying22 HF.out.1 HF.out.2.1 HF.out.2.2.1 HF.out.2.2.2 rfl (by decide) (.slice (some ⟨w.heap.size, 0, none⟩) 0 0) 0 [] rfl HO.out ap m c (ys.map (.float .f64)) rfl hml HCX.out (one_fls ys) (by unfold maxLen; omega) (by omega) hsG ?_)
      intro v3 w3 hown hgrow _
      obtain ⟨va3, vc3, rfl⟩ := shape10 hown
      have hb3 : Below w.heap.size w w3 := HBG.out.grown hgrow hsG (fun g hr => (HO.out.lt g hr).1)
      have HO3 := Lib.hid (show w3.ownsRow w.heap.size 23 1 (.slice va3 m vc3) m (ys.map (.float .f64)) by first | exact hown | (rw [Nat.zero_add, List.nil_append] at hown; exact hown) | (simpa using hown))
      obtain ⟨rw0, hrw0⟩ : ∃ R, R = ys.map (Value.float .f64) := ⟨_, rfl⟩
      have HOR := Lib.hid (show w3.ownsRow w.heap.size 23 1 (.slice va3 m vc3) m rw0 by rw [hrw0]; exact HO3.out)
      have HRW := Lib.hid hrw0
      have HB3 := Lib.hid hb3
      have hs3 := hb3.size
      clear hown hgrow hb3 hrw0 hml
      go_wp2_with (at_builtin; refine wpList_append_own _ rfl (.tmp 14) (.tmp 16) 22 rfl w.heap.size 23 f0 (.float .f64 0) 1 8 Try.underlying22 HF.out.1 HF.out.2.1 HF.out.2.2.1 HF.out.2.2.2 rfl (by decide) (.slice va3 m vc3) m rw0 rfl (HOR.out.alloc _) ⟨w3.heap.size, 0, none⟩ 1 1 [.float .f64 a] rfl rfl (cell10 _ _ rfl _ _) (by simp [Value.oneCell']) (by unfold maxLen; omega) (by omega) (by simp; omega) ?_)
      intro v4 w4 hown hgrow _
      have HB4 := Lib.hid (show Below w.heap.size w w4 from (HB3.out.alloc hs3 _).grown hgrow (by simp; omega) (fun g hr => (HOR.out.lt g hr).1))
      have HO4 := Lib.hid (show w4.ownsRow w.heap.size 23 1 v4 (m + 1) ((ys ++ a :: []).map (.float .f64)) by rw [List.map_append, ← HRW.out]; exact hown)
      clear hown hgrow
      go_wp2_with fail
      go_meet
      exact lessCut_mk (n := m + 1) (by simp [HYL.out]) HO4.out HB4.out
  case rest =>
    obtain ⟨va, vc, rfl, h1, h2, h3, VL, hbw⟩ := hcut
    obtain ⟨xs, hxs⟩ : ∃ xs, ys ++ a :: [] = xs := ⟨_, rfl⟩
    rw [hxs] at h1 VL HYZ ⊢
    obtain ⟨N, hN⟩ : ∃ N, xs.length = N := ⟨_, rfl⟩
    have hN13 : N = m + 1 := by rw [← hN, ← hxs, List.length_append, hyl]; rfl
    rw [hN] at h1 VL ⊢
    have h0 := HLE.out va N vc xs wc VL HYZ.out (by omega) h1 h2 h3
    rw [if_neg (by omega), if_neg (by omega)] at h0
    obtain ⟨lk, hlk⟩ : ∃ k, Fl.leastL xs N = k := ⟨_, rfl⟩
    rw [hlk] at h0
    have HH0 := Lib.hid h0
    have HLK := Lib.hid hlk
    have HVL := Lib.hid VL
    have HBW := Lib.hid hbw
    have hN0 : 0 < N := by omega
    have hN1000 : N ≤ 1000 := by omega
    clear h0 hlk VL hbw hN hxs hN13 hyl
    obtain ⟨wq, hwq⟩ : ∃ x, x = wc := ⟨_, rfl⟩
    subst hwq
    go_wp2_with fail
    refine HH0.out.mono ?_
    rintro e w2 ⟨rfl, hb2⟩
    have h4 := HLE.out none 0 0 [] w2 vs_nil (fun z hz => by cases hz) (by decide) (by decide) (by decide) (fun _ => rfl)
    rw [if_pos rfl, if_pos rfl] at h4
    have HH4 := Lib.hid h4
    have HB2 := Lib.hid hb2
    clear hb2 h4
    go_wp2_with fail
    refine HH4.out.mono ?_
    rintro e w3 ⟨rfl, hb3⟩
    have HB3 := Lib.hid (below_from HB2.out hb3)
    clear hb3
    go_wp2_with fail
    refine (HAL.out _).mono ?_
    rintro e w4 ⟨rfl, hb4⟩
    have HB4 := Lib.hid (below_from HB3.out hb4)
    clear hb4
    go_wp2_with fail
    refine (HLP.out _).mono ?_
    rintro e w5 ⟨rfl, hb5⟩
    have HB5 := Lib.hid (below_from HB4.out hb5)
    clear hb5
    obtain ⟨bb, hbb⟩ : ∃ z, Fl.lessF a b = z := ⟨_, rfl⟩
    rw [hbb] at HLR ⊢
    have qb : (bb == bb) = true := by simp
    clear hbb
    go_wp2_with fail
    refine (HLR.out _).mono ?_
    rintro e w6 ⟨rfl, hw6⟩
    subst hw6
    have h7 := least_any va N vc xs w6 (vs_keep (kept_B HB5.out) HVL.out) HYZ.out hN1000 hN0
    rw [HLK.out] at h7
    have HH7 := Lib.hid h7
    have ql : ((lk : Int) == lk) = true := by simp
    clear h7
    go_wp2_with fail
    refine HH7.out.mono ?_
    rintro e w7 ⟨rfl, hw7⟩
    subst hw7
    go_wp2
    go_ret
    exact boolPost_mk rfl (HBW.out.trans (HB5.out.mono HBW.out.size))
end Go.Proofs.Ytmdkokhlfflokaa
