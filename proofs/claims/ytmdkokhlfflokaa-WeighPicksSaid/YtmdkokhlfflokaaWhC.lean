/- Package weigh: counting, Shares, Acts. -/
import Derived.Test.YtmdkokhlfflokaaWhB
import Derived.Maps.AppendAt
import Derived.Deep.OwnRows
namespace Go.Proofs.Ytmdkokhlfflokaa
open Go.ChangeShapes Go.WideShapes Go.ChangeAt Go.RowKit
open Gen
theorem vs_var1 {α : Type} {f : α → Value} {w : World} {g n : Nat} {l : List α} (X : VarN w g (l.map f)) (hn : l.length = n) : Vs (rep1 f) Any w (some ⟨g, 0, none⟩) n l := by
  refine ⟨hn, .inr ⟨g, 0, rfl, trivial, fun i y hi => ⟨[f y], rfl, fun j v hj => ?_⟩⟩⟩
  match j, hj with
  | 0, hj =>
    cases hj
    have := (X i (f y) (by rw [List.getElem?_map, hi]; rfl)).1
    rw [show 0 + i * (rep1 f).k + 0 = i by show 0 + i * 1 + 0 = i; omega]
    exact this
  | j + 1, hj => simp at hj
def ints (l : List Int) : List Value := l.map (Value.int .i64)
theorem ints_set (l : List Int) (k : Nat) (x : Int) : (ints l).set k (.int .i64 x) = ints (l.set k x) := by simp [ints, List.map_set]
theorem ints_at {l : List Int} {k : Nat} (h : k < l.length) : (ints l)[k]? = some (.int .i64 (l.getD k 0)) := by simp [ints, h]
theorem made_i (n : Nat) : madeCells #[.int .i64 0] n = (ints (List.replicate n 0)).toArray := by
  unfold madeCells ints
  apply Array.ext
  · simp
  · intro i h1 h2
    simp only [Array.getElem_map, Array.getElem_range]
    simp [Nat.mod_one]
theorem make_i (n : Nat) (h : n ≤ 1000) (w : World) : (Instr.makeSlice 33 (.int .i64 n) (.int .i64 n)).run Try.prog w = .ok (.slice (some ⟨w.heap.size, 0, none⟩) n n) (w.alloc (.cells (madeCells #[.int .i64 0] n) 3)) :=
  run_make_row' 33 3 (.int .i64 0) 8 Try.underlying33 infoI10 rfl .i64 .i64 n (by omega) (by omega) w
theorem var_mi (w : World) (n g : Nat) (hg : g = w.heap.size) : VarN (w.alloc (.cells (madeCells #[.int .i64 0] n) 3)) g (ints (List.replicate n 0)) := by
  rw [made_i]; exact varN_new _ _ hg
theorem listE_no {E : Int} {w w' : World} (hb : Below w.heap.size w w') : ListE [] E w (.returned (.tuple #[.slice none 0 0, .int .i64 E])) w' := ⟨none, 0, rfl, Nat.le_refl _, by decide, fun _ => rfl, vs_nil, hb⟩

set_option maxRecDepth 100000 in
set_option maxHeartbeats 4000000 in
theorem counting_any (a : Option Addr) (n c : Nat) (ws : List Nat) (w : World) (S : Vs repFl Any w a n ws) (hz : ∀ z ∈ ws, FlWf z) (hn : n ≤ 1000) :
    Calls Try.prog 25 #[.slice a n c] w (IntsPost (Fl.plT ws n).length (natsI (Fl.plT ws n)) w) := by
  have HS := Lib.hid S
  have HZ := Lib.hid hz
  obtain ⟨j0, ki, kz0, kz1, kz2⟩ := info_parts infoI10
  have HJ := Lib.hid (And.intro ki (And.intro kz0 (And.intro kz1 kz2)))
  clear S hz ki kz0 kz1 kz2
  go_enter Try.func25, Try.ntmps25
  go_wp2_with fail
  go_loopw [3, 8] (fun v i wr => ∃ (k q : Nat) (va : Option Addr) (vc : Nat), k ≤ n ∧ i = .int .i64 k ∧ v = .slice va q vc ∧ Hid ((Fl.plT ws k).length = q) ∧ q ≤ k ∧ Hid (wr.ownsRow w.heap.size 3 1 (.slice va q vc) q ((natsI (Fl.plT ws k)).map (.int .i64))) ∧ Below w.heap.size w wr) (fun _ i _ => n - (intOf i).toNat)
  case atStart => exact ⟨0, 0, none, 0, Nat.zero_le _, rfl, rfl, (by show (Fl.plT ws 0).length = 0; rfl), Nat.le_refl _, (show w.ownsRow w.heap.size 3 1 (.slice none 0 0) 0 [] from World.ownsRow_nil _ _ _ _), Below.refl _ _⟩
  case round =>
    obtain ⟨k, q, va, vc, hk, rfl, rfl, hq, hqk, ho, hb⟩ := hrel
    have HB := Lib.hid hb
    clear hb
    by_cases hlt : k < n
    · obtain ⟨b, o, x, rfl, hx, -, g0⟩ := fl_at (vs_B HB.out HS.out) hlt
      have hc : (FloatKind.f64.format.order x 0 == some .gt) = Fl.cnt x := Fl.counts_of (HZ.out x (List.mem_of_getElem? hx))
      have HN := Lib.hid (show Fl.plT ws (k + 1) = Fl.plT ws k ++ (if Fl.cnt x = true then [k] else []) by rw [Fl.plT_succ, getD_of hx])
      have i1 : (0 : Int) ≤ k := by omega
      have i2 : (k : Int) < n := by omega
      clear hx
      cases hcx : Fl.cnt x with
      | true =>
        rw [hcx] at hc
        have HSS := Lib.hid (show natsI (Fl.plT ws (k + 1)) = natsI (Fl.plT ws k) ++ (k : Int) :: [] by rw [HN.out, if_pos hcx, natsI_snoc])
        have HL := Lib.hid (show (Fl.plT ws (k + 1)).length = q + 1 by rw [HN.out, if_pos hcx, List.length_append, hq.out]; rfl)
        have hsz := HB.out.size
        obtain ⟨rw0, hrw0⟩ : ∃ R, R = (natsI (Fl.plT ws k)).map (Value.int .i64) := ⟨_, rfl⟩
        have HOR := Lib.hid (show wr.ownsRow w.heap.size 3 1 (.slice va q vc) q rw0 by rw [hrw0]; exact ho.out)
        have HRW := Lib.hid hrw0
        clear hrw0 hcx
        obtain ⟨wo, hwo⟩ : ∃ x, x = wr := ⟨_, rfl⟩
        subst hwo
        go_wp2_with (at_builtin; refine wpList_append_own _ rfl (.tmp 15) (.tmp 17) 33 rfl w.heap.size 3 j0 (.int .i64 0) 1 8 Try.underlying33 HJ.out.1 HJ.out.2.1 HJ.out.2.2.1 HJ.out.2.2.2 rfl (by decide) (.slice va q vc) q rw0 rfl (HOR.out.alloc _) ⟨wo.heap.size, 0, none⟩ 1 1 [.int .i64 k] rfl rfl (cell10 _ _ rfl _ _) (by simp [Value.oneCell']) (by unfold maxLen; omega) (by omega) (by simp; omega) ?_)
        intro v4 w4 hown hgrow _
        obtain ⟨va4, vc4, rfl⟩ := shape10 hown
        have HB4 := Lib.hid (show Below w.heap.size w w4 from (HB.out.alloc hsz _).grown hgrow (by simp; omega) (fun g hr => (HOR.out.lt g hr).1))
        have HO4 := Lib.hid (show w4.ownsRow w.heap.size 3 1 (.slice va4 (q + 1) vc4) (q + 1) ((natsI (Fl.plT ws (k + 1))).map (.int .i64)) by rw [HSS.out, List.map_append, ← HRW.out]; exact hown)
        clear hown hgrow
        go_wp2_with fail
        go_roundw
        case rel => exact ⟨k + 1, q + 1, va4, vc4, by omega, by go_num, rfl, HL.out, by omega, HO4.out, HB4.out⟩
        case measure => simp [intOf]; omega
      | false =>
        rw [hcx] at hc
        have HSS := Lib.hid (show Fl.plT ws (k + 1) = Fl.plT ws k by rw [HN.out, if_neg (by rw [hcx]; decide), List.append_nil])
        clear hcx
        go_wp2_with fail
        go_roundw
        case rel => exact ⟨k + 1, q, va, vc, by omega, by go_num, rfl, (by show (Fl.plT ws (k + 1)).length = q; rw [HSS.out]; exact hq.out), by omega, (by show World.ownsRow _ _ _ _ _ _ _; rw [HSS.out]; exact ho.out), HB.out⟩
        case measure => simp [intOf]; omega
    · obtain rfl : k = n := by omega
      go_wp2
      go_ret
      rw [hq.out]
      exact intsPost_own ho.out HB.out

/-- how often each place came among the first ones -/
def partF (ps : List Int) (m k : Nat) : List Int := (List.range m).map fun i : Nat => ((cntI ps (i : Int) k : Nat) : Int)
theorem part_len (ps : List Int) (m k : Nat) : (partF ps m k).length = m := by simp [partF]
theorem part_zero (ps : List Int) (m : Nat) : partF ps m 0 = List.replicate m 0 := by
  apply List.ext_getElem
  · simp [partF]
  · intro i h1 h2; simp [partF, cntI]
theorem part_at {ps : List Int} {m k i : Nat} (h : i < m) : (partF ps m k).getD i 0 = ((cntI ps (i : Int) k : Nat) : Int) := by
  simp [partF, h]
theorem part_succ {ps : List Int} {m k p : Nat} (h : ps[k]? = some (p : Int)) (_hp : p < m) : partF ps m (k + 1) = (partF ps m k).set p (((cntI ps (p : Int) k : Nat) : Int) + 1) := by
  apply List.ext_getElem
  · simp [partF]
  · intro i h1 h2
    rw [List.getElem_set]
    simp only [partF, List.getElem_map, List.getElem_range]
    rw [cntI_succ h]
    by_cases e : p = i
    · subst e; rw [if_pos rfl, if_pos rfl]; rfl
    · rw [if_neg e, if_neg (by omega)]; rfl
/-- are all of the first ones places? -/
def inTo (ps : List Int) (m : Int) (k : Nat) : Prop := ∀ j x, j < k → ps[j]? = some x → 0 ≤ x ∧ x < m
theorem inTo_all {ps : List Int} {m : Int} {n : Nat} (hn : ps.length = n) (h : inTo ps m n) : ps.all (fun p => decide (0 ≤ p ∧ p < m)) = true := by
  rw [List.all_eq_true]
  intro x hx
  obtain ⟨j, hj, rfl⟩ := List.mem_iff_getElem.1 hx
  exact decide_eq_true (h j _ (by omega) (List.getElem?_eq_getElem hj))
theorem inTo_no {ps : List Int} {m x : Int} {k : Nat} (hx : ps[k]? = some x) (h : x < 0 ∨ m ≤ x) : ps.all (fun p => decide (0 ≤ p ∧ p < m)) = false := by
  rw [List.all_eq_false]
  exact ⟨x, List.mem_of_getElem? hx, by simp; omega⟩
theorem listE_no' {l : List Int} {E F : Int} {w w' : World} (hl : l = []) (he : E = F) (hb : Below w.heap.size w w') : ListE l E w (.returned (.tuple #[.slice none 0 0, .int .i64 F])) w' := by
  subst hl he; exact listE_no hb

set_option maxRecDepth 100000 in
set_option maxHeartbeats 4000000 in
theorem wShares_any (a : Option Addr) (n c : Nat) (ps : List Int) (M : Int) (w : World) (S : Vs repInt Any w a n ps) (hn : n ≤ 1000) :
    Calls Try.prog 14 #[.slice a n c, .int .i64 M] w (ListE (shL ps M) (shE ps M) w) := by
  have HS := Lib.hid S
  have HPL := Lib.hid S.1
  clear S
  by_cases h1 : M < 0
  · have hE : shE ps M = 2 := if_pos (.inl h1)
    have HE := Lib.hid hE
    have HL := Lib.hid (show shL ps M = [] by rw [shL, hE]; rfl)
    clear hE
    go_enter Try.func14, Try.ntmps14
    go_wp2
    go_ret2
    exact listE_no' HL.out HE.out (Below.refl _ _)
  · by_cases h2 : 8 < M
    · have hE : shE ps M = 2 := if_pos (.inr h2)
      have HE := Lib.hid hE
      have HL := Lib.hid (show shL ps M = [] by rw [shL, hE]; rfl)
      clear hE
      go_enter Try.func14, Try.ntmps14
      go_wp2
      go_ret2
      exact listE_no' HL.out HE.out (Below.refl _ _)
    · obtain ⟨m, rfl⟩ : ∃ m : Nat, M = m := ⟨M.toNat, by omega⟩
      have hmk := make_i m (by omega)
      have hm8 : m ≤ 8 := by omega
      obtain ⟨W, hW⟩ : ∃ X, X = w.alloc (.cells (madeCells #[.int .i64 0] m) 3) := ⟨_, rfl⟩
      have X0 := var_mi w m w.heap.size rfl
      rw [← hW] at X0
      have HX0 := Lib.hid X0
      have HBW := Lib.hid (show Below w.heap.size w W by rw [hW]; go_grown)
      have HW := Lib.hid hW
      clear X0 hW
      go_enter Try.func14, Try.ntmps14
      go_upto_region 4 with fail
      rw [← HW.out]
      clear hmk
      go_wp2_with fail
      go_loopw [19] (fun i wr => ∃ k : Nat, k ≤ n ∧ i = .int .i64 k ∧ Hid (inTo ps m k) ∧ Hid (VarN wr w.heap.size (ints (partF ps m k))) ∧ Below w.heap.size w wr) (fun i _ => n - (intOf i).toNat)
      case atStart => exact ⟨0, Nat.zero_le _, rfl, (fun j x h => by omega), (by show VarN _ _ _; rw [part_zero]; exact HX0.out), HBW.out⟩
      case round =>
        obtain ⟨k, hk, rfl, hin, hX, hb⟩ := hrel
        have HB := Lib.hid hb
        clear hb
        by_cases hlt : k < n
        · obtain ⟨b, o, x, rfl, hx, -, hat⟩ := vs_at (vs_B HB.out HS.out) hlt
          have g0 := at_int hat
          rw [show repInt.k = 1 from rfl, Nat.mul_one] at g0
          have i1 : (0 : Int) ≤ k := by omega
          have i2 : (k : Int) < n := by omega
          have HX := Lib.hid hx
          clear hx hat
          by_cases l1 : x < 0
          · have hE : shE ps m = 3 := by rw [shE, if_neg (by omega), if_neg (by rw [inTo_no HX.out (.inl l1)]; decide)]
            have HE := Lib.hid hE
            have HL := Lib.hid (show shL ps m = [] by rw [shL, hE]; rfl)
            clear hE
            go_wp2
            go_ret2
            exact listE_no' HL.out HE.out HB.out
          · by_cases l2 : (m : Int) ≤ x
            · have hE : shE ps m = 3 := by rw [shE, if_neg (by omega), if_neg (by rw [inTo_no HX.out (.inr l2)]; decide)]
              have HE := Lib.hid hE
              have HL := Lib.hid (show shL ps m = [] by rw [shL, hE]; rfl)
              clear hE
              go_wp2
              go_ret2
              exact listE_no' HL.out HE.out HB.out
            · obtain ⟨p, rfl⟩ : ∃ p : Nat, x = p := ⟨x.toNat, by omega⟩
              have hpm : p < m := by omega
              have j1 : (0 : Int) ≤ p := by omega
              have j2 : (p : Int) < m := by omega
              have hpl : p < (ints (partF ps m k)).length := by simp [ints, part_len, hpm]
              obtain ⟨c1, f1⟩ := hX.out p _ (ints_at (by rw [part_len]; exact hpm))
              rw [part_at hpm] at c1
              have HN := Lib.hid (part_succ HX.out hpm)
              have hcl := cntI_le ps (p : Int) k
              obtain ⟨q, hq⟩ : ∃ q, cntI ps (p : Int) k = q := ⟨_, rfl⟩
              rw [hq] at c1 HN hcl
              have HIN := Lib.hid (show inTo ps m (k + 1) from fun j x hj hx => by
                by_cases e : j = k
                · subst e
                  rw [HX.out] at hx
                  cases hx
                  omega
                · exact hin.out j x (by omega) hx)
              obtain ⟨wo, hwo⟩ : ∃ x, x = wr := ⟨_, rfl⟩
              subst hwo
              have HXN := Lib.hid (show VarN (wo.setCell ⟨w.heap.size, p, none⟩ (.int .i64 ((q : Int) + 1))) w.heap.size (ints (partF ps m (k + 1))) by
                rw [HN.out, ← ints_set]; exact varN_set hX.out p hpl _)
              have HBN := Lib.hid (show Below w.heap.size w (wo.setCell ⟨w.heap.size, p, none⟩ (.int .i64 ((q : Int) + 1))) from HB.out.setCell (p := ⟨w.heap.size, p, none⟩) (Nat.le_refl _) _)
              clear hq hpl hX hin l1 l2
              go_wp2_with fail
              go_roundw
              case rel => exact ⟨k + 1, by omega, by go_num, HIN.out, HXN.out, HBN.out⟩
              case measure => simp [intOf]; omega
        · obtain rfl : k = n := by omega
          have hE : shE ps m = 0 := by rw [shE, if_neg (by omega), if_pos (inTo_all HPL.out hin.out)]
          have HE := Lib.hid hE
          have HL := Lib.hid (show shL ps m = partF ps m k by rw [shL, if_pos hE, sharesF, partF, Int.toNat_natCast, HPL.out])
          have HV := Lib.hid (vs_var1 hX.out (part_len ps m k))
          clear hE hX hin
          go_wp2
          go_ret2
          rw [HE.out, HL.out]
          rw [ListE, part_len]
          exact ⟨some ⟨w.heap.size, 0, none⟩, m, rfl, Nat.le_refl _, by omega, (fun h => by cases h), HV.out, HB.out⟩
end Go.Proofs.Ytmdkokhlfflokaa
