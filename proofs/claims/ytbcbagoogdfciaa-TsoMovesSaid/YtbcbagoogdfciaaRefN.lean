/- Contracts of the document's own answers of layer 2 (package respiteref02): May, Newest, Same, Push, Rest. -/
import Derived.Test.YtbcbagoogdfciaaBufA
namespace Go.Proofs.Ytbcbagoogdfciaa
open Go.ChangeShapes Go.WideShapes Go.ChangeAt Go.RowKit

def mayP (n : Nat) (depth : Int) : Bool := decide (0 ≤ depth ∧ depth ≤ 8 ∧ (n : Int) ≤ depth)
theorem newestV_snoc (ps : List (Int × Int)) (k : Nat) (x : Int) (h : k < ps.length) (p : Int × Int) (hp : ps.getD k (0, 0) = p) :
    (p.1 = x → newestV (ps.take (k + 1)) x = p.2 ∧ newestB (ps.take (k + 1)) x = true) ∧ (p.1 ≠ x → newestV (ps.take (k + 1)) x = newestV (ps.take k) x ∧ newestB (ps.take (k + 1)) x = newestB (ps.take k) x) := by
  subst hp
  simp only [newestV, newestB, newest_take ps k x h]
  constructor
  · intro e; rw [if_pos e]; exact ⟨rfl, rfl⟩
  · intro e; rw [if_neg e]; exact ⟨rfl, rfl⟩

def NewPost (v : Int) (i : Bool) (w : World) (e : Ending) (w' : World) : Prop := e = .returned (.tuple #[.int .i64 v, .bool i]) ∧ Below w.heap.size w w'
theorem newPost_mk {v z : Int} {i t : Bool} {w w' : World} (h1 : v = z) (h2 : i = t) (hb : Below w.heap.size w w') : NewPost v i w (.returned (.tuple #[.int .i64 z, .bool t])) w' := by subst h1; subst h2; exact ⟨rfl, hb⟩
set_option maxHeartbeats 2000000 in
theorem refNewest_any (a : Option Addr) (n c : Nat) (ps : List (Int × Int)) (x : Int) (w : World) (S : Pl w a n ps) (hn : n ≤ 9223372036854775807) :
    Calls Try.prog 38 #[.slice a n c, .int .i64 x] w (NewPost (newestV ps x) (newestB ps x) w) := by
  have Hn := Lib.hid S.1
  go_enter Try.func38, Try.ntmps38
  go_wp2
  go_loopw [6, 7, 12] (fun v i s wr => ∃ (k : Nat) (z : Int) (t : Bool), k ≤ n ∧ s = .int .i64 k ∧ v = .int .i64 z ∧ i = .bool t ∧ Hid (newestV (ps.take k) x = z ∧ newestB (ps.take k) x = t) ∧ Below w.heap.size w wr) (fun _ _ s _ => n - (intOf s).toNat)
  case atStart => exact ⟨0, 0, false, by omega, rfl, rfl, rfl, ⟨rfl, rfl⟩, Below.refl _ _⟩
  case round =>
    obtain ⟨k, z, t, hk, rfl, rfl, rfl, hz, hb⟩ := hrel
    by_cases hlt : k < n
    · obtain ⟨b, o, rfl, R⟩ := S.2.resolve_left (by omega)
      have g := R k (by rw [Hn.out]; exact hlt)
      have g1 := cellB hb g.1
      have g2 := cellB hb g.2
      have hsz := hb.size
      obtain ⟨p, hp⟩ : ∃ p, ps.getD k (0, 0) = p := ⟨_, rfl⟩
      rw [hp] at g1 g2
      have HN := Lib.hid (newestV_snoc ps k x (by rw [Hn.out]; exact hlt) p hp)
      have HB := Lib.hid hb
      clear g hp hb
      by_cases e : p.1 = x
      · have HZ := Lib.hid (HN.out.1 e)
        have q : (p.1 == x) = true := by simpa using e
        clear e
        go_wp2
        go_roundw
        case rel => exact ⟨k + 1, p.2, true, by omega, by go_num, rfl, rfl, HZ.out, HB.out.alloc hsz _⟩
        case measure => simp [intOf]; omega
      · have HZ := Lib.hid (HN.out.2 e)
        have q : (p.1 == x) = false := by simpa using e
        clear e
        go_wp2
        go_roundw
        case rel => exact ⟨k + 1, z, t, by omega, by go_num, rfl, rfl, ⟨HZ.out.1.trans hz.out.1, HZ.out.2.trans hz.out.2⟩, HB.out.alloc hsz _⟩
        case measure => simp [intOf]; omega
    · obtain rfl : k = n := by omega
      have E : Hid (ps.take k = ps) := List.take_of_length_le (by rw [Hn.out]; omega)
      have h1 := hz.out.1
      have h2 := hz.out.2
      rw [E.out] at h1 h2
      have H1 := Lib.hid h1
      have H2 := Lib.hid h2
      have HB := Lib.hid hb
      clear hb h1 h2
      go_wp2
      go_ret2
      exact newPost_mk H1.out H2.out HB.out

theorem neq_put (x y x' y' : Int) (w : World) : (binOp .neq 53 (.agg #[.int .i64 x, .int .i64 y]) (.agg #[.int .i64 x', .int .i64 y'])).run Try.prog w = .ok (.bool (!(x == x' && y == y'))) w := by
  simp [go_sem, binOp, Op.equal, Op.maxDepth]
  by_cases h1 : x = x'
  · by_cases h2 : y = y'
    · simp [h1, h2]
    · simp [h1, h2]
  · simp [h1]
theorem eql_put (x y x' y' : Int) (w : World) : (binOp .eql 53 (.agg #[.int .i64 x, .int .i64 y]) (.agg #[.int .i64 x', .int .i64 y'])).run Try.prog w = .ok (.bool (x == x' && y == y')) w := by
  simp [go_sem, binOp, Op.equal, Op.maxDepth]
  by_cases h1 : x = x'
  · by_cases h2 : y = y'
    · simp [h1, h2]
    · simp [h1, h2]
  · simp [h1]

def BoolPost (r : Bool) (w : World) (e : Ending) (w' : World) : Prop := e = .returned (.bool r) ∧ Below w.heap.size w w'
theorem boolPost_mk {r s : Bool} {w w' : World} (h : r = s) (hb : Below w.heap.size w w') : BoolPost r w (.returned (.bool s)) w' := by subst h; exact ⟨rfl, hb⟩

set_option maxHeartbeats 2000000 in
theorem refSameP_any (a b : Option Addr) (n c m d : Nat) (xs ys : List (Int × Int)) (w : World) (S1 : Pl w a n xs) (S2 : Pl w b m ys) (hn : n ≤ 9223372036854775807) :
    Calls Try.prog 29 #[.slice a n c, .slice b m d] w (BoolPost (samePB xs ys) w) := by
  have Hx := Lib.hid S1.1
  have Hy := Lib.hid S2.1
  by_cases hl : m = n
  · subst hl
    have q : ((m : Int) != m) = false := by simp
    go_enter Try.func29, Try.ntmps29
    go_wp2
    go_loopw [13] (fun s wr => ∃ k : Nat, k ≤ m ∧ s = .int .i64 k ∧ Hid (SamePTo xs ys k) ∧ Below w.heap.size w wr) (fun s _ => m - (intOf s).toNat)
    case atStart => exact ⟨0, by omega, rfl, by intro j hj; omega, Below.refl _ _⟩
    case round =>
      obtain ⟨k, hk, rfl, hs, hb⟩ := hrel
      by_cases hlt : k < m
      · obtain ⟨b1, o1, rfl, R1⟩ := S1.2.resolve_left (by omega)
        obtain ⟨b2, o2, rfl, R2⟩ := S2.2.resolve_left (by omega)
        have g1 := cellB hb (R1 k (by rw [Hx.out]; exact hlt)).1
        have g2 := cellB hb (R1 k (by rw [Hx.out]; exact hlt)).2
        have g3 := cellB hb (R2 k (by rw [Hy.out]; exact hlt)).1
        have g4 := cellB hb (R2 k (by rw [Hy.out]; exact hlt)).2
        obtain ⟨x, hxv⟩ : ∃ x, xs.getD k (0, 0) = x := ⟨_, rfl⟩
        obtain ⟨y, hyv⟩ : ∃ y, ys.getD k (0, 0) = y := ⟨_, rfl⟩
        rw [hxv] at g1 g2
        rw [hyv] at g3 g4
        obtain ⟨x1, x2⟩ := x
        obtain ⟨y1, y2⟩ := y
        have HX := Lib.hid hxv
        have HY := Lib.hid hyv
        have HB := Lib.hid hb
        have i1 : (0 : Int) ≤ k := by omega
        have i2 : (k : Int) < m := by omega
        dsimp only at g1 g2 g3 g4
        clear hxv hyv hb
        have q4 := fun w => neq_put x1 x2 y1 y2 w
        by_cases e : x1 = y1 ∧ x2 = y2
        · obtain ⟨rfl, rfl⟩ := e
          have HS := Lib.hid (samePTo_succ hs.out (HX.out.trans HY.out.symm))
          have q2 : (x1 == x1 && x2 == x2) = true := by simp
          go_wp2
          go_quiet (fail)
          go_wp2
          go_roundw
          case rel => exact ⟨k + 1, by omega, by go_num, HS.out, below_drewN HB.out _⟩
          case measure => simp [intOf]; omega
        · have HF := Lib.hid (samePB_at (xs := xs) (ys := ys) k (by rw [HX.out, HY.out]; intro h; cases h; exact e ⟨rfl, rfl⟩))
          have q2 : (x1 == y1 && x2 == y2) = false := by
            rw [Bool.eq_false_iff]; intro h; simp at h; exact e h
          clear e
          go_wp2
          go_quiet (fail)
          go_wp2
          go_ret
          exact boolPost_mk HF.out (below_drewN HB.out _)
      · obtain rfl : k = m := by omega
        have HF := Lib.hid (samePB_all (xs := xs) (ys := ys) (by rw [Hx.out, Hy.out]) (by rw [Hx.out]; exact hs.out))
        go_wp2
        go_ret
        exact boolPost_mk HF.out hb
  · have HF := Lib.hid (samePB_len (xs := xs) (ys := ys) (by rw [Hx.out, Hy.out]; omega))
    have q : ((n : Int) != m) = true := by simp; omega
    clear hl
    go_enter Try.func29, Try.ntmps29
    go_wp2
    go_ret
    exact boolPost_mk HF.out (Below.refl _ _)

def PutsPost (ps : List (Int × Int)) (w : World) (e : Ending) (w' : World) : Prop := ∃ a c, e = .returned (.slice a ps.length c) ∧ CapOk a ps.length c ∧ PlF w.heap.size w' a ps.length ps ∧ Below w.heap.size w w'
theorem putsPost_mk {ps qs : List (Int × Int)} {w w' : World} {v : Value} {n : Nat} (hq : qs = ps) (hn : ps.length = n) (h : w'.ownsRow w.heap.size 53 2 v n (pcells ps)) (hb : Below w.heap.size w w') : PutsPost qs w (.returned v) w' := by
  subst hq
  subst hn
  obtain ⟨a, c, rfl, hc, hs⟩ := ownsRow_plF h
  exact ⟨a, c, rfl, hc, hs, hb⟩

theorem pl_cells {w : World} {p : Addr} {n : Nat} {ps : List (Int × Int)} (S : Pl w (some p) n ps) : ∀ W, Below w.heap.size w W → ∀ j u, (pcells ps)[j]? = some u → W.cell? (p.add j) = some u := by
  intro W hW j u hu
  have hj : j < ps.length * 2 := by rw [← pcells_length]; exact (List.getElem?_eq_some_iff.1 hu).1
  obtain ⟨b, o, e, R⟩ := S.2.resolve_left (by have := S.1; omega)
  cases e
  rw [add_none]
  exact pcells_cell (prowB hW R) j u hu
set_option maxHeartbeats 4000000 in
theorem refPush_any (a : Option Addr) (n c : Nat) (ps : List (Int × Int)) (x y : Int) (w : World) (S : Pl w a n ps) (hn : n ≤ 1000) (h0 : a = none → c = 0) :
    Calls Try.prog 41 #[.slice a n c, .agg #[.int .i64 x, .int .i64 y]] w (PutsPost (ps ++ [(x, y)]) w) := by
  obtain ⟨i0, hi, hz0, hz1, hz2⟩ := info_parts Try.info53
  have HI := Lib.hid (And.intro hi (And.intro hz0 (And.intro hz1 hz2)))
  have Hn := Lib.hid S.1
  have hown0 : ((w.alloc (Obj.cells #[.int .i64 x, .int .i64 y] 53)).alloc (.cells #[] 53)).ownsRow w.heap.size 53 2 (.slice (some ⟨w.heap.size + 1, 0, none⟩) 0 0) 0 [] := by
    have := World.ownsRow_made (base := w.heap.size) (e := 53) (size := 2) (w.alloc (Obj.cells #[.int .i64 x, .int .i64 y] 53)) #[] 0 (by simp) (by decide) (by simp)
    rw [World.size_alloc] at this
    exact this
  have HOWN := Lib.hid hown0
  clear hi hz0 hz1 hz2 hown0
  cases a with
  | none =>
    obtain rfl : c = 0 := h0 rfl
    obtain rfl : n = 0 := by
      rcases S.2 with h | ⟨b, o, h, _⟩
      · exact h
      · cases h
    obtain rfl : ps = [] := List.eq_nil_of_length_eq_zero S.1
    clear S h0 hn
    go_enter Try.func41, Try.ntmps41
    go_wp2_with (at_builtin; refine wpList_append_own _ rfl (.tmp 10) (.tmp 12) 48 rfl w.heap.size 53 i0 (.agg #[.int .i64 0, .int .i64 0]) 2 16 Try.underlying48 HI.out.1 HI.out.2.1 HI.out.2.2.1 HI.out.2.2.2 rfl (by decide) _ 0 [] rfl (HOWN.out.alloc _) ⟨w.heap.size + 1 + 1, 0, none⟩ 1 1 (pcells [(x, y)]) rfl rfl ?c1 ?c2 ?c3 ?c4 ?c5 ?_)
    case c1 => exact put_cells (cell_new _ _ _ (by simp) rfl) (cell_new _ _ _ (by simp) rfl)
    case c2 => exact pcells_one _
    case c3 => unfold maxLen; omega
    case c4 => omega
    case c5 => simp; omega
    intro v' w1 hown' hgrow _
    have hb' := (((Below.refl w.heap.size w).alloc (Nat.le_refl _) (Obj.cells #[.int .i64 x, .int .i64 y] 53)).alloc (by simp) (.cells #[] 53)).alloc (by simp; omega) (Obj.cells #[.int .i64 x, .int .i64 y] 53) |>.grown hgrow (by simp; omega) (fun r hr => by cases hr; simp)
    have HO' := Lib.hid hown'
    have HB' := Lib.hid hb'
    clear hown' hb' hgrow
    go_wp2
    go_ret
    exact putsPost_mk rfl rfl HO'.out HB'.out
  | some p =>
    have HH := Lib.hid (pl_cells S)
    go_enter Try.func41, Try.ntmps41
    go_wp2_with (at_builtin; refine wpList_append_own _ rfl (.tmp 7) (.tmp 8) 48 rfl w.heap.size 53 i0 (.agg #[.int .i64 0, .int .i64 0]) 2 16 Try.underlying48 HI.out.1 HI.out.2.1 HI.out.2.2.1 HI.out.2.2.2 rfl (by decide) _ 0 [] rfl HOWN.out p n c (pcells ps) rfl ?c1 ?c2 ?c3 ?c4 ?c5 ?c6 ?_)
    case c1 => rw [pcells_length, Hn.out]
    case c2 => exact HH.out _ (by go_grown)
    case c3 => exact pcells_one _
    case c4 => unfold maxLen; omega
    case c5 => omega
    case c6 => simp; omega
    intro v' w1 hown' hgrow _
    have hb' := ((Below.refl w.heap.size w).alloc (Nat.le_refl _) (Obj.cells #[.int .i64 x, .int .i64 y] 53)).alloc (by simp) (.cells #[] 53) |>.grown hgrow (by simp; omega) (fun r hr => by cases hr; simp)
    have d0 : w1.cell? ⟨w.heap.size, 0, none⟩ = some (.int .i64 x) := hgrow.cell (cellA _ (by simp)) (by simp [Value.ownBlock])
    have d1 : w1.cell? ⟨w.heap.size, 1, none⟩ = some (.int .i64 y) := hgrow.cell (cellA _ (by simp)) (by simp [Value.ownBlock])
    have HO' := Lib.hid hown'
    have HB' := Lib.hid hb'
    have hsz := hb'.size
    clear hown' hb' hgrow
    go_wp2_with (at_builtin; refine wpList_append_own _ rfl (.tmp 10) (.tmp 12) 48 rfl w.heap.size 53 i0 (.agg #[.int .i64 0, .int .i64 0]) 2 16 Try.underlying48 HI.out.1 HI.out.2.1 HI.out.2.2.1 HI.out.2.2.2 rfl (by decide) _ _ _ rfl (HO'.out.alloc _) ⟨w1.heap.size, 0, none⟩ 1 1 (pcells [(x, y)]) rfl rfl ?c1 ?c2 ?c3 ?c4 ?c5 ?_)
    case c1 => exact put_cells (by simp) (by simp)
    case c2 => exact pcells_one _
    case c3 => unfold maxLen; omega
    case c4 => omega
    case c5 => simp; omega
    intro v'' w2 hown'' hgrow' _
    have hb'' := (HB'.out.alloc hsz (Obj.cells #[.int .i64 x, .int .i64 y] 53)).grown hgrow' (by simp; omega) (fun r hr => ((HO'.out.alloc (Obj.cells #[.int .i64 x, .int .i64 y] 53)).lt r hr).1)
    rw [← pcells_append] at hown''
    have HO'' := Lib.hid hown''
    have HB'' := Lib.hid hb''
    have HL := Lib.hid (show (ps ++ [(x, y)]).length = n + 1 by rw [List.length_append, Hn.out]; rfl)
    clear hown'' hb'' hgrow'
    go_wp2
    go_ret
    exact putsPost_mk rfl HL.out HO''.out HB''.out

def restN (ps : List (Int × Int)) (k : Nat) : List (Int × Int) := (ps.take k).drop 1
theorem restN_one (ps : List (Int × Int)) (k : Nat) (h : k ≤ 1) : restN ps k = [] := by
  rw [restN]; apply List.drop_eq_nil_of_le; rw [List.length_take]; omega
theorem restN_succ (ps : List (Int × Int)) (k : Nat) (hk : 1 ≤ k) (h : k < ps.length) {p : Int × Int} (hp : ps.getD k (0, 0) = p) : restN ps (k + 1) = restN ps k ++ [p] := by
  subst hp
  rw [restN, restN, take_snocP ps k h, List.drop_append_of_le_length (by rw [List.length_take]; omega)]
theorem restN_all (ps : List (Int × Int)) : restN ps ps.length = restP ps := by rw [restN, List.take_length, restP]
theorem restN_len (ps : List (Int × Int)) (k : Nat) (h : k ≤ ps.length) : (restN ps k).length = k - 1 := by rw [restN, List.length_drop, List.length_take]; omega

set_option maxHeartbeats 4000000 in
theorem refRest_any (a : Option Addr) (n c : Nat) (ps : List (Int × Int)) (w : World) (S : Pl w a n ps) (hn : n ≤ 1000) :
    Calls Try.prog 54 #[.slice a n c] w (PutsPost (restP ps) w) := by
  obtain ⟨i0, hi, hz0, hz1, hz2⟩ := info_parts Try.info53
  have HI := Lib.hid (And.intro hi (And.intro hz0 (And.intro hz1 hz2)))
  have Hn := Lib.hid S.1
  clear hi hz0 hz1 hz2
  go_enter Try.func54, Try.ntmps54
  go_wp2
  go_loopw [3, 9] (fun v s wr => ∃ k : Nat, k ≤ n ∧ s = .int .i64 k ∧ wr.ownsRow w.heap.size 53 2 v (k - 1) (pcells (restN ps k)) ∧ Below w.heap.size w wr) (fun _ s _ => n - (intOf s).toNat)
  case atStart => exact ⟨0, by omega, rfl, by rw [restN_one ps 0 (by omega)]; exact World.ownsRow_made w #[] 0 (Nat.le_refl _) (by decide) (by simp), (Below.refl _ _).alloc (Nat.le_refl _) _⟩
  case round =>
    obtain ⟨k, hk, rfl, hown, hb⟩ := hrel
    by_cases hlt : k < n
    · obtain ⟨b, o, rfl, R⟩ := S.2.resolve_left (by omega)
      have g := R k (by rw [Hn.out]; exact hlt)
      have g1 := cellB hb g.1
      have g2 := cellB hb g.2
      have hsz := hb.size
      obtain ⟨p, hp⟩ : ∃ p, ps.getD k (0, 0) = p := ⟨_, rfl⟩
      rw [hp] at g1 g2
      have Hp := Lib.hid hp
      have HB := Lib.hid hb
      have HO := Lib.hid hown
      clear g hp hb hown
      by_cases e : 0 < k
      · have HS := Lib.hid (restN_succ ps k e (by rw [Hn.out]; exact hlt) Hp.out)
        have q : decide ((0 : Int) < k) = true := by simp; omega
        have HK := Lib.hid (show k - 1 + 1 = k by omega)
        go_wp2_with (at_builtin; refine wpList_append_own _ rfl _ _ 48 rfl w.heap.size 53 i0 (.agg #[.int .i64 0, .int .i64 0]) 2 16 Try.underlying48 HI.out.1 HI.out.2.1 HI.out.2.2.1 HI.out.2.2.2 rfl (by decide) _ _ _ rfl ((HO.out.alloc _).alloc _) ⟨wr.heap.size + 1, 0, none⟩ 1 1 (pcells [p]) rfl rfl ?c1 ?c2 ?c3 ?c4 ?c5 ?_)
        case c1 => obtain ⟨p1, p2⟩ := p; exact put_cells (by simp) (by simp)
        case c2 => exact pcells_one _
        case c3 => unfold maxLen; omega
        case c4 => omega
        case c5 => simp; omega
        intro v' w1 hown' hgrow _
        have hb' := ((HB.out.alloc hsz (.cells #[.int .i64 p.1, .int .i64 p.2] 53)).alloc (by simp; omega) (.cells #[.int .i64 p.1, .int .i64 p.2] 53)).grown hgrow (by simp; omega) (fun r hr => ((HO.out.alloc (.cells #[.int .i64 p.1, .int .i64 p.2] 53)).lt r hr).1)
        rw [← pcells_append, ← HS.out, HK.out] at hown'
        have HO' := Lib.hid hown'
        have HB' := Lib.hid hb'
        clear hown' hb' hgrow
        go_wp2
        go_roundw
        case rel => exact ⟨k + 1, by omega, by go_num, HO'.out, HB'.out⟩
        case measure => simp [intOf]; omega
      · obtain rfl : k = 0 := by omega
        have HS := Lib.hid (restN_one ps 0 (by omega))
        have HS' := Lib.hid (restN_one ps 1 (by omega))
        rw [Nat.zero_mul, Nat.add_zero] at g1 g2
        go_wp2
        go_roundw
        case rel => exact ⟨1, by omega, rfl, by rw [HS'.out, ← HS.out]; exact HO.out.alloc _, HB.out.alloc hsz _⟩
        case measure => simp [intOf]; omega
    · obtain rfl : k = n := by omega
      have HB := Lib.hid hb
      have HO := Lib.hid hown
      have HL := Lib.hid (restN_len ps k (by rw [Hn.out]; omega))
      have HA := Lib.hid (restN_all ps)
      clear hb hown
      go_wp2
      go_ret
      exact putsPost_mk (by rw [← HA.out, Hn.out]) HL.out HO.out HB.out
end Go.Proofs.Ytbcbagoogdfciaa
