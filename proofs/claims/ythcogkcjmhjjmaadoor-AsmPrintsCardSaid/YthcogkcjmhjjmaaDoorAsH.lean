/- Package asm: instruction. -/
import Derived.Test.YthcogkcjmhjjmaaDoorAsF
import Derived.Test.YthcogkcjmhjjmaaDoorAsG
namespace Go.Proofs.YthcogkcjmhjjmaaDoor
open Go.ChangeShapes Go.WideShapes Go.ChangeAt Go.RowKit
open Gen

theorem ops_sign {w : World} (G : Glob w) (k : Nat) (hk : k < 27) : w.cell? ⟨0, k * 2 + 1, none⟩ = some (.string (str (opSign.getD k []))) := by
  obtain ⟨t, fr, h⟩ := ops_heap G
  rw [cell_of_row w _ _ _ t fr h]
  have h27 : k = 0 ∨ k = 1 ∨ k = 2 ∨ k = 3 ∨ k = 4 ∨ k = 5 ∨ k = 6 ∨ k = 7 ∨ k = 8 ∨ k = 9 ∨ k = 10 ∨ k = 11 ∨ k = 12 ∨ k = 13 ∨ k = 14 ∨ k = 15 ∨ k = 16 ∨ k = 17 ∨ k = 18 ∨ k = 19 ∨ k = 20 ∨ k = 21 ∨ k = 22 ∨ k = 23 ∨ k = 24 ∨ k = 25 ∨ k = 26 := by omega
  rcases h27 with rfl | rfl | rfl | rfl | rfl | rfl | rfl | rfl | rfl | rfl | rfl | rfl | rfl | rfl | rfl | rfl | rfl | rfl | rfl | rfl | rfl | rfl | rfl | rfl | rfl | rfl | rfl <;> rfl
def strs (ps : List Bs) : List Value := ps.map (fun p => .string (str p))
theorem split_any (l : Bs) (w : World) (hl : l.length ≤ 50000) (G : Glob w) : Calls Tryd.prog 53 #[.string (str l), .string ⟨#[32]⟩] w fun e w' =>
    e = .returned (.slice (some ⟨w.heap.size, 0, none⟩) (parts 32 l).length (parts 32 l).length) ∧ w' = w.alloc (.cells (strs (parts 32 l)).toArray 9) := by
  obtain ⟨m, hm⟩ := G.mlen
  refine (Tryd.strings_Split (str l) ⟨#[32]⟩ m w (by rw [str_size]; omega) hm (by decide)).mono ?_
  have hc : Lib.countB (str l) ⟨#[32]⟩ = Lib.count l [32] := by
    show Lib.count (str l).data.toList _ = _
    rw [str_data]
  obtain ⟨h1, h2⟩ := parts_count 32 (l.length + 1) l (by omega)
  have hs : (Lib.splitB ⟨#[32]⟩ 0 (Lib.countB (str l) ⟨#[32]⟩) (str l)).map Value.string = strs (parts 32 l) := by
    have h3 := Lib.splitB_data ⟨#[32]⟩ 0 (Lib.countB (str l) ⟨#[32]⟩) (str l)
    rw [hc, str_data] at h3
    rw [hc, strs, h2, show ([32] : Bs) = (⟨#[32]⟩ : ByteArray).data.toList from rfl, ← h3, List.map_map]
    refine List.map_congr_left fun x _ => ?_
    simp only [Function.comp]
  rintro e w' ⟨rfl, rfl⟩
  rw [hs, hc, h1]
  exact ⟨rfl, rfl⟩
theorem field_kind (w : World) (x y : Value) : (Instr.field 77 (.agg #[x, y]) 0).run Tryd.prog w = .ok x w := by
  simp [go_sem, Instr.field, asAgg]
theorem load_ins {w : World} {g : Nat} {x y z u : Value} (h : VarN w g [x, y, z, u]) : (loadVar 39 ⟨g, 0, none⟩).run Tryd.prog w = .ok (.agg #[x, y, z, u]) w := by
  have k0 := (h 0 _ rfl).1
  have k1 := (h 1 _ rfl).1
  have k2 := (h 2 _ rfl).1
  have k3 := (h 3 _ rfl).1
  simp [go_sem, k0, k1, k2, k3]
def insV (i : Ins) : Value := .agg #[.int .i64 i.1, .int .i64 i.2.1, .int .i64 i.2.2.1, .int .i64 i.2.2.2]
def InsPost (r : Ins × Int) (w : World) (e : Ending) (w' : World) : Prop := e = .returned (.tuple #[insV r.1, .int .i64 r.2]) ∧ Below w.heap.size w w'

def vk (f : Bs → Option (Int × Int)) (sg : Bs) (q : List Bs) (j i : Nat) : Int := if i < j then (opndE f (sg.getD i 0).toNat (q.getD i [])).1 else 0
theorem vk_set {f : Bs → Option (Int × Int)} {sg : Bs} {q : List Bs} {j : Nat} {x : Int} (hj : j < 3) (hx : (opndE f (sg.getD j 0).toNat (q.getD j [])).1 = x) :
    ([.int .i64 (vk f sg q j 0), .int .i64 (vk f sg q j 1), .int .i64 (vk f sg q j 2)] : List Value).set j (.int .i64 x) = [.int .i64 (vk f sg q (j + 1) 0), .int .i64 (vk f sg q (j + 1) 1), .int .i64 (vk f sg q (j + 1) 2)] := by
  subst hx
  rcases (show j = 0 ∨ j = 1 ∨ j = 2 by omega) with rfl | rfl | rfl <;> simp [vk]
theorem varN_at {w : World} {g : Nat} {vs : List Value} (h : VarN w g vs) (j : Nat) (hj : j < vs.length) : ∃ v, w.cell? ⟨g, j, none⟩ = some v ∧ w.frozen? ⟨g, j, none⟩ = false :=
  ⟨vs[j], h j _ (by simp [hj])⟩
set_option maxRecDepth 100000 in
set_option maxHeartbeats 4000000 in
theorem instruction_any (l : Bs) (km b N : Nat) (f : Bs → Option (Int × Int)) (w : World) (hl : l.length ≤ 50000) (G : Glob w) (K : KindMap w km (some b)) (L : LabMap w b N f) :
    Calls Tryd.prog 25 #[.string (str l), .map (some km)] w (InsPost (instrE f l) w) := by
  have hsp := split_any l (w.alloc (Obj.cells #[.int .i64 0, .int .i64 0, .int .i64 0, .int .i64 0] 39)) hl (G.A _)
  obtain ⟨ps, hps⟩ : ∃ ps, parts 32 l = ps := ⟨_, rfl⟩
  have hpl : ∀ p, p ∈ ps → p.length ≤ 50000 := fun p hp => Nat.le_trans (parts_short 32 l p (by rw [hps]; exact hp)) hl
  have hn1 : 1 ≤ ps.length := by rw [← hps]; exact parts_pos 32 l
  have hn2 : ps.length ≤ 50001 := by rw [← hps]; have := parts_len 32 l; omega
  rw [hps] at hsp
  have HPS := Lib.hid hps
  clear hps
  obtain ⟨p0, q, rfl⟩ : ∃ p0 q, ps = p0 :: q := by
    cases ps with
    | nil => simp at hn1
    | cons p q => exact ⟨p, q, rfl⟩
  obtain ⟨n, hn⟩ : ∃ n, q.length = n := ⟨_, rfl⟩
  have HN := Lib.hid hn
  rw [List.length_cons, hn] at hn2
  simp only [List.length_cons, hn] at hsp
  have HL := Lib.hid hpl
  clear hn hpl hn1
  obtain ⟨W1, hW1⟩ : ∃ W1, W1 = (w.alloc (Obj.cells #[.int .i64 0, .int .i64 0, .int .i64 0, .int .i64 0] 39)).alloc (.cells (strs (p0 :: q)).toArray 9) := ⟨_, rfl⟩
  have c0 : W1.cell? ⟨w.heap.size + 1, 0, none⟩ = some (.string (str p0)) := by rw [hW1]; exact cell_new _ _ _ (by simp) rfl
  have cq : ∀ i, i < n → W1.cell? ⟨w.heap.size + 1, 1 + i, none⟩ = some (.string (str (q.getD i []))) := fun i hi => by
    rw [hW1]
    refine cell_new _ _ _ (by simp) ?_
    rw [Nat.add_comm 1 i]
    have : i < q.length := by rw [HN.out]; exact hi
    simp [strs, this]
  have B1 : Below w.heap.size w W1 := by rw [hW1]; go_grown
  have X1 : VarN W1 w.heap.size [.int .i64 0, .int .i64 0, .int .i64 0, .int .i64 0] := by rw [hW1]; exact varN_A _ (varN_new _ _ rfl)
  have hs1 : W1.heap.size = w.heap.size + 2 := by rw [hW1]; simp
  have HW1 := Lib.hid hW1
  have hnum := numbered_any (str p0) W1 (G.B B1)
  rw [str_data] at hnum
  cases hop : opOf p0 with
  | none =>
    rw [hop] at hnum
    dsimp only [Option.getD, Option.isSome] at hnum
    have HE := Lib.hid (show instrE f l = ((0, 0, 0, 0), 10) by simp only [instrE, HPS.out, List.getD_cons_zero, hop])
    clear hop hW1
    go_enter Tryd.func25, Tryd.ntmps25
    go_wp2_with (first | (go_at_call 53; refine hsp.mono ?_; rintro e w' ⟨rfl, rfl⟩; rw [← HW1.out]) | (go_at_call 54; refine hnum.mono ?_; rintro e w2 ⟨rfl, hb2⟩; have X2 := varN_B hb2 X1; have x0 := X2 0 _ rfl; have x1 := X2 1 _ rfl; have x2 := X2 2 _ rfl; have x3 := X2 3 _ rfl))
    refine bp_cell_tmp ⟨w.heap.size, 0, none⟩ rfl rfl rfl (load_ins (varN_all (xs := [.int .i64 0, .int .i64 0, .int .i64 0, .int .i64 0]) X2 rfl)) ?_
    exact ⟨by rw [HE.out]; rfl, below_setN (xs := [.int .i64 0, .int .i64 0, .int .i64 0, .int .i64 0]) (Nat.le_refl _) (below_from B1 hb2)⟩
  | some k =>
    rw [hop] at hnum
    dsimp only [Option.getD, Option.isSome] at hnum
    obtain ⟨hk27, -⟩ := opOf_lt hop
    have hsok := signs_ok k hk27
    have hos := fun (w' : World) (G' : Glob w') => ops_sign G' k hk27
    obtain ⟨sg, hsg⟩ : ∃ sg, opSign.getD k [] = sg := ⟨_, rfl⟩
    rw [hsg] at hsok
    simp only [hsg] at hos
    have HOP := Lib.hid hop
    have HSG := Lib.hid hsg
    have HOS := Lib.hid hos
    have G1 := Lib.hid (G.B B1)
    have i1 : (0 : Int) ≤ k := by omega
    have i2 : (k : Int) < 27 := by omega
    clear hop hsg hos hW1
    by_cases hlen : n = sg.length
    · subst hlen
      obtain ⟨s1, s2⟩ := hsok
      have HSC := Lib.hid s2
      clear s2
      by_cases hn0 : sg = []
      · subst hn0
        have HE := Lib.hid (show instrE f l = (((k : Int), 0, 0, 0), 0) by
          have hfe : firstErr f [] q = none := firstErr_none (fun i hi => by simp at hi)
          simp only [instrE, HPS.out, List.getD_cons_zero, HOP.out, HSG.out, List.length_cons, HN.out, Nat.add_sub_cancel, List.drop_succ_cons, List.drop_zero, hfe]
          rw [if_neg (fun h => h rfl)]
          rfl)
        go_enter Tryd.func25, Tryd.ntmps25
        go_wp2_with (first | (go_at_call 53; refine hsp.mono ?_; rintro e w' ⟨rfl, rfl⟩; rw [← HW1.out]) | (go_at_call 54; refine hnum.mono ?_; rintro e w2 ⟨rfl, hb2⟩; have xs := HOS.out w2 (G1.out.B hb2)))
        obtain ⟨W3, hW3⟩ : ∃ W3, W3 = w2.alloc (Obj.cells #[Value.int IntKind.i64 0, Value.int IntKind.i64 0, Value.int IntKind.i64 0] 86) := ⟨_, rfl⟩
        have B2 := below_from B1 hb2
        have B3 : Below w.heap.size w W3 := by rw [hW3]; exact B2.alloc B2.size _
        have hb3 : Below W1.heap.size W1 W3 := by rw [hW3]; exact hb2.alloc hb2.size _
        have V3 : VarN W3 w2.heap.size [.int .i64 0, .int .i64 0, .int .i64 0] := by rw [hW3]; exact varN_new [.int .i64 0, .int .i64 0, .int .i64 0] _ rfl
        have X3 := varN_B hb3 X1
        rw [← hW3]
        have HB3 := Lib.hid B3
        have HX3 := Lib.hid X3
        have v0 := V3 0 _ rfl
        have v1 := V3 1 _ rfl
        have v2 := V3 2 _ rfl
        have x0 := X3 0 _ rfl
        have x1 := X3 1 _ rfl
        have x2 := X3 2 _ rfl
        have x3 := X3 3 _ rfl
        clear B1 hb2 B2 B3 hb3 V3 X3 hW3 hsp hnum c0 cq X1 xs HW1 hs1 i1 i2
        go_loopw [40] (fun i wr => i = .int .i64 0 ∧ wr = W3) (fun _ _ => 0)
        case atStart => exact ⟨rfl, rfl⟩
        case round =>
          obtain ⟨rfl, rfl⟩ := hrel
          go_wp2
          refine bp_cell_tmp ⟨w.heap.size, 0, none⟩ rfl rfl rfl (load_ins (varN_all (xs := [.int .i64 k, .int .i64 0, .int .i64 0, .int .i64 0]) HX3.out rfl)) ?_
          exact ⟨by rw [HE.out]; rfl, below_setN (xs := [.int .i64 k, .int .i64 0, .int .i64 0, .int .i64 0]) (Nat.le_refl _) HB3.out⟩
      · go_enter Tryd.func25, Tryd.ntmps25
        go_wp2_with (first | (go_at_call 53; refine hsp.mono ?_; rintro e w' ⟨rfl, rfl⟩; rw [← HW1.out]) | (go_at_call 54; refine hnum.mono ?_; rintro e w2 ⟨rfl, hb2⟩; have xs := HOS.out w2 (G1.out.B hb2)))
        obtain ⟨W3, hW3⟩ : ∃ W3, W3 = w2.alloc (Obj.cells #[Value.int IntKind.i64 0, Value.int IntKind.i64 0, Value.int IntKind.i64 0] 86) := ⟨_, rfl⟩
        have B2 := below_from B1 hb2
        have B3 : Below w.heap.size w W3 := by rw [hW3]; exact B2.alloc B2.size _
        have hb3 : Below W1.heap.size W1 W3 := by rw [hW3]; exact hb2.alloc hb2.size _
        have V3 : VarN W3 w2.heap.size [.int .i64 0, .int .i64 0, .int .i64 0] := by rw [hW3]; exact varN_new [.int .i64 0, .int .i64 0, .int .i64 0] _ rfl
        have X3 := varN_B hb3 X1
        have Q3 : ∀ i, i < sg.length → W3.cell? ⟨w.heap.size + 1, 1 + i, none⟩ = some (.string (str (q.getD i []))) := fun i hi => cellB hb3 (cq i hi)
        have hgl : w.heap.size + 2 ≤ w2.heap.size := by have := hb2.size; omega
        obtain ⟨gv, hgv⟩ : ∃ gv, w2.heap.size = gv := ⟨_, rfl⟩
        rw [← hW3]
        rw [hgv] at V3 hgl ⊢
        have HB3 := Lib.hid B3
        have HV3 := Lib.hid V3
        have HX3 := Lib.hid X3
        have HQ3 := Lib.hid Q3
        clear B1 hb2 B2 B3 hb3 V3 X3 Q3 hW3 hgv hsp hnum c0 cq X1 xs HW1 hs1 i1 i2
        go_loopw [40] (fun i wr => ∃ j : Nat, j ≤ sg.length ∧ i = .int .i64 j ∧ Hid (∀ x, x < j → errAt f sg q x = 0) ∧ Hid (VarN wr gv [.int .i64 (vk f sg q j 0), .int .i64 (vk f sg q j 1), .int .i64 (vk f sg q j 2)]) ∧ Hid (Below w.heap.size w wr ∧ VarN wr w.heap.size [.int .i64 0, .int .i64 0, .int .i64 0, .int .i64 0] ∧ ∀ i, i < sg.length → wr.cell? ⟨w.heap.size + 1, 1 + i, none⟩ = some (.string (str (q.getD i []))))) (fun i _ => sg.length - (intOf i).toNat)
        case atStart => exact ⟨0, Nat.zero_le _, rfl, (show ∀ x, x < 0 → _ from fun x hx => by omega), HV3.out, HB3.out, HX3.out, HQ3.out⟩
        case round =>
          obtain ⟨j, hj, rfl, hno, hv, hq⟩ := hrel
          by_cases hlt : j < sg.length
          · have j1 : (0 : Int) ≤ j := by omega
            have j2 : (j : Int) < (List.length sg : Nat) := by omega
            have qc := hq.out.2.2 j hlt
            obtain ⟨p, hp⟩ : ∃ p, q.getD j [] = p := ⟨_, rfl⟩
            rw [hp] at qc
            have hpl : p.length ≤ 50000 := by
              have hjq : j < q.length := by rw [HN.out]; exact hlt
              refine HL.out p (List.mem_cons_of_mem _ ?_)
              rw [← hp, List.getD_eq_getElem?_getD, List.getElem?_eq_getElem hjq]
              exact List.getElem_mem hjq
            obtain ⟨c, hc⟩ : ∃ c, (sg.getD j 0).toNat = c := ⟨_, rfl⟩
            have hjs : j < (str sg).size := by rw [str_size]; exact hlt
            have hbt : (str sg)[j].toNat = c := by rw [bytes_at, str_data]; exact hc
            have hcc := HSC.out j hlt
            rw [hc] at hcc
            have GG : Glob wr := G.B hq.out.1
            have LL : LabMap wr b N f := labMap_B hq.out.1 L
            have hr := kind_look (kindMap_B hq.out.1 K) ((str sg)[j].toNat : Nat) (by rw [hbt]; omega)
            obtain ⟨⟨x, y⟩, hxy⟩ : ∃ r, opndE f c p = r := ⟨_, rfl⟩
            have HEA := Lib.hid (show errAt f sg q j = y by simp only [errAt, hc, hp, hxy])
            have HVA := Lib.hid (show (opndE f (sg.getD j 0).toNat (q.getD j [])).1 = x by rw [hc, hp, hxy])
            have hjm : sg.length ≤ 3 := s1
            rcases hcc with rfl | rfl | rfl
            · have HRE := Lib.hid (show regE p = (x, y) by simpa [opndE] using hxy)
              have hr2 : (Instr.lookup 43 (.map (some km)) (.int .u8 ((str sg)[j].toNat : Nat)) false).run Tryd.prog wr = .ok (kindR) wr := by rw [hr, hbt]; rfl
              unfold kindR at hr2
              have hfd := field_kind wr (.func (.func 45) #[] #[]) (.func (.func 46) #[] #[])
              clear hr hxy hbt
              by_cases hy0 : y = 0
              · subst hy0
                go_wp2_with (go_at_call 45; refine (readRegister_any (str p) wr).mono ?_; rintro e w5 ⟨rfl, hw5⟩; have hb5 : Below wr.heap.size wr w5 := (by rw [hw5]; exact Below.refl _ _); clear hw5; rw [str_data, HRE.out]; dsimp only; have V5 := varN_B hb5 hv.out; have Y5 := varN_other (varN_B hb5 hq.out.2.1) (g' := gv) (o := j) (by omega) (.int .i64 x); obtain ⟨v0, k1, k2⟩ := varN_at V5 j (show j < 3 by omega); have y0 := Y5 0 _ rfl; have y1 := Y5 1 _ rfl; have y2 := Y5 2 _ rfl; have y3 := Y5 3 _ rfl; have HV5 := Lib.hid V5; have HY5 := Lib.hid Y5; have HB5 := Lib.hid hb5; clear V5 Y5 hb5)
                go_roundw
                case rel =>
                  refine ⟨j + 1, by omega, by go_num, (show ∀ x, x < j + 1 → _ from fun z hz => ?_), ?_, ⟨?_, HY5.out, ?_⟩⟩
                  · by_cases e : z = j
                    · subst e; exact HEA.out
                    · exact hno.out z (by omega)
                  · have h6 := varN_set HV5.out j (show j < 3 by omega) (.int .i64 x)
                    rw [vk_set (by omega) HVA.out] at h6
                    exact h6
                  · exact (hq.out.1.trans (HB5.out.mono hq.out.1.size)).setCell (p := ⟨gv, j, none⟩) (show w.heap.size ≤ gv by omega) _
                  · intro z hz
                    exact set_ne _ (by intro e; have := congrArg Addr.block e; simp at this; omega) (cellB HB5.out (hq.out.2.2 z hz))
                case measure => simp [intOf]; omega
              · have hy : (y != 0) = true := by simpa using hy0
                have HY0 := Lib.hid hy0
                clear hy0
                go_wp2_with (go_at_call 45; refine (readRegister_any (str p) wr).mono ?_; rintro e w5 ⟨rfl, hw5⟩; have hb5 : Below wr.heap.size wr w5 := (by rw [hw5]; exact Below.refl _ _); clear hw5; rw [str_data, HRE.out]; dsimp only; have V5 := varN_B hb5 hv.out; have Y5 := varN_other (varN_B hb5 hq.out.2.1) (g' := gv) (o := j) (by omega) (.int .i64 x); obtain ⟨v0, k1, k2⟩ := varN_at V5 j (show j < 3 by omega); have y0 := Y5 0 _ rfl; have y1 := Y5 1 _ rfl; have y2 := Y5 2 _ rfl; have y3 := Y5 3 _ rfl; have HV5 := Lib.hid V5; have HY5 := Lib.hid Y5; have HB5 := Lib.hid hb5; clear V5 Y5 hb5)
                refine bp_cell_tmp ⟨w.heap.size, 0, none⟩ rfl rfl rfl (load_ins (varN_all (xs := [.int .i64 0, .int .i64 0, .int .i64 0, .int .i64 0]) HY5.out rfl)) ?_
                refine ⟨?_, below_setN (xs := [.int .i64 0, .int .i64 0, .int .i64 0, .int .i64 0]) (Nat.le_refl _) ((hq.out.1.trans (HB5.out.mono hq.out.1.size)).setCell (p := ⟨gv, j, none⟩) (show w.heap.size ≤ gv by omega) _)⟩
                have hfe := firstErr_some hlt hno.out (by rw [HEA.out]; exact HY0.out)
                simp only [instrE, HPS.out, List.getD_cons_zero, HOP.out, HSG.out, List.length_cons, HN.out, Nat.add_sub_cancel, List.drop_succ_cons, List.drop_zero, hfe, HEA.out]
                rw [if_neg (fun h => h rfl)]
                rfl
            · have HRE := Lib.hid (show numE p = (x, y) by simpa [opndE] using hxy)
              have hr2 : (Instr.lookup 43 (.map (some km)) (.int .u8 ((str sg)[j].toNat : Nat)) false).run Tryd.prog wr = .ok (kindN) wr := by rw [hr, hbt]; rfl
              unfold kindN at hr2
              have hfd := field_kind wr (.func (.func 48) #[] #[]) (.func (.func 47) #[] #[])
              clear hr hxy hbt
              by_cases hy0 : y = 0
              · subst hy0
                go_wp2_with (go_at_call 48; refine (readNumber_any (str p) wr (by rw [str_size]; omega) GG).mono ?_; rintro e w5 ⟨rfl, hb5⟩; rw [str_data, HRE.out]; dsimp only; have V5 := varN_B hb5 hv.out; have Y5 := varN_other (varN_B hb5 hq.out.2.1) (g' := gv) (o := j) (by omega) (.int .i64 x); obtain ⟨v0, k1, k2⟩ := varN_at V5 j (show j < 3 by omega); have y0 := Y5 0 _ rfl; have y1 := Y5 1 _ rfl; have y2 := Y5 2 _ rfl; have y3 := Y5 3 _ rfl; have HV5 := Lib.hid V5; have HY5 := Lib.hid Y5; have HB5 := Lib.hid hb5; clear V5 Y5 hb5)
                go_roundw
                case rel =>
                  refine ⟨j + 1, by omega, by go_num, (show ∀ x, x < j + 1 → _ from fun z hz => ?_), ?_, ⟨?_, HY5.out, ?_⟩⟩
                  · by_cases e : z = j
                    · subst e; exact HEA.out
                    · exact hno.out z (by omega)
                  · have h6 := varN_set HV5.out j (show j < 3 by omega) (.int .i64 x)
                    rw [vk_set (by omega) HVA.out] at h6
                    exact h6
                  · exact (hq.out.1.trans (HB5.out.mono hq.out.1.size)).setCell (p := ⟨gv, j, none⟩) (show w.heap.size ≤ gv by omega) _
                  · intro z hz
                    exact set_ne _ (by intro e; have := congrArg Addr.block e; simp at this; omega) (cellB HB5.out (hq.out.2.2 z hz))
                case measure => simp [intOf]; omega
              · have hy : (y != 0) = true := by simpa using hy0
                have HY0 := Lib.hid hy0
                clear hy0
                go_wp2_with (go_at_call 48; refine (readNumber_any (str p) wr (by rw [str_size]; omega) GG).mono ?_; rintro e w5 ⟨rfl, hb5⟩; rw [str_data, HRE.out]; dsimp only; have V5 := varN_B hb5 hv.out; have Y5 := varN_other (varN_B hb5 hq.out.2.1) (g' := gv) (o := j) (by omega) (.int .i64 x); obtain ⟨v0, k1, k2⟩ := varN_at V5 j (show j < 3 by omega); have y0 := Y5 0 _ rfl; have y1 := Y5 1 _ rfl; have y2 := Y5 2 _ rfl; have y3 := Y5 3 _ rfl; have HV5 := Lib.hid V5; have HY5 := Lib.hid Y5; have HB5 := Lib.hid hb5; clear V5 Y5 hb5)
                refine bp_cell_tmp ⟨w.heap.size, 0, none⟩ rfl rfl rfl (load_ins (varN_all (xs := [.int .i64 0, .int .i64 0, .int .i64 0, .int .i64 0]) HY5.out rfl)) ?_
                refine ⟨?_, below_setN (xs := [.int .i64 0, .int .i64 0, .int .i64 0, .int .i64 0]) (Nat.le_refl _) ((hq.out.1.trans (HB5.out.mono hq.out.1.size)).setCell (p := ⟨gv, j, none⟩) (show w.heap.size ≤ gv by omega) _)⟩
                have hfe := firstErr_some hlt hno.out (by rw [HEA.out]; exact HY0.out)
                simp only [instrE, HPS.out, List.getD_cons_zero, HOP.out, HSG.out, List.length_cons, HN.out, Nat.add_sub_cancel, List.drop_succ_cons, List.drop_zero, hfe, HEA.out]
                rw [if_neg (fun h => h rfl)]
                rfl
            · have HRE := Lib.hid (show targE f p = (x, y) by simpa [opndE] using hxy)
              have hr2 : (Instr.lookup 43 (.map (some km)) (.int .u8 ((str sg)[j].toNat : Nat)) false).run Tryd.prog wr = .ok ((kindT (some b))) wr := by rw [hr, hbt]; rfl
              unfold kindT at hr2
              have hfd := field_kind wr (.func (.func 49) #[.map (some b)] #[]) (.func (.func 32) #[] #[])
              clear hr hxy hbt
              by_cases hy0 : y = 0
              · subst hy0
                go_wp2_with (go_at_call 49; refine (readTarget_any (str p) b N f wr (by rw [str_size]; omega) LL).mono ?_; rintro e w5 ⟨rfl, hb5⟩; rw [str_data, HRE.out]; dsimp only; have V5 := varN_B hb5 hv.out; have Y5 := varN_other (varN_B hb5 hq.out.2.1) (g' := gv) (o := j) (by omega) (.int .i64 x); obtain ⟨v0, k1, k2⟩ := varN_at V5 j (show j < 3 by omega); have y0 := Y5 0 _ rfl; have y1 := Y5 1 _ rfl; have y2 := Y5 2 _ rfl; have y3 := Y5 3 _ rfl; have HV5 := Lib.hid V5; have HY5 := Lib.hid Y5; have HB5 := Lib.hid hb5; clear V5 Y5 hb5)
                go_roundw
                case rel =>
                  refine ⟨j + 1, by omega, by go_num, (show ∀ x, x < j + 1 → _ from fun z hz => ?_), ?_, ⟨?_, HY5.out, ?_⟩⟩
                  · by_cases e : z = j
                    · subst e; exact HEA.out
                    · exact hno.out z (by omega)
                  · have h6 := varN_set HV5.out j (show j < 3 by omega) (.int .i64 x)
                    rw [vk_set (by omega) HVA.out] at h6
                    exact h6
                  · exact (hq.out.1.trans (HB5.out.mono hq.out.1.size)).setCell (p := ⟨gv, j, none⟩) (show w.heap.size ≤ gv by omega) _
                  · intro z hz
                    exact set_ne _ (by intro e; have := congrArg Addr.block e; simp at this; omega) (cellB HB5.out (hq.out.2.2 z hz))
                case measure => simp [intOf]; omega
              · have hy : (y != 0) = true := by simpa using hy0
                have HY0 := Lib.hid hy0
                clear hy0
                go_wp2_with (go_at_call 49; refine (readTarget_any (str p) b N f wr (by rw [str_size]; omega) LL).mono ?_; rintro e w5 ⟨rfl, hb5⟩; rw [str_data, HRE.out]; dsimp only; have V5 := varN_B hb5 hv.out; have Y5 := varN_other (varN_B hb5 hq.out.2.1) (g' := gv) (o := j) (by omega) (.int .i64 x); obtain ⟨v0, k1, k2⟩ := varN_at V5 j (show j < 3 by omega); have y0 := Y5 0 _ rfl; have y1 := Y5 1 _ rfl; have y2 := Y5 2 _ rfl; have y3 := Y5 3 _ rfl; have HV5 := Lib.hid V5; have HY5 := Lib.hid Y5; have HB5 := Lib.hid hb5; clear V5 Y5 hb5)
                refine bp_cell_tmp ⟨w.heap.size, 0, none⟩ rfl rfl rfl (load_ins (varN_all (xs := [.int .i64 0, .int .i64 0, .int .i64 0, .int .i64 0]) HY5.out rfl)) ?_
                refine ⟨?_, below_setN (xs := [.int .i64 0, .int .i64 0, .int .i64 0, .int .i64 0]) (Nat.le_refl _) ((hq.out.1.trans (HB5.out.mono hq.out.1.size)).setCell (p := ⟨gv, j, none⟩) (show w.heap.size ≤ gv by omega) _)⟩
                have hfe := firstErr_some hlt hno.out (by rw [HEA.out]; exact HY0.out)
                simp only [instrE, HPS.out, List.getD_cons_zero, HOP.out, HSG.out, List.length_cons, HN.out, Nat.add_sub_cancel, List.drop_succ_cons, List.drop_zero, hfe, HEA.out]
                rw [if_neg (fun h => h rfl)]
                rfl
          · obtain rfl : j = sg.length := by omega
            have v0 := hv.out 0 _ rfl
            have v1 := hv.out 1 _ rfl
            have v2 := hv.out 2 _ rfl
            have x0 := hq.out.2.1 0 _ rfl
            have x1 := hq.out.2.1 1 _ rfl
            have x2 := hq.out.2.1 2 _ rfl
            have x3 := hq.out.2.1 3 _ rfl
            have hfe := Lib.hid (firstErr_none hno.out)
            obtain ⟨a0, e0⟩ : ∃ a, vk f sg q sg.length 0 = a := ⟨_, rfl⟩
            obtain ⟨a1, e1⟩ : ∃ a, vk f sg q sg.length 1 = a := ⟨_, rfl⟩
            obtain ⟨a2, e2⟩ : ∃ a, vk f sg q sg.length 2 = a := ⟨_, rfl⟩
            rw [e0] at v0
            rw [e1] at v1
            rw [e2] at v2
            have HE := Lib.hid (show instrE f l = (((k : Int), a0, a1, a2), 0) by
              simp only [instrE, HPS.out, List.getD_cons_zero, HOP.out, HSG.out, List.length_cons, HN.out, Nat.add_sub_cancel, List.drop_succ_cons, List.drop_zero, hfe.out]
              rw [if_neg (fun h => h rfl), ← e0, ← e1, ← e2]
              rfl)
            clear e0 e1 e2
            go_wp2
            refine bp_cell_tmp ⟨w.heap.size, 0, none⟩ rfl rfl rfl (load_ins (varN_all (xs := [.int .i64 k, .int .i64 a0, .int .i64 a1, .int .i64 a2]) hq.out.2.1 rfl)) ?_
            exact ⟨by rw [HE.out]; rfl, below_setN (xs := [.int .i64 k, .int .i64 a0, .int .i64 a1, .int .i64 a2]) (Nat.le_refl _) hq.out.1⟩
    · have HE := Lib.hid (show instrE f l = ((0, 0, 0, 0), 12) by
        simp only [instrE, HPS.out, List.getD_cons_zero, HOP.out, HSG.out, List.length_cons, HN.out, Nat.add_sub_cancel]
        rw [if_pos hlen])
      have h5 : ((n : Int) != (List.length sg : Nat)) = true := by simp; omega
      go_enter Tryd.func25, Tryd.ntmps25
      go_wp2_with (first | (go_at_call 53; refine hsp.mono ?_; rintro e w' ⟨rfl, rfl⟩; rw [← HW1.out]) | (go_at_call 54; refine hnum.mono ?_; rintro e w2 ⟨rfl, hb2⟩; have X2 := varN_B hb2 X1; have x0 := X2 0 _ rfl; have x1 := X2 1 _ rfl; have x2 := X2 2 _ rfl; have x3 := X2 3 _ rfl; have xs := HOS.out w2 (G1.out.B hb2)))
      all_goals
        refine bp_cell_tmp ⟨w.heap.size, 0, none⟩ rfl rfl rfl (load_ins (varN_all (xs := [.int .i64 0, .int .i64 0, .int .i64 0, .int .i64 0]) X2 rfl)) ?_
        exact ⟨by rw [HE.out]; rfl, below_setN (xs := [.int .i64 0, .int .i64 0, .int .i64 0, .int .i64 0]) (Nat.le_refl _) (below_from B1 hb2)⟩
end Go.Proofs.YthcogkcjmhjjmaaDoor
