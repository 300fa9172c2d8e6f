/- The document's own reading (respiteref05): Digits. -/
import Derived.Test.YthcogkcjmhjjmaaDoorAsP
import Derived.Laws.BytesArg
namespace Go.Proofs.YthcogkcjmhjjmaaDoor
open Go.ChangeShapes Go.WideShapes Go.ChangeAt Go.RowKit
open Gen

theorem app_str (l m : Bs) : str l ++ str m = str (l ++ m) := by
  apply ByteArray.ext
  simp
theorem nums_one (n : Nat) : strOfNums [48 + (n : Int)] = str [UInt8.ofNat (48 + n)] := by
  apply ByteArray.ext
  apply Array.toList_inj.1
  rw [strOfNums_data]
  show [UInt8.ofNat ((48 + (n : Int)).toNat)] = [UInt8.ofNat (48 + n)]
  rw [show (48 + (n : Int)).toNat = 48 + n by omega]
set_option maxRecDepth 100000 in
set_option maxHeartbeats 1000000 in
theorem refDigits_nat : ∀ (n : Nat) (w : World), n ≤ 1000000000 → Calls Tryd.prog 38 #[.int .i64 n] w fun e w' => e = .returned (.string (str (Lib.decDigits n))) ∧ Below w.heap.size w w' := by
  intro n
  induction n using Nat.strongRecOn with
  | _ n ih =>
    intro w hn
    have k0 : ¬ (n : Int) < 0 := by omega
    by_cases h : n < 10
    · have k1 : (n : Int) < 10 := by omega
      have k2 : (0 : Int) ≤ n := by omega
      have HE := Lib.hid (show Lib.decDigits n = [UInt8.ofNat (48 + n)] by rw [Lib.decDigits, dif_pos h])
      have hr := run_convert_bytes_arg (P := Tryd.prog) (w.alloc (Obj.cells #[Value.int .u8 (48 + (n : Int))] 5)) 55 5 Tryd.underlying55 Tryd.underlying5 w.heap.size 0 1 1 [48 + (n : Int)] rfl (fun i hi => by
        obtain rfl : i = 0 := by omega
        exact cell_new _ _ _ rfl rfl) 9 Tryd.underlying9
      rw [nums_one] at hr
      obtain ⟨bb, hbb⟩ : ∃ b, UInt8.ofNat (48 + n) = b := ⟨_, rfl⟩
      rw [hbb] at hr HE
      clear hbb
      go_enter Tryd.func38, Tryd.ntmps38
      go_wp2
      go_ret
      rw [HE.out]
      exact ⟨rfl, (Below.refl _ _).alloc (Nat.le_refl _) _⟩
    · have k1 : ¬ (n : Int) < 10 := by omega
      have k2 : (0 : Int) ≤ n := by omega
      have k3 : (n : Int) ≤ 1000000000 := by omega
      have i1 : ∀ W : World, Calls Tryd.prog 38 #[.int .i64 ((n : Int) / 10)] W fun e w' => e = .returned (.string (str (Lib.decDigits (n / 10)))) ∧ Below W.heap.size W w' := fun W => by
        have h2 := ih (n / 10) (by omega) W (by omega)
        rwa [show ((n / 10 : Nat) : Int) = (n : Int) / 10 by omega] at h2
      have i2 : ∀ W : World, Calls Tryd.prog 38 #[.int .i64 ((n : Int) % 10)] W fun e w' => e = .returned (.string (str (Lib.decDigits (n % 10)))) ∧ Below W.heap.size W w' := fun W => by
        have h2 := ih (n % 10) (by omega) W (by omega)
        rwa [show ((n % 10 : Nat) : Int) = (n : Int) % 10 by omega] at h2
      have HE := Lib.hid (show Lib.decDigits n = Lib.decDigits (n / 10) ++ Lib.decDigits (n % 10) by
        rw [Lib.decDigits, dif_neg h]
        congr 1
        rw [Lib.decDigits, dif_pos (by omega)])
      clear ih
      have l1 : (Lib.decDigits (n / 10)).length ≤ 100 := by rw [Lib.decDigits_length]; have := nd10 (n / 10) (by omega); omega
      have l2 : (Lib.decDigits (n % 10)).length ≤ 100 := by rw [Lib.decDigits_length]; have := nd10 (n % 10) (by omega); omega
      have l3 : ¬ 9223372036854775807 < (Lib.decDigits (n / 10)).length + (Lib.decDigits (n % 10)).length := by omega
      obtain ⟨da, hda⟩ : ∃ d, Lib.decDigits (n / 10) = d := ⟨_, rfl⟩
      obtain ⟨db, hdb⟩ : ∃ d, Lib.decDigits (n % 10) = d := ⟨_, rfl⟩
      rw [hda, hdb] at l3
      rw [hda, hdb] at HE
      simp only [hda] at i1
      simp only [hdb] at i2
      clear hda hdb l1 l2
      go_enter Tryd.func38, Tryd.ntmps38
      go_wp2_with fail
      refine (i1 _).mono ?_
      rintro e w1 ⟨rfl, b1⟩
      go_wp2_with fail
      refine (i2 _).mono ?_
      rintro e w2 ⟨rfl, b2⟩
      go_wp2
      go_ret
      rw [HE.out, ← app_str]
      exact ⟨rfl, below_from b1 b2⟩
theorem dash_str (l : Bs) : (⟨#[45]⟩ : ByteArray) ++ str l = str (45 :: l) := by
  apply ByteArray.ext
  simp
set_option maxRecDepth 100000 in
set_option maxHeartbeats 1000000 in
theorem refDigits_any (v : Int) (w : World) (h0 : -1000000000 ≤ v) (h1 : v ≤ 1000000000) : Calls Tryd.prog 38 #[.int .i64 v] w fun e w' => e = .returned (.string (str (Lib.itoa v))) ∧ Below w.heap.size w w' := by
  by_cases h : v < 0
  · have hd := refDigits_nat v.natAbs w (by omega)
    rw [show ((v.natAbs : Nat) : Int) = 0 - v by omega] at hd
    have HE := Lib.hid (show Lib.itoa v = 45 :: Lib.decDigits v.natAbs by rw [Lib.itoa, if_pos h])
    have l1 : (Lib.decDigits v.natAbs).length ≤ 100 := by rw [Lib.decDigits_length]; have := nd10 v.natAbs (by omega); omega
    obtain ⟨da, hda⟩ : ∃ d, Lib.decDigits v.natAbs = d := ⟨_, rfl⟩
    rw [hda] at l1 HE hd
    have l3 : ¬ 9223372036854775807 < 1 + da.length := by omega
    clear hda
    obtain ⟨u, hu⟩ : ∃ u, 0 - v = u := ⟨_, rfl⟩
    rw [hu] at hd
    have hu2 : -v = u := by omega
    go_enter Tryd.func38, Tryd.ntmps38
    go_wp2_with fail
    refine hd.mono ?_
    rintro e w1 ⟨rfl, b1⟩
    go_wp2
    go_ret
    rw [HE.out, ← dash_str]
    exact ⟨rfl, b1⟩
  · have hd := refDigits_nat v.toNat w (by omega)
    rw [show ((v.toNat : Nat) : Int) = v by omega] at hd
    rw [show Lib.itoa v = Lib.decDigits v.toNat by rw [Lib.itoa, if_neg h]]
    exact hd
end Go.Proofs.YthcogkcjmhjjmaaDoor
