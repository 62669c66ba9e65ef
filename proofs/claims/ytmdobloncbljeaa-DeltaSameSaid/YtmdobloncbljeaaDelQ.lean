/-
  Layer 12, the program: Put, Get (written by gen12.py).
-/
import Derived.Test.YtmdobloncbljeaaDelK
import Derived.Test.YtmdobloncbljeaaDelO
namespace Go.Proofs.Ytmdobloncbljeaa
open Go.RowKit Mem Go.Lib RleM LebM
attribute [local go_sem ↓] Go.wp_at_zero Go.wp_at_succ
set_option linter.unusedVariables false

set_option maxRecDepth 100000 in
set_option maxHeartbeats 3200000 in
theorem dPut_any (A : Option Addr) (n c : Nat) (L : List (Bool × Int)) (w : World) (hL : Cls nv w A n L) (hn : n ≤ 100000) (hm : ∀ x ∈ L, mayS x) :
    Calls Try.prog 9 #[.slice A n c] w (Gives w (tellW kS (gatherG (stepsF 0 L)))) := by
  have HD := Lib.hid (diff_any A n c L w hL (by omega) hm)
  obtain ⟨R, hR⟩ : ∃ R, R = stepsF 0 L := ⟨_, rfl⟩
  have hmr : ∀ x ∈ R, mayS x := by rw [hR]; exact steps_may 0 L hm
  have hrl : R.length = n := by rw [hR, steps_len]; exact hL.1
  have hd := HD.out
  rw [← hR] at hd ⊢
  replace HD := Lib.hid hd
  have HMR := Lib.hid hmr
  have HRL := Lib.hid hrl
  clear hL hR hmr hm hd hrl
  go_enter Try.func9, Try.ntmps9
  go_wp2_with fail
  refine HD.out.mono ?_
  rintro e w3 ⟨A3, c3, rfl, hO3, hf3⟩
  have HC : Hid (Cls nv w3 A3 n R) := Lib.hid (by have h := hO3.cls; rw [HRL.out] at h; exact h)
  have HF3 := Lib.hid hf3
  clear hO3 hf3 HD
  go_wp2_with fail
  refine (pPutS_any A3 n c3 R w3 HC.out (by omega) (fun x hx => (HMR.out x hx).2)).mono ?_
  rintro e w4 ⟨A4, c4, rfl, hO4, hf4⟩
  have HO4 := Lib.hid (hO4.base HF3.out.size)
  have HF4 := Lib.hid (HF3.out.trans hf4 (fun _ _ h => h))
  clear hO4 hf4
  go_wp2_with fail
  go_ret
  exact ⟨A4, c4, rfl, HO4.out, HF4.out⟩
set_option maxRecDepth 100000 in
set_option maxHeartbeats 3200000 in
theorem dGet_any (A : Option Addr) (m c : Nat) (B : List UInt8) (most : Int) (w0 : World) (hr : Rd w0 A m (B.map bytec)) (hc : m ≤ c) (hn : m ≤ 1000000) (hm0 : -9223372036854775808 ≤ most) (hm1 : most ≤ 100000) :
    Calls Try.prog 11 #[.slice A m c, .int .i64 most] w0 fun e w' =>
      ∃ A' c', e = .returned (.tuple #[.slice A' (sumsF 0 (toC (readG kS most B)).1).length c', .int .i64 ((toC (readG kS most B)).2 : Nat)]) ∧ OwnC nv 30 w' w0.heap.size A' c' (sumsF 0 (toC (readG kS most B)).1) ∧ Fr (fun _ => False) w0 w' := by
  have hg := pGetS_any A m c B most w0 hr hc hn hm0 (by omega)
  have hcase : (∃ xs, toC (readG kS most B) = (xs, 0) ∧ xs.length ≤ 1000000 ∧ ∀ x ∈ xs, mayS x) ∨ ∃ e, e ≠ 0 ∧ toC (readG kS most B) = ([], e) := by
    have hBl : B.length ≤ 1000000 := by have := hr.1; simp at this; omega
    cases h : readG kS most B with
    | ok g => obtain ⟨_, h2, h3⟩ := read_ok goodM (by omega) hBl h; exact .inl ⟨spreadG g, rfl, h3, h2⟩
    | error e => exact .inr ⟨e, read_err h, rfl⟩
  obtain ⟨X, hX⟩ : ∃ X, X = toC (readG kS most B) := ⟨_, rfl⟩
  rw [← hX] at hg hcase ⊢
  have HG0 := Lib.hid hg
  clear hg hX hr
  rcases hcase with ⟨L, rfl, hxl, hml⟩ | ⟨er, her, rfl⟩
  · obtain ⟨n, hnn⟩ : ∃ n, n = L.length := ⟨_, rfl⟩
    have hg := HG0.out
    simp only at hg
    rw [← hnn] at hg
    replace HG0 := Lib.hid hg
    have HNN := Lib.hid hnn
    have HML := Lib.hid hml
    simp only
    rw [sums_len, ← hnn]
    have hn1 : n ≤ 1000000 := by omega
    clear hg hnn hxl hml
    go_enter Try.func11, Try.ntmps11
    go_wp2_with fail
    refine HG0.out.mono ?_
    rintro e w ⟨A2, c2, rfl, hO2, hf2⟩
    have HL : Hid (Cls nv w A2 n L) := Lib.hid (by have h := hO2.cls; rw [← HNN.out] at h; exact h)
    have HFA := Lib.hid hf2
    clear hO2 hf2 HG0
    go_wp2_with fail
    refine (sums_any A2 n c2 L w HL.out hn1 HML.out).mono ?_
    rintro e w3 ⟨A3, c3, rfl, hO3, hf3⟩
    have HO3 := Lib.hid (hO3.base HFA.out.size)
    have HF3 := Lib.hid (HFA.out.trans hf3 (fun _ _ h => h))
    clear hO3 hf3
    go_wp2_with fail
    exact bodyPost_ret (v := .tuple #[.slice A3 n c3, .int .i64 0]) (by simp [results, Try.results11, go_sem]) rfl ⟨A3, c3, rfl, HO3.out, HF3.out⟩
  · have te : ((er : Int) != 0) = true := by simp; omega
    have te' : (er != 0) = true := by simp; omega
    have HGE := Lib.hid HG0.out
    clear her HG0
    go_enter Try.func11, Try.ntmps11
    go_wp2_with fail
    refine HGE.out.mono ?_
    rintro e w ⟨A2, c2, rfl, hO2, hf2⟩
    have HFA := Lib.hid hf2
    clear hO2 hf2 HGE
    go_wp2_with fail
    refine bodyPost_ret (v := .tuple #[.slice none 0 0, .int .i64 (er : Nat)]) (by simp [results, Try.results11, go_sem]) rfl ?_
    exact ⟨none, 0, rfl, OwnC.nil _ _ _, HFA.out⟩
theorem delC : DelC := ⟨dPut_any, dGet_any⟩
end Go.Proofs.Ytmdobloncbljeaa
