/-
  Contracts of layer 2: awake.
-/
import Derived.Test.YtodliocbncjlcaaLebA
import Derived.Deep.DeepMust
namespace Go.Proofs.Ytodliocbncjlcaa
open Go.RowKit LebM Mem Go.Lib

theorem u300 : u 300 = [172, 2] := by rw [u_big (by omega), u_small (by omega)]; rfl
theorem s1 : s (-1) = [127] := by rw [s_small (by omega)]; rfl

set_option maxHeartbeats 800000 in
theorem awake_any (w : World) : Calls Try.prog 8 #[] w fun e w' => e = .returned (.bool true) ∧ Fr (fun _ => False) w w' := by
  have h1 := U_any 300 w (by omega)
  have h2 := fun w => S_any (-1) w (by omega) (by omega)
  rw [u300] at h1
  rw [s1] at h2
  have H1 := Lib.hid h1
  have H2 := Lib.hid h2
  clear h1 h2
  go_enter Try.func8, Try.ntmps8
  go_wp2_with fail
  refine H1.out.mono ?_
  rintro e w1 ⟨A1, c1, rfl, hown1, hfr1⟩
  have hs1 : (convert 25 9 (.slice A1 2 c1)).run Try.prog w1 = .ok (.string (txt [172, 2])) w1 := hown1.str
  have hq1 : (txt [172, 2]).toList = [172, 2] := ByteArray.toList_mk _
  clear hown1
  go_wp2_with fail
  refine (H2.out _).mono ?_
  rintro e w2 ⟨A2, c2, rfl, hown2, hfr2⟩
  have hs2 : (convert 25 9 (.slice A2 1 c2)).run Try.prog w2 = .ok (.string (txt [127])) w2 := hown2.str
  have hq2 : (txt [127]).toList = [127] := ByteArray.toList_mk _
  clear hown2
  go_wp2
  go_ret
  exact ⟨rfl, hfr1.trans hfr2 (fun _ _ h => h)⟩

end Go.Proofs.Ytodliocbncjlcaa
