/-
  Contracts of layer 2: how many bytes a number has; what bytes tell.
-/
import Derived.Test.YtedmnkcoflbciaaGreatZm00
namespace Go.Proofs.YtedmnkcoflbciaaGreat
open Go.RowKit LebM Mem Go.Lib

/-- the first byte below 128 -/
def fst (B : List UInt8) : Nat := B.findIdx fun b => decide (b.toNat < 128)
def spanK (B : List UInt8) : Nat := if fst B < min B.length 10 then fst B + 1 else 0
def spanE (B : List UInt8) : Nat := if fst B < min B.length 10 then 0 else if B.length < 10 then 2 else 3
/-- the number with a sign of k bytes, of which n is told -/
def sgn (n k : Nat) : Int := wrap64 ((n * 2 ^ (64 - 7 * k) % 18446744073709551616 : Nat) : Int) / 2 ^ (64 - 7 * k)
theorem beq_txt (B B' : List UInt8) : ((txt B).toList == (txt B').toList) = decide (B = B') := by
  rw [show (txt B).toList = B from ByteArray.toList_mk B, show (txt B').toList = B' from ByteArray.toList_mk B']
  exact Bool.beq_eq_decide_eq _ _
set_option maxRecDepth 100000 in
set_option maxHeartbeats 400000 in
theorem All_any (A : Option Addr) (n c : Nat) (l : List Nat) (w : World) (hr : Rd w A n (l.map numc)) (hl : ∀ x ∈ l, x < 18446744073709551616) (hn : n ≤ 1000000) :
    Calls Tryz.prog 99 #[.slice A n c] w (Gives w (l.flatMap u)) := by
  have hBn : l.length = n := by simpa using hr.1
  have HB := Lib.hid hBn
  have HR := Lib.hid hr
  have HL := Lib.hid hl
  clear hBn hr hl
  go_enter Tryz.func99, Tryz.ntmps99
  go_wp2
  go_loopw [3, 8] (fun v i wr => ∃ (k : Nat) (D : List UInt8) (A : Option Addr) (c : Nat), k ≤ n ∧ i = .int .i64 k ∧ Hid (D = (l.take k).flatMap u) ∧ D.length ≤ 10 * k ∧ v = .slice A D.length c ∧ Own wr w.heap.size A c D ∧ Fr (fun _ => False) w wr)
    (fun _ i _ => n - (intOf i).toNat)
  case atStart => exact ⟨0, [], none, 0, by omega, rfl, rfl, by simp, rfl, Own.nil _ _, Fr.refl _ _⟩
  case round =>
    obtain ⟨k, D, A1, c1, hk, rfl, HD, hDl, rfl, hown, hfr⟩ := hrel
    have hsz := hfr.size
    by_cases hlt : k < n
    · obtain ⟨ad, v, rfl, hv, hcell⟩ := (HR.out.fr hfr (fun _ _ h => h)).at_ hlt
      obtain ⟨x, hx⟩ : ∃ x, l[k]? = some x := ⟨l[k]'(by have := HB.out; omega), List.getElem?_eq_getElem _⟩
      obtain rfl : numc x = v := by simpa [hx] using hv
      unfold numc at hcell
      have hx64 := HL.out x (List.mem_of_getElem? hx)
      have HX := Lib.hid hx
      have HO := Lib.hid hown
      clear hv hx hown
      have hu10 := u_len10 hx64
      go_wp2_with fail
      refine (U_any x _ hx64).mono ?_
      rintro e w1 ⟨A2, c2, rfl, hown2, hfr2⟩
      have hown1 := HO.out.fr hfr2
      have hsz2 := hfr2.size
      have hr2 := hown2.rd
      have H2 := Lib.hid hown2
      clear hown2
      go_wp2_with (at_builtin; refine wpList_app u8T _ rfl _ _ rfl w.heap.size _ _ _ rfl hown1 _ _ _ _ rfl hr2 (bytec_one _) (by unfold maxLen; omega) (by omega) (by omega) ?_)
      intro A' c' w' _ _ hown' hfr' _
      go_wp2
      go_roundw
      case rel =>
        refine ⟨k + 1, D ++ u x, A', c', by omega, by go_num, ?_, by rw [List.length_append]; omega, by rw [List.length_append], ?_, ?_⟩
        · show _ = _
          rw [HD.out, List.take_add_one, HX.out]
          simp
        · unfold Own
          rw [List.length_append, List.map_append]
          exact hown'
        · exact (hfr.trans hfr2 (fun _ _ h => h)).trans hfr' (fun b hb h => by have := HO.out.lt _ h; omega)
      case measure => simp [intOf] <;> omega
    · go_wp2
      go_ret
      obtain rfl : k = n := by omega
      have hD := HD.out
      rw [List.take_of_length_le (by have := HB.out; omega)] at hD
      rw [← hD]
      exact ⟨A1, c1, rfl, hown, hfr⟩
end Go.Proofs.YtedmnkcoflbciaaGreat
