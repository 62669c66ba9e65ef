/-
  The library's stable sort at numbers, by keys: the numbers, in order; of one key, as they stood.
-/
import Derived.Test.YtphalcpmeblkgaaHxH
namespace Go.Proofs.Ytphalcpmeblkgaa
open Go.RowKit HuffM Mem Go.Lib
attribute [local go_sem ↓] Go.wp_at_zero Go.wp_at_succ

set_option maxRecDepth 1000000 in
set_option maxHeartbeats 6400000 in
theorem stable_any (g n c bx N : Nat) (key : Nat → Nat) (d : List Nat) (w : World) (hc : Col w g d) (hn : d.length = n) (hn1 : n ≤ 1000) (K : CmpK g bx key N w) (hlow : ∀ x ∈ d, x < N) (hst : Sta key d) :
    Calls Try.prog 41 #[.slice (some ⟨g, 0, none⟩) n c, .int .i64 (n : Int), .func (.func 36) #[] #[.pointer (some ⟨bx, 0, none⟩)]] w fun e w' =>
      e = .returned (.tuple #[]) ∧ ∃ C, C.Perm d ∧ Srt key C ∧ Col w' g C ∧ Fr (fun b => b = g) w w' := by
  have HC := Lib.hid hc
  have HN := Lib.hid hn
  have HK := Lib.hid K
  have HLOW := Lib.hid hlow
  have HST := Lib.hid hst
  clear hc hn K hlow hst
  go_enter Try.func41, Try.ntmps41
  go_wp2
  go_loopw [7, 8] (fun va vb wr => ∃ (a b : Nat) (L : List (List Nat)) (R : List Nat), va = .int .i64 (a : Int) ∧ vb = .int .i64 (b : Int) ∧ a ≤ n ∧ b ≤ a + 20 ∧ a + 20 ≤ b ∧ Hid (Bks key 20 L ∧ L.flatten.length = a ∧ a + R.length = n) ∧ Hid ((L.flatten ++ R).Perm d ∧ Sta key (L.flatten ++ R)) ∧ Hid (Col wr g (L.flatten ++ R)) ∧ Fr (fun b => b = g) w wr)
    (fun va _ _ => n - (intOf va).toNat)
  case atStart => exact ⟨0, 20, [], d, rfl, rfl, by omega, by omega, by omega, ⟨fun C h => by simp at h, rfl, by rw [HN.out, Nat.zero_add]⟩, ⟨List.Perm.refl _, HST.out⟩, HC, Fr.refl _ _⟩
  case round =>
    clear HC
    obtain ⟨a, b, L, R, rfl, rfl, han, hb1, hb2, HL, HP, HCj, hfr⟩ := hrel
    by_cases hlt : a + 20 ≤ n
    · obtain ⟨R1, hR1⟩ : ∃ R1, R1 = R.take 20 := ⟨_, rfl⟩
      obtain ⟨R2, hR2⟩ : ∃ R2, R2 = R.drop 20 := ⟨_, rfl⟩
      have hR : R = R1 ++ R2 := by rw [hR1, hR2, List.take_append_drop]
      have l1 : R1.length = 20 := by rw [hR1, List.length_take]; have := HL.out; omega
      clear hR1 hR2
      subst hR
      have hb : b = a + 20 := by omega
      have tb : decide ((b : Int) ≤ (n : Int)) = true := by simp; omega
      have tb' : b ≤ n := by omega
      have hsub := sta_stb (sta_stb HP.out.2).2.1
      have hcall := ins_any g n c a b bx N key L.flatten R1 R2 wr HCj.out (by have := HL.out; rw [List.length_append] at this; omega) hn1 HL.out.2.1.symm (by have := HL.out; omega) (HK.out.fr hfr)
        (fun x hx => HLOW.out x (HP.out.1.mem_iff.1 (by simp [hx]))) hsub.1
      have HCALL := Lib.hid hcall
      have HB := Lib.hid (And.intro hb l1)
      clear hcall hb l1 hsub hlt
      go_wp2_with fail
      refine HCALL.out.mono ?_
      rintro e w2 ⟨rfl, C, hp2, hs2, hc2, hf2⟩
      have HC2 := Lib.hid hc2
      have HP2 := Lib.hid (And.intro hp2 hs2)
      have HF2 := Lib.hid (hfr.trans hf2 (fun _ _ h => h))
      clear hc2 hp2 hs2 hf2 hfr HCALL HCj
      go_wp2
      go_roundw
      case rel =>
        refine ⟨b, b + 20, L ++ [C], R2, rfl, by go_num, tb', by omega, by omega, ⟨HL.out.1.snoc (by rw [HP2.out.1.length_eq, HB.out.2]) HP2.out.2, ?_, ?_⟩, ⟨?_, ?_⟩, ?_, HF2.out⟩
        · rw [flat_snoc, List.length_append, HP2.out.1.length_eq, HB.out.2, HL.out.2.1, HB.out.1]
        · have h := HL.out.2.2
          rw [List.length_append] at h
          have := HB.out
          omega
        · rw [flat_snoc, List.append_assoc]
          exact perm_in HP.out.1 HP2.out.1
        · rw [flat_snoc, List.append_assoc]
          exact sta_in HP.out.2 HP2.out.1 HP2.out.2
        · show Col _ _ _
          rw [flat_snoc, List.append_assoc]
          exact HC2.out
      case measure => have := HB.out; simp [intOf]; omega
    · have t1 : ¬ b ≤ n := by omega
      have hcall := ins_any g n c a n bx N key L.flatten R [] wr (by rw [List.append_nil]; exact HCj.out) (by have := HL.out; simp; simp at this; omega) hn1 HL.out.2.1.symm (by have := HL.out; omega) (HK.out.fr hfr)
        (fun x hx => HLOW.out x (HP.out.1.mem_iff.1 (by simp [hx]))) (sta_stb HP.out.2).2.1
      have HCALL := Lib.hid hcall
      have HLT := Lib.hid hlt
      clear hcall hlt
      go_wp2_with fail
      refine HCALL.out.mono ?_
      rintro e w2 ⟨rfl, T, hp2, hs2, hc2, hf2⟩
      have HL2 : Hid (Bks key 20 L ∧ T.length < 20 ∧ L.flatten.length + T.length = n ∧ Srt key T) := ⟨HL.out.1, by rw [hp2.length_eq]; have := HL.out; have := HLT.out; omega, by rw [hp2.length_eq, HL.out.2.1]; exact HL.out.2.2, hs2⟩
      have HP2 : Hid ((L.flatten ++ T).Perm d ∧ Sta key (L.flatten ++ T)) := by
        refine ⟨(List.Perm.append_left _ hp2).trans HP.out.1, ?_⟩
        have h := sta_in (S := []) (by rw [List.append_nil]; exact HP.out.2) hp2 hs2
        rwa [List.append_nil] at h
      have HC2 : Hid (Col w2 g (L.flatten ++ T)) := by rw [List.append_nil] at hc2; exact hc2
      have HF2 := Lib.hid (hfr.trans hf2 (fun _ _ h => h))
      clear hc2 hp2 hs2 hf2 hfr HCALL HCj HL HP t1 HLT
      go_wp2_with fail
      go_loopw [6] (fun vs wr => ∃ (bs : Nat) (L : List (List Nat)) (T : List Nat), vs = .int .i64 (bs : Int) ∧ 20 ≤ bs ∧ bs ≤ 2000 ∧ Hid (Bks key bs L ∧ T.length < bs ∧ L.flatten.length + T.length = n ∧ Srt key T) ∧ Hid ((L.flatten ++ T).Perm d ∧ Sta key (L.flatten ++ T)) ∧ Hid (Col wr g (L.flatten ++ T)) ∧ Fr (fun b => b = g) w wr)
        (fun vs _ => n - (intOf vs).toNat)
      case atStart => exact ⟨20, L, T, rfl, by omega, by omega, HL2, HP2, HC2, HF2.out⟩
      case round =>
        clear HL2 HP2 HC2 HF2 han
        obtain ⟨bs, L, T, rfl, hb20, hb2, HL, HP, HCj, hfr⟩ := hrel
        by_cases hlt : bs < n
        · have HF := Lib.hid hfr
          rename World => wo
          clear hfr
          go_wp2_with fail
          go_loopw [7, 8] (fun va vb wr => ∃ (a b : Nat) (Q L2 : List (List Nat)), va = .int .i64 (a : Int) ∧ vb = .int .i64 (b : Int) ∧ a ≤ n ∧ b ≤ a + 2 * bs ∧ a + 2 * bs ≤ b ∧
              Hid (Bks key (2 * bs) Q ∧ Bks key bs L2 ∧ Q.flatten.length = a ∧ a + L2.flatten.length + T.length = n) ∧ Hid ((Q.flatten ++ (L2.flatten ++ T)).Perm d ∧ Sta key (Q.flatten ++ (L2.flatten ++ T))) ∧ Hid (Col wr g (Q.flatten ++ (L2.flatten ++ T))) ∧ Fr (fun b => b = g) w wr)
            (fun va _ _ => n - (intOf va).toNat)
          case atStart => exact ⟨0, 2 * bs, [], L, rfl, by go_num, by omega, by omega, by omega, ⟨fun C h => by simp at h, HL.out.1, rfl, by have := HL.out.2.2.1; omega⟩, HP, HCj, HF.out⟩
          case round =>
            have HT := Lib.hid (And.intro HL.out.2.1 HL.out.2.2.2)
            clear HP HCj HF HL
            obtain ⟨a, b, Q, L2, rfl, rfl, han, hb1, hb2, HL, HP, HCj, hfr⟩ := hrel
            by_cases hbn : b ≤ n
            · obtain ⟨C1, C2, L3, hL2⟩ : ∃ C1 C2 L3, L2 = C1 :: C2 :: L3 := by
                have h := HL.out
                have hT := HT.out.1
                match L2, h with
                | [], h => have := h.2.2.2; simp at this; omega
                | [C1], h => have h1 := h.2.2.2; have h2 := (h.2.1 C1 (by simp)).1; simp at h1; omega
                | C1 :: C2 :: L3, _ => exact ⟨C1, C2, L3, rfl⟩
              subst hL2
              have k1 := HL.out.2.1 C1 (by simp)
              have k2 := HL.out.2.1 C2 (by simp)
              have k3 : Bks key bs L3 := fun C hC => HL.out.2.1 C (by simp [hC])
              have hcol := HCj.out
              have hpp := HP.out
              rw [show (C1 :: C2 :: L3).flatten ++ T = C1 ++ (C2 ++ (L3.flatten ++ T)) from by simp] at hcol hpp
              have hlen := HL.out.2.2
              rw [show (C1 :: C2 :: L3).flatten.length = C1.length + C2.length + L3.flatten.length from by simp; omega, k1.1, k2.1] at hlen
              obtain ⟨m, hm⟩ : ∃ m, m = a + bs := ⟨_, rfl⟩
              have em : (a : Int) + (bs : Int) = (m : Int) := by omega
              have hcall := sym_any n g n c a m b bx N key Q.flatten C1 C2 (L3.flatten ++ T) wr (by omega) hcol (by rw [List.length_append]; omega) hn1 hlen.1.symm (by omega) (by omega) (by omega) (by omega) (HK.out.fr hfr)
                (fun x hx => HLOW.out x (hpp.1.mem_iff.1 hx)) k1.2 k2.2 (fun x hx y hy => (sta_stb (sta_stb hpp.2).2.1).2.2 x hx y (by simp [hy]))
              have HCALL := Lib.hid hcall
              have HM := Lib.hid (And.intro hm (And.intro k1 (And.intro k2 (And.intro k3 (And.intro hpp hlen)))))
              have hmn : m ≤ n := by omega
              clear hcall hm k1 k2 k3 hcol hpp hlen HCj HP
              go_wp2_with fail
              refine HCALL.out.mono ?_
              rintro e w2 ⟨rfl, C, hp2, hs2, hc2, hf2⟩
              have HC2 := Lib.hid hc2
              have HP2 := Lib.hid (And.intro hp2 hs2)
              have HF2 := Lib.hid (hfr.trans hf2 (fun _ _ h => h))
              clear hc2 hp2 hs2 hf2 hfr HCALL em
              go_wp2
              go_roundw
              case rel =>
                have hl : C.length = 2 * bs := by rw [HP2.out.1.length_eq, List.length_append, HM.out.2.1.1, HM.out.2.2.1.1]; omega
                refine ⟨b, b + 2 * bs, Q ++ [C], L3, rfl, by first | go_num | (congr 1; omega), hbn, by omega, by omega, ⟨HL.out.1.snoc hl HP2.out.2, HM.out.2.2.2.1, ?_, ?_⟩, ⟨?_, ?_⟩, ?_, HF2.out⟩
                · rw [flat_snoc, List.length_append, hl, HL.out.2.2.1]; omega
                · have := HM.out.2.2.2.2.2; omega
                · rw [flat_snoc, List.append_assoc]
                  exact perm_in (X := C1 ++ C2) (by rw [List.append_assoc]; exact HM.out.2.2.2.2.1.1) HP2.out.1
                · rw [flat_snoc, List.append_assoc]
                  exact sta_in (X := C1 ++ C2) (by rw [List.append_assoc]; exact HM.out.2.2.2.2.1.2) HP2.out.1 HP2.out.2
                · show Col _ _ _
                  rw [flat_snoc, List.append_assoc]
                  exact HC2.out
              case measure => simp [intOf]; omega
            · obtain ⟨m, hm⟩ : ∃ m, m = a + bs := ⟨_, rfl⟩
              have em : (a : Int) + (bs : Int) = (m : Int) := by omega
              by_cases hmn : m < n
              · obtain ⟨C1, hL2⟩ : ∃ C1, L2 = [C1] := by
                  have h := HL.out
                  have hT := HT.out.1
                  match L2, h with
                  | [], h => have := h.2.2.2; simp at this; omega
                  | [C1], h => exact ⟨C1, rfl⟩
                  | C1 :: C2 :: L3, h =>
                    have h1 := h.2.2.2
                    have h2 := (h.2.1 C1 (by simp)).1
                    have h3 := (h.2.1 C2 (by simp)).1
                    simp at h1
                    omega
                subst hL2
                have k1 := HL.out.2.1 C1 (by simp)
                have hcol := HCj.out
                have hpp := HP.out
                rw [show [C1].flatten ++ T = C1 ++ T from by simp] at hcol hpp
                have hlen := HL.out.2.2
                rw [show [C1].flatten.length = C1.length from by simp, k1.1] at hlen
                have hcall := sym_any n g n c a m n bx N key Q.flatten C1 T [] wr (by omega) (by rw [List.append_nil]; exact hcol) (by simp; simp at hlen; omega) hn1 hlen.1.symm (by omega) (by omega) (by omega) (by omega) (HK.out.fr hfr)
                  (fun x hx => HLOW.out x (hpp.1.mem_iff.1 (by rw [List.append_nil] at hx; exact hx))) k1.2 HT.out.2 (sta_stb (sta_stb hpp.2).2.1).2.2
                have HCALL := Lib.hid hcall
                have HM := Lib.hid (And.intro hm (And.intro k1 (And.intro hpp hlen)))
                have hm2 : m ≤ n := by omega
                clear hcall hm k1 hcol hpp hlen HCj HP
                go_wp2_with fail
                refine HCALL.out.mono ?_
                rintro e w2 ⟨rfl, C, hp2, hs2, hc2, hf2⟩
                have HC2 := Lib.hid hc2
                have HP2 := Lib.hid (And.intro hp2 hs2)
                have HF2 := Lib.hid (hfr.trans hf2 (fun _ _ h => h))
                clear hc2 hp2 hs2 hf2 hfr HCALL em
                go_wp2
                go_roundw
                case rel =>
                  have hl : C.length = bs + T.length := by rw [HP2.out.1.length_eq, List.length_append, HM.out.2.1.1]
                  have hT := HT.out.1
                  have hh := HM.out.2.2
                  refine ⟨2 * bs, Q, C, by first | go_num | (congr 1; omega), by omega, by omega, ⟨HL.out.1, by omega, by omega, HP2.out.2⟩, ⟨?_, ?_⟩, ?_, HF2.out⟩
                  · exact (List.Perm.append_left _ HP2.out.1).trans hh.1.1
                  · have h := sta_in (S := []) (by rw [List.append_nil]; exact hh.1.2) HP2.out.1 HP2.out.2
                    rwa [List.append_nil] at h
                  · have h := HC2.out
                    rw [List.append_nil] at h
                    exact h
                case measure => simp [intOf] <;> omega
              · -- nothing is left that is to be merged
                have hT' : ∃ T', L2.flatten ++ T = T' ∧ T'.length < 2 * bs ∧ Srt key T' := by
                  have h := HL.out
                  have hT := HT.out
                  match L2, h with
                  | [], h => exact ⟨T, rfl, by omega, hT.2⟩
                  | [C1], h =>
                    have h2 := h.2.1 C1 (by simp)
                    have h3 := h.2.2.2
                    simp at h3
                    have hT0 : T = [] := List.eq_nil_of_length_eq_zero (by omega)
                    exact ⟨C1, by rw [hT0]; simp, by omega, h2.2⟩
                  | C1 :: C2 :: L3, h =>
                    have h1 := h.2.2.2
                    have h2 := (h.2.1 C1 (by simp)).1
                    have h3 := (h.2.1 C2 (by simp)).1
                    simp at h1
                    omega
                obtain ⟨T', e, h1, h2⟩ := hT'
                have hpp := HP.out
                have hcol := HCj.out
                rw [e] at hpp hcol
                have hlen : Q.flatten.length + T'.length = n := by
                  rw [← e, List.length_append]
                  have := HL.out.2.2
                  omega
                have HQ := Lib.hid (And.intro HL.out.1 (And.intro h1 (And.intro hlen h2)))
                have HPP := Lib.hid hpp
                have HCC := Lib.hid hcol
                have HM := Lib.hid hm
                clear e h1 h2 hpp hcol hlen HP HCj hm
                go_wp2
                go_roundw
                case rel => exact ⟨2 * bs, Q, T', by first | go_num | (congr 1; omega), by omega, by omega, HQ, HPP, HCC, hfr⟩
                case measure => simp [intOf] <;> omega
        · have hend : Srt key (L.flatten ++ T) := by
            have h := HL.out
            cases L with
            | nil => exact h.2.2.2
            | cons C L =>
              have hC := h.1 C (List.mem_cons_self ..)
              have hlen := h.2.2.1
              rw [List.flatten_cons, List.length_append, hC.1] at hlen
              have e1 : L.flatten = [] := List.eq_nil_of_length_eq_zero (by omega)
              have e2 : T = [] := List.eq_nil_of_length_eq_zero (by omega)
              rw [List.flatten_cons, e1, e2, List.append_nil, List.append_nil]
              exact hC.2
          have HEND := Lib.hid hend
          clear hend
          go_wp2
          go_end0
          exact ⟨rfl, _, HP.out.1, HEND.out, HCj.out, hfr⟩
end Go.Proofs.Ytphalcpmeblkgaa
