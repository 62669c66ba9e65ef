/-
  The library's stable sort at numbers, by keys: the numbers, in order; of one key, as they stood.
  The program's coded: the symbols that have codes, by their lengths, then by their numbers.
  The program's New: a coder of lengths.
  What a coder's Next is to tell: the reference's symbol of the bits that are left.
-/
import Derived.Test.YtgpkiijmembggaaGreatDoorZm19
import Derived.Test.YtgpkiijmembggaaGreatDoorZm17
import Derived.Test.YtgpkiijmembggaaGreatDoorZm05
import Derived.Test.YtgpkiijmembggaaGreatDoorZm16
import Derived.Test.YtgpkiijmembggaaGreatDoorZm00
import Derived.Test.YtgpkiijmembggaaGreatDoorZm08
namespace Go.Proofs.YtgpkiijmembggaaGreatDoor
open Go.RowKit HuffM Mem Go.Lib
attribute [local go_sem ↓] Go.wp_at_zero Go.wp_at_succ

set_option maxRecDepth 1000000 in
set_option maxHeartbeats 6400000 in
theorem stable_any (g n c bx N : Nat) (key : Nat → Nat) (d : List Nat) (w : World) (hc : Col w g d) (hn : d.length = n) (hn1 : n ≤ 1000) (K : CmpK g bx key N w) (hlow : ∀ x ∈ d, x < N) (hst : Sta key d) :
    Calls Tryz.prog 99 #[.slice (some ⟨g, 0, none⟩) n c, .int .i64 (n : Int), .func (.func 85) #[] #[.pointer (some ⟨bx, 0, none⟩)]] w fun e w' =>
      e = .returned (.tuple #[]) ∧ ∃ C, C.Perm d ∧ Srt key C ∧ Col w' g C ∧ Fr (fun b => b = g) w w' := by
  have HC := Lib.hid hc
  have HN := Lib.hid hn
  have HK := Lib.hid K
  have HLOW := Lib.hid hlow
  have HST := Lib.hid hst
  clear hc hn K hlow hst
  go_enter Tryz.func99, Tryz.ntmps99
  go_wp2
  go_loopw [7, 8] (fun va vb wr => ∃ (a b : Nat) (L : List (List Nat)) (R : List Nat), va = .int .i64 (a : Int) ∧ vb = .int .i64 (b : Int) ∧ a ≤ n ∧ b ≤ a + 20 ∧ a + 20 ≤ b ∧ Hid (Bks key 20 L ∧ L.flatten.length = a ∧ a + R.length = n) ∧ Hid ((L.flatten ++ R).Perm d ∧ Sta key (L.flatten ++ R)) ∧ Hid (Col wr g (L.flatten ++ R)) ∧ Fr (fun b => b = g) w wr)
    (fun va _ _ => n - (intOf va).toNat)
  case atStart => exact ⟨0, 20, [], d, rfl, rfl, by omega, by omega, by omega, ⟨fun C h => by simp at h, rfl, by rw [HN.out, Nat.zero_add]⟩, ⟨List.Perm.refl _, HST.out⟩, HC, Fr.refl _ _⟩
  case round =>
    clear HC
    obtain ⟨a, b, L, R, rfl, rfl, han, hb1, hb2, HL, HP, HCj, hfr⟩ := hrel
    by_cases hlt : a + 20 ≤ n
    · obtain ⟨R1, hR1⟩ : ∃ R1, R1 = R.take 20 := ⟨_, rfl⟩
      obtain ⟨R2, hR2⟩ : ∃ R2, R2 = R.drop 20 := ⟨_, rfl⟩
      have hR : R = R1 ++ R2 := by rw [hR1, hR2, List.take_append_drop]
      have l1 : R1.length = 20 := by rw [hR1, List.length_take]; have := HL.out; omega
      clear hR1 hR2
      subst hR
      have hb : b = a + 20 := by omega
      have tb : decide ((b : Int) ≤ (n : Int)) = true := by simp; omega
      have tb' : b ≤ n := by omega
      have hsub := sta_stb (sta_stb HP.out.2).2.1
      have hcall := ins_any g n c a b bx N key L.flatten R1 R2 wr HCj.out (by have := HL.out; rw [List.length_append] at this; omega) hn1 HL.out.2.1.symm (by have := HL.out; omega) (HK.out.fr hfr)
        (fun x hx => HLOW.out x (HP.out.1.mem_iff.1 (by simp [hx]))) hsub.1
      have HCALL := Lib.hid hcall
      have HB := Lib.hid (And.intro hb l1)
      clear hcall hb l1 hsub hlt
      go_wp2_with fail
      refine HCALL.out.mono ?_
      rintro e w2 ⟨rfl, C, hp2, hs2, hc2, hf2⟩
      have HC2 := Lib.hid hc2
      have HP2 := Lib.hid (And.intro hp2 hs2)
      have HF2 := Lib.hid (hfr.trans hf2 (fun _ _ h => h))
      clear hc2 hp2 hs2 hf2 hfr HCALL HCj
      go_wp2
      go_roundw
      case rel =>
        refine ⟨b, b + 20, L ++ [C], R2, rfl, by go_num, tb', by omega, by omega, ⟨HL.out.1.snoc (by rw [HP2.out.1.length_eq, HB.out.2]) HP2.out.2, ?_, ?_⟩, ⟨?_, ?_⟩, ?_, HF2.out⟩
        · rw [flat_snoc, List.length_append, HP2.out.1.length_eq, HB.out.2, HL.out.2.1, HB.out.1]
        · have h := HL.out.2.2
          rw [List.length_append] at h
          have := HB.out
          omega
        · rw [flat_snoc, List.append_assoc]
          exact perm_in HP.out.1 HP2.out.1
        · rw [flat_snoc, List.append_assoc]
          exact sta_in HP.out.2 HP2.out.1 HP2.out.2
        · show Col _ _ _
          rw [flat_snoc, List.append_assoc]
          exact HC2.out
      case measure => have := HB.out; simp [intOf]; omega
    · have t1 : ¬ b ≤ n := by omega
      have hcall := ins_any g n c a n bx N key L.flatten R [] wr (by rw [List.append_nil]; exact HCj.out) (by have := HL.out; simp; simp at this; omega) hn1 HL.out.2.1.symm (by have := HL.out; omega) (HK.out.fr hfr)
        (fun x hx => HLOW.out x (HP.out.1.mem_iff.1 (by simp [hx]))) (sta_stb HP.out.2).2.1
      have HCALL := Lib.hid hcall
      have HLT := Lib.hid hlt
      clear hcall hlt
      go_wp2_with fail
      refine HCALL.out.mono ?_
      rintro e w2 ⟨rfl, T, hp2, hs2, hc2, hf2⟩
      have HL2 : Hid (Bks key 20 L ∧ T.length < 20 ∧ L.flatten.length + T.length = n ∧ Srt key T) := ⟨HL.out.1, by rw [hp2.length_eq]; have := HL.out; have := HLT.out; omega, by rw [hp2.length_eq, HL.out.2.1]; exact HL.out.2.2, hs2⟩
      have HP2 : Hid ((L.flatten ++ T).Perm d ∧ Sta key (L.flatten ++ T)) := by
        refine ⟨(List.Perm.append_left _ hp2).trans HP.out.1, ?_⟩
        have h := sta_in (S := []) (by rw [List.append_nil]; exact HP.out.2) hp2 hs2
        rwa [List.append_nil] at h
      have HC2 : Hid (Col w2 g (L.flatten ++ T)) := by rw [List.append_nil] at hc2; exact hc2
      have HF2 := Lib.hid (hfr.trans hf2 (fun _ _ h => h))
      clear hc2 hp2 hs2 hf2 hfr HCALL HCj HL HP t1 HLT
      go_wp2_with fail
      go_loopw [6] (fun vs wr => ∃ (bs : Nat) (L : List (List Nat)) (T : List Nat), vs = .int .i64 (bs : Int) ∧ 20 ≤ bs ∧ bs ≤ 2000 ∧ Hid (Bks key bs L ∧ T.length < bs ∧ L.flatten.length + T.length = n ∧ Srt key T) ∧ Hid ((L.flatten ++ T).Perm d ∧ Sta key (L.flatten ++ T)) ∧ Hid (Col wr g (L.flatten ++ T)) ∧ Fr (fun b => b = g) w wr)
        (fun vs _ => n - (intOf vs).toNat)
      case atStart => exact ⟨20, L, T, rfl, by omega, by omega, HL2, HP2, HC2, HF2.out⟩
      case round =>
        clear HL2 HP2 HC2 HF2 han
        obtain ⟨bs, L, T, rfl, hb20, hb2, HL, HP, HCj, hfr⟩ := hrel
        by_cases hlt : bs < n
        · have HF := Lib.hid hfr
          rename World => wo
          clear hfr
          go_wp2_with fail
          go_loopw [7, 8] (fun va vb wr => ∃ (a b : Nat) (Q L2 : List (List Nat)), va = .int .i64 (a : Int) ∧ vb = .int .i64 (b : Int) ∧ a ≤ n ∧ b ≤ a + 2 * bs ∧ a + 2 * bs ≤ b ∧
              Hid (Bks key (2 * bs) Q ∧ Bks key bs L2 ∧ Q.flatten.length = a ∧ a + L2.flatten.length + T.length = n) ∧ Hid ((Q.flatten ++ (L2.flatten ++ T)).Perm d ∧ Sta key (Q.flatten ++ (L2.flatten ++ T))) ∧ Hid (Col wr g (Q.flatten ++ (L2.flatten ++ T))) ∧ Fr (fun b => b = g) w wr)
            (fun va _ _ => n - (intOf va).toNat)
          case atStart => exact ⟨0, 2 * bs, [], L, rfl, by go_num, by omega, by omega, by omega, ⟨fun C h => by simp at h, HL.out.1, rfl, by have := HL.out.2.2.1; omega⟩, HP, HCj, HF.out⟩
          case round =>
            have HT := Lib.hid (And.intro HL.out.2.1 HL.out.2.2.2)
            clear HP HCj HF HL
            obtain ⟨a, b, Q, L2, rfl, rfl, han, hb1, hb2, HL, HP, HCj, hfr⟩ := hrel
            by_cases hbn : b ≤ n
            · obtain ⟨C1, C2, L3, hL2⟩ : ∃ C1 C2 L3, L2 = C1 :: C2 :: L3 := by
                have h := HL.out
                have hT := HT.out.1
                match L2, h with
                | [], h => have := h.2.2.2; simp at this; omega
                | [C1], h => have h1 := h.2.2.2; have h2 := (h.2.1 C1 (by simp)).1; simp at h1; omega
                | C1 :: C2 :: L3, _ => exact ⟨C1, C2, L3, rfl⟩
              subst hL2
              have k1 := HL.out.2.1 C1 (by simp)
              have k2 := HL.out.2.1 C2 (by simp)
              have k3 : Bks key bs L3 := fun C hC => HL.out.2.1 C (by simp [hC])
              have hcol := HCj.out
              have hpp := HP.out
              rw [show (C1 :: C2 :: L3).flatten ++ T = C1 ++ (C2 ++ (L3.flatten ++ T)) from by simp] at hcol hpp
              have hlen := HL.out.2.2
              rw [show (C1 :: C2 :: L3).flatten.length = C1.length + C2.length + L3.flatten.length from by simp; omega, k1.1, k2.1] at hlen
              obtain ⟨m, hm⟩ : ∃ m, m = a + bs := ⟨_, rfl⟩
              have em : (a : Int) + (bs : Int) = (m : Int) := by omega
              have hcall := sym_any n g n c a m b bx N key Q.flatten C1 C2 (L3.flatten ++ T) wr (by omega) hcol (by rw [List.length_append]; omega) hn1 hlen.1.symm (by omega) (by omega) (by omega) (by omega) (HK.out.fr hfr)
                (fun x hx => HLOW.out x (hpp.1.mem_iff.1 hx)) k1.2 k2.2 (fun x hx y hy => (sta_stb (sta_stb hpp.2).2.1).2.2 x hx y (by simp [hy]))
              have HCALL := Lib.hid hcall
              have HM := Lib.hid (And.intro hm (And.intro k1 (And.intro k2 (And.intro k3 (And.intro hpp hlen)))))
              have hmn : m ≤ n := by omega
              clear hcall hm k1 k2 k3 hcol hpp hlen HCj HP
              go_wp2_with fail
              refine HCALL.out.mono ?_
              rintro e w2 ⟨rfl, C, hp2, hs2, hc2, hf2⟩
              have HC2 := Lib.hid hc2
              have HP2 := Lib.hid (And.intro hp2 hs2)
              have HF2 := Lib.hid (hfr.trans hf2 (fun _ _ h => h))
              clear hc2 hp2 hs2 hf2 hfr HCALL em
              go_wp2
              go_roundw
              case rel =>
                have hl : C.length = 2 * bs := by rw [HP2.out.1.length_eq, List.length_append, HM.out.2.1.1, HM.out.2.2.1.1]; omega
                refine ⟨b, b + 2 * bs, Q ++ [C], L3, rfl, by first | go_num | (congr 1; omega), hbn, by omega, by omega, ⟨HL.out.1.snoc hl HP2.out.2, HM.out.2.2.2.1, ?_, ?_⟩, ⟨?_, ?_⟩, ?_, HF2.out⟩
                · rw [flat_snoc, List.length_append, hl, HL.out.2.2.1]; omega
                · have := HM.out.2.2.2.2.2; omega
                · rw [flat_snoc, List.append_assoc]
                  exact perm_in (X := C1 ++ C2) (by rw [List.append_assoc]; exact HM.out.2.2.2.2.1.1) HP2.out.1
                · rw [flat_snoc, List.append_assoc]
                  exact sta_in (X := C1 ++ C2) (by rw [List.append_assoc]; exact HM.out.2.2.2.2.1.2) HP2.out.1 HP2.out.2
                · show Col _ _ _
                  rw [flat_snoc, List.append_assoc]
                  exact HC2.out
              case measure => simp [intOf]; omega
            · obtain ⟨m, hm⟩ : ∃ m, m = a + bs := ⟨_, rfl⟩
              have em : (a : Int) + (bs : Int) = (m : Int) := by omega
              by_cases hmn : m < n
              · obtain ⟨C1, hL2⟩ : ∃ C1, L2 = [C1] := by
                  have h := HL.out
                  have hT := HT.out.1
                  match L2, h with
                  | [], h => have := h.2.2.2; simp at this; omega
                  | [C1], h => exact ⟨C1, rfl⟩
                  | C1 :: C2 :: L3, h =>
                    have h1 := h.2.2.2
                    have h2 := (h.2.1 C1 (by simp)).1
                    have h3 := (h.2.1 C2 (by simp)).1
                    simp at h1
                    omega
                subst hL2
                have k1 := HL.out.2.1 C1 (by simp)
                have hcol := HCj.out
                have hpp := HP.out
                rw [show [C1].flatten ++ T = C1 ++ T from by simp] at hcol hpp
                have hlen := HL.out.2.2
                rw [show [C1].flatten.length = C1.length from by simp, k1.1] at hlen
                have hcall := sym_any n g n c a m n bx N key Q.flatten C1 T [] wr (by omega) (by rw [List.append_nil]; exact hcol) (by simp; simp at hlen; omega) hn1 hlen.1.symm (by omega) (by omega) (by omega) (by omega) (HK.out.fr hfr)
                  (fun x hx => HLOW.out x (hpp.1.mem_iff.1 (by rw [List.append_nil] at hx; exact hx))) k1.2 HT.out.2 (sta_stb (sta_stb hpp.2).2.1).2.2
                have HCALL := Lib.hid hcall
                have HM := Lib.hid (And.intro hm (And.intro k1 (And.intro hpp hlen)))
                have hm2 : m ≤ n := by omega
                clear hcall hm k1 hcol hpp hlen HCj HP
                go_wp2_with fail
                refine HCALL.out.mono ?_
                rintro e w2 ⟨rfl, C, hp2, hs2, hc2, hf2⟩
                have HC2 := Lib.hid hc2
                have HP2 := Lib.hid (And.intro hp2 hs2)
                have HF2 := Lib.hid (hfr.trans hf2 (fun _ _ h => h))
                clear hc2 hp2 hs2 hf2 hfr HCALL em
                go_wp2
                go_roundw
                case rel =>
                  have hl : C.length = bs + T.length := by rw [HP2.out.1.length_eq, List.length_append, HM.out.2.1.1]
                  have hT := HT.out.1
                  have hh := HM.out.2.2
                  refine ⟨2 * bs, Q, C, by first | go_num | (congr 1; omega), by omega, by omega, ⟨HL.out.1, by omega, by omega, HP2.out.2⟩, ⟨?_, ?_⟩, ?_, HF2.out⟩
                  · exact (List.Perm.append_left _ HP2.out.1).trans hh.1.1
                  · have h := sta_in (S := []) (by rw [List.append_nil]; exact hh.1.2) HP2.out.1 HP2.out.2
                    rwa [List.append_nil] at h
                  · have h := HC2.out
                    rw [List.append_nil] at h
                    exact h
                case measure => simp [intOf] <;> omega
              · -- nothing is left that is to be merged
                have hT' : ∃ T', L2.flatten ++ T = T' ∧ T'.length < 2 * bs ∧ Srt key T' := by
                  have h := HL.out
                  have hT := HT.out
                  match L2, h with
                  | [], h => exact ⟨T, rfl, by omega, hT.2⟩
                  | [C1], h =>
                    have h2 := h.2.1 C1 (by simp)
                    have h3 := h.2.2.2
                    simp at h3
                    have hT0 : T = [] := List.eq_nil_of_length_eq_zero (by omega)
                    exact ⟨C1, by rw [hT0]; simp, by omega, h2.2⟩
                  | C1 :: C2 :: L3, h =>
                    have h1 := h.2.2.2
                    have h2 := (h.2.1 C1 (by simp)).1
                    have h3 := (h.2.1 C2 (by simp)).1
                    simp at h1
                    omega
                obtain ⟨T', e, h1, h2⟩ := hT'
                have hpp := HP.out
                have hcol := HCj.out
                rw [e] at hpp hcol
                have hlen : Q.flatten.length + T'.length = n := by
                  rw [← e, List.length_append]
                  have := HL.out.2.2
                  omega
                have HQ := Lib.hid (And.intro HL.out.1 (And.intro h1 (And.intro hlen h2)))
                have HPP := Lib.hid hpp
                have HCC := Lib.hid hcol
                have HM := Lib.hid hm
                clear e h1 h2 hpp hcol hlen HP HCj hm
                go_wp2
                go_roundw
                case rel => exact ⟨2 * bs, Q, T', by first | go_num | (congr 1; omega), by omega, by omega, HQ, HPP, HCC, hfr⟩
                case measure => simp [intOf] <;> omega
        · have hend : Srt key (L.flatten ++ T) := by
            have h := HL.out
            cases L with
            | nil => exact h.2.2.2
            | cons C L =>
              have hC := h.1 C (List.mem_cons_self ..)
              have hlen := h.2.2.1
              rw [List.flatten_cons, List.length_append, hC.1] at hlen
              have e1 : L.flatten = [] := List.eq_nil_of_length_eq_zero (by omega)
              have e2 : T = [] := List.eq_nil_of_length_eq_zero (by omega)
              rw [List.flatten_cons, e1, e2, List.append_nil, List.append_nil]
              exact hC.2
          have HEND := Lib.hid hend
          clear hend
          go_wp2
          go_end0
          exact ⟨rfl, _, HP.out.1, HEND.out, HCj.out, hfr⟩
end Go.Proofs.YtgpkiijmembggaaGreatDoor
namespace Go.Proofs.YtgpkiijmembggaaGreatDoor
open Go.RowKit HuffM Mem Go.Lib
attribute [local go_sem ↓] Go.wp_at_zero Go.wp_at_succ

set_option maxRecDepth 1000000 in
set_option maxHeartbeats 3200000 in
theorem sortStable_any (g n c bx N : Nat) (key : Nat → Nat) (d : List Nat) (w : World) (hc : Col w g d) (hn : d.length = n) (hn1 : n ≤ 1000) (K : CmpK g bx key N w) (hlow : ∀ x ∈ d, x < N) (hst : Sta key d) :
    Calls Tryz.prog 84 #[.slice (some ⟨g, 0, none⟩) n c, .func (.func 85) #[] #[.pointer (some ⟨bx, 0, none⟩)]] w fun e w' =>
      e = .returned (.tuple #[]) ∧ ∃ C, C.Perm d ∧ Srt key C ∧ Col w' g C ∧ Fr (fun b => b = g) w w' := by
  have H := Lib.hid (stable_any g n c bx N key d w hc hn hn1 K hlow hst)
  clear hc hn K hlow hst
  go_enter Tryz.func84, Tryz.ntmps84
  go_wp2_with fail
  refine H.out.mono ?_
  rintro e w' ⟨rfl, h⟩
  have HE := Lib.hid h
  clear h
  go_wp2
  go_end0
  exact ⟨rfl, HE.out⟩

theorem col_of_own {w : World} {base q c : Nat} {A : Option Addr} {xs : List Nat} (h : w.ownsRow base 3 1 (.slice A q c) q (xs.map natc)) (hq : 0 < q) : ∃ g, A = some ⟨g, 0, none⟩ ∧ base ≤ g ∧ Col w g xs := by
  rcases h.2 with ⟨hv, rfl⟩ | ⟨g, cap, cur, hv, hb, hg, _, _, _, ht⟩
  · omega
  · injection hv with hA
    refine ⟨g, hA, hb, cur.toList.drop q, ?_⟩
    unfold Row
    rw [← ht, Nat.mul_one, List.take_append_drop]
    exact hg
theorem Col.rd {w : World} {g n : Nat} {d : List Nat} (h : Col w g d) (hn : d.length = n) : Rd w (some ⟨g, 0, none⟩) n (d.map natc) := by
  obtain ⟨r, h⟩ := h
  have := h.rd 0 n (by simp; omega)
  rw [List.drop_zero, List.take_append_of_le_length (by simp; omega), List.take_of_length_le (by simp; omega)] at this
  exact this

set_option maxRecDepth 1000000 in
set_option maxHeartbeats 3200000 in
theorem coded_any (A : Option Addr) (n c : Nat) (L : List Int) (w : World) (hr : Rd w A n (L.map intc)) (hn : n ≤ 1000) (hA : ∀ ad, A = some ad → ad.block < w.heap.size) (hR : rightB L = true) :
    Calls Tryz.prog 70 #[.slice A n c] w fun e w' => ∃ g m c', e = .returned (.slice (some ⟨g, 0, none⟩) m c') ∧ m = (codedL L).length ∧ m ≤ c' ∧ m ≤ n ∧ w.heap.size ≤ g ∧ Col w' g (codedL L) ∧ Fr (fun _ => False) w w' := by
  have hln : L.length = n := by simpa using hr.1
  have HL := Lib.hid (right_in hR)
  have HS := Lib.hid (right_some hR)
  have HLN := Lib.hid hln
  obtain ⟨w0, hw0⟩ : ∃ w0, w0 = w.alloc (.cells #[.slice A n c] 60) := ⟨_, rfl⟩
  obtain ⟨bx, hbx⟩ : ∃ bx, bx = w.heap.size := ⟨_, rfl⟩
  have hbox : w0.heap[bx]? = some (.cells #[.slice A n c] 60 (0, 0)) := by rw [hw0, hbx]; exact heap_alloc_new w _
  have hf0 : Fr (fun _ => False) w w0 := by rw [hw0]; exact (Fr.refl _ _).alloc _
  have hs0 : bx < w0.heap.size := by rw [hw0, hbx]; simp
  have hr0 := hr.fr hf0 (fun _ _ h => h)
  have HB := Lib.hid hbox
  have HR := Lib.hid hr0
  have HF0 := Lib.hid hf0
  have HA' := Lib.hid (fun (ad : Addr) (h : A = some ad) => (by have := hA ad h; omega : ad.block < bx))
  have HW := Lib.hid (And.intro hw0 hbx)
  clear hr hln hA hR hw0 hbx hbox hf0 hr0
  go_enter Tryz.func70, Tryz.ntmps70
  go_upto_region 1 with fail
  rw [← HW.out.1, ← HW.out.2]
  have hcb : w0.cell? ⟨bx, 0, none⟩ = some (.slice A n c) := by rw [cell_of HB.out]; rfl
  go_wp2_with fail
  clear hcb
  go_loopw [3, 8] (fun v i wr => ∃ (k q : Nat) (A' : Option Addr) (c' : Nat), k ≤ n ∧ i = .int .i64 (k : Int) ∧ v = .slice A' q c' ∧ q ≤ k ∧ q ≤ c' ∧ Hid (q = (syms L k).length) ∧ Hid (wr.ownsRow w0.heap.size 3 1 (.slice A' q c') q ((syms L k).map natc)) ∧ Fr (fun _ => False) w0 wr)
    (fun _ i _ => n - (intOf i).toNat)
  case atStart => exact ⟨0, 0, none, 0, by omega, rfl, rfl, by omega, by omega, rfl, World.ownsRow_nil _ _ _ _, Fr.refl _ _⟩
  case round =>
    obtain ⟨k, q, A', c', hk, rfl, rfl, hqk, hqc, HQ, HO, hfr⟩ := hrel
    by_cases hlt : k < n
    · obtain ⟨ad, u, rfl, hu, hcell⟩ := (HR.out.fr hfr (fun _ _ h => h)).at_ hlt
      obtain ⟨x, hx⟩ : ∃ x, L[k]? = some x := ⟨_, List.getElem?_eq_getElem (by have := HLN.out; omega)⟩
      obtain rfl : intc x = u := by simpa [hx] using hu
      unfold intc at hcell
      have hgd : L.getD k 0 = x := by rw [List.getD_eq_getElem?_getD, hx]; rfl
      have hsy := syms_succ L k
      rw [hgd] at hsy
      have hsz := hfr.size
      by_cases hx0 : 0 < x
      · rw [if_pos hx0] at hsy
        have HSY := Lib.hid hsy
        have HHO := HO.out.alloc (.cells #[.int .i64 (k : Int)] 3)
        have HO' := Lib.hid HHO
        clear hu hx hgd hsy HHO
        go_wp2_with (at_builtin; refine wpList_appN intT _ rfl _ _ rfl w0.heap.size _ _ _ rfl HO'.out _ _ _ _ rfl (Rd.one _ _ _) (one_one _ _) (q + 1) rfl (by unfold maxLen; omega) (by omega) (by simp; omega) ?_)
        intro A2 c2 w2 h1 h2 hown2 hf2 _
        have HO2 : Hid (w2.ownsRow w0.heap.size 3 1 (.slice A2 (q + 1) c2) (q + 1) ((syms L (k + 1)).map natc)) := by
          show w2.ownsRow _ _ _ _ _ _
          rw [HSY.out, List.map_append]
          exact hown2
        have HF2 := Lib.hid ((hfr.alloc _).trans hf2 (fun b hb h => by have := (HO'.out.lt b h).1; omega))
        clear hown2 hf2 hfr HO HO'
        go_wp2
        go_roundw
        case rel => exact ⟨k + 1, q + 1, A2, c2, by omega, by go_num, by first | rfl | (congr 1), by omega, by omega, by show _ = _; rw [HSY.out, List.length_append, ← HQ.out]; rfl, HO2, HF2.out⟩
        case measure => simp [intOf] <;> omega
      · rw [if_neg hx0] at hsy
        have HSY := Lib.hid hsy
        clear hu hx hgd hsy
        go_wp2
        go_roundw
        case rel => exact ⟨k + 1, q, A', c', by omega, by go_num, rfl, by omega, by omega, by show _ = _; rw [HSY.out]; exact HQ.out, by show World.ownsRow _ _ _ _ _ _ _; rw [HSY.out]; exact HO.out, hfr⟩
        case measure => simp [intOf] <;> omega
    · obtain rfl : k = n := by omega
      have hq : 0 < q := by rw [HQ.out, ← HLN.out]; exact HS.out
      obtain ⟨g, rfl, hg, hcol⟩ := col_of_own HO.out hq
      have hcb : wr.cell? ⟨bx, 0, none⟩ = some (.slice A k c) := by rw [cell_of (hfr.blk HB.out (fun h => h))]; rfl
      have hcall := sortStable_any g q c' bx k (kl L) (syms L k) wr hcol HQ.out.symm (by omega) (cmpK_of g bx k c A L wr hcb (HR.out.fr hfr (fun _ _ h => h)) HL.out (by omega) (fun ad h => by have := HA'.out ad h; omega)) (fun x hx => (syms_mem.1 hx).1) (syms_sta _ _ _)
      have HCALL := Lib.hid hcall
      have HG := Lib.hid hg
      clear hcall hcb hg hcol HO
      go_wp2_with fail
      refine HCALL.out.mono ?_
      rintro e w2 ⟨rfl, C, hp, hs, hc2, hf2⟩
      have e1 : C = codedL L := by
        rw [← HLN.out] at hp
        exact coded_eq HL.out hp hs
      subst e1
      have hl : (codedL L).length = q := by rw [hp.length_eq, ← HQ.out]
      have HE := Lib.hid (And.intro hl (And.intro hc2 (HF0.out.trans (hfr.trans hf2 (fun b hb e => by have := HG.out; omega)) (fun _ _ h => h))))
      clear hp hs hc2 hf2 hl HCALL
      go_wp2
      go_ret
      exact ⟨g, q, c', rfl, HE.out.1.symm, hqc, hqk, by have := HG.out; have := HF0.out.size; omega, HE.out.2.1, HE.out.2.2⟩
end Go.Proofs.YtgpkiijmembggaaGreatDoor
namespace Go.Proofs.YtgpkiijmembggaaGreatDoor
open Go.RowKit HuffM Mem Go.Lib
attribute [local go_sem ↓] Go.wp_at_zero Go.wp_at_succ

/-- how many of the first k coded symbols have codes of so many bits, for each number of bits -/
def cns (L : List Int) (k : Nat) : List Nat := (List.range 16).map fun j => ((codedL L).take k).countP fun s => decide (kl L s = j)
theorem cns_len (L : List Int) (k : Nat) : (cns L k).length = 16 := by simp [cns]
theorem cns_at (L : List Int) (k j : Nat) (hj : j < 16) : (cns L k)[j]? = some (((codedL L).take k).countP fun s => decide (kl L s = j)) := by
  unfold cns
  rw [List.getElem?_map, List.getElem?_range hj]
  rfl
theorem cns_succ {L : List Int} {k s : Nat} (h : (codedL L)[k]? = some s) (hs : kl L s < 16) : cns L (k + 1) = (cns L k).set (kl L s) ((cns L k).getD (kl L s) 0 + 1) := by
  apply List.ext_getElem?
  intro i
  by_cases hi : i < 16
  · rw [cns_at L _ i hi, List.getElem?_set, take_snoc h, List.countP_append]
    by_cases e : kl L s = i
    · subst e
      rw [if_pos rfl, if_pos (by rw [cns_len]; exact hs), List.getD_eq_getElem?_getD, cns_at L k _ hs]
      simp
    · rw [if_neg e, cns_at L k i hi]
      simp [e]
  · rw [List.getElem?_eq_none (by rw [cns_len]; omega), List.getElem?_eq_none (by rw [List.length_set, cns_len]; omega)]
/-- a coder of lengths lies here, in blocks of G -/
def CB (w : World) (G : Nat → Prop) (pa : Addr) (L : List Int) : Prop := ∃ p gs m cs, pa = ⟨p, 0, none⟩ ∧ G p ∧ G gs ∧ m = (codedL L).length ∧ m ≤ cs ∧ m ≤ 1000 ∧
  Row w p 173 (.slice (some ⟨gs, 0, none⟩) m cs :: (cns L m).map natc) ∧ Col w gs (codedL L)
theorem CB.fr {S G : Nat → Prop} {w w' : World} {pa : Addr} {L : List Int} (h : CB w G pa L) (hf : Fr S w w') (hS : ∀ k, G k → ¬ S k) : CB w' G pa L := by
  obtain ⟨p, gs, m, cs, e, h1, h2, h3, h4, h5, h6, h7⟩ := h
  exact ⟨p, gs, m, cs, e, h1, h2, h3, h4, h5, h6.fr hf (hS p h1), h7.fr hf (hS gs h2)⟩
theorem CB.mono {G G' : Nat → Prop} {w : World} {pa : Addr} {L : List Int} (h : CB w G pa L) (hG : ∀ k, G k → G' k) : CB w G' pa L := by
  obtain ⟨p, gs, m, cs, e, h1, h2, h3, h4, h5, h6, h7⟩ := h
  exact ⟨p, gs, m, cs, e, hG p h1, hG gs h2, h3, h4, h5, h6, h7⟩
/-- a coder of lengths lies here, below hi -/
def CA (w : World) (hi : Nat) (pa : Addr) (L : List Int) : Prop := CB w (fun k => k < hi) pa L

set_option maxRecDepth 1000000 in
set_option maxHeartbeats 3200000 in
theorem pNewG_yes (A : Option Addr) (n c : Nat) (L : List Int) (w : World) (hr : Rd w A n (L.map intc)) (hn : n ≤ 1000) (hA : ∀ ad, A = some ad → ad.block < w.heap.size) (hR : rightB L = true) :
    Calls Tryz.prog 92 #[.slice A n c] w fun e w' => ∃ pa : Addr, e = .returned (.tuple #[.pointer (some pa), .bool true]) ∧ CB w' (fun k => w.heap.size ≤ k ∧ k < w'.heap.size) pa L ∧ Fr (fun _ => False) w w' := by
  have hln : L.length = n := by simpa using hr.1
  have HLN := Lib.hid hln
  have HR := Lib.hid hr
  have HRT := Lib.hid hR
  have HA := Lib.hid hA
  clear hr hln hA hR
  go_enter Tryz.func92, Tryz.ntmps92
  go_wp2_with fail
  refine (pRight_any A n c L w HR.out hn).mono ?_
  rintro e w1 ⟨rfl, rfl⟩
  rw [HRT.out]
  go_wp2_with fail
  refine (coded_any A n c L w HR.out hn HA.out HRT.out).mono ?_
  rintro e w1 ⟨gs, m, cs1, rfl, hm, hmc, hmn, hgs, hcol, hf1⟩
  have HM := Lib.hid hm
  have HCOL := Lib.hid hcol
  have HF1 := Lib.hid hf1
  have HGS := Lib.hid hgs
  clear hm hgs hcol hf1
  go_upto_region 4 with fail
  obtain ⟨p, hp⟩ : ∃ p, p = w1.heap.size := ⟨_, rfl⟩
  obtain ⟨w2, hw2⟩ : ∃ w2, w2 = w1.alloc (.cells #[.slice (some ⟨gs, 0, none⟩) m cs1, .int .i64 0, .int .i64 0, .int .i64 0, .int .i64 0, .int .i64 0, .int .i64 0, .int .i64 0, .int .i64 0, .int .i64 0, .int .i64 0, .int .i64 0, .int .i64 0, .int .i64 0, .int .i64 0, .int .i64 0, .int .i64 0] 173) := ⟨_, rfl⟩
  have hrow : Row w2 p 173 (.slice (some ⟨gs, 0, none⟩) m cs1 :: (cns L 0).map natc) := by
    rw [hw2, hp]
    exact Row.new w1 _ _
  have hf2 : Fr (fun _ => False) w1 w2 := by rw [hw2]; exact (Fr.refl _ _).alloc _
  have hs2 : p < w2.heap.size := hrow.lt
  rw [← hw2, ← hp]
  have hgp : gs < p := by rw [hp]; exact HCOL.out.lt
  have HROW := Lib.hid hrow
  have HCOL2 := Lib.hid (HCOL.out.fr hf2 (fun h => h))
  have HR2 := Lib.hid ((HR.out.fr HF1.out (fun _ _ h => h)).fr hf2 (fun _ _ h => h))
  have HF2 := Lib.hid (HF1.out.trans hf2 (fun _ _ h => h))
  have HWP := Lib.hid (show w.heap.size ≤ p by have := HF1.out.size; omega)
  have HAP := Lib.hid (fun (ad : Addr) (h : A = some ad) => (by have := HA.out ad h; have := HWP.out; omega : ad.block ≠ p))
  have hc0 := hrow.cell (i := 0) rfl
  clear hp hw2 hrow hf2 HCOL HF1 HR
  go_wp2_with fail
  clear hc0
  go_loopw [19] (fun i wr => ∃ k : Nat, k ≤ m ∧ i = .int .i64 (k : Int) ∧ Hid (Row wr p 173 (.slice (some ⟨gs, 0, none⟩) m cs1 :: (cns L k).map natc)) ∧ Fr (fun b => b = p) w2 wr)
    (fun i _ => m - (intOf i).toNat)
  case atStart => exact ⟨0, by omega, rfl, HROW, Fr.refl _ _⟩
  case round =>
    obtain ⟨k, hk, rfl, HRW, hfr⟩ := hrel
    by_cases hlt : k < m
    · obtain ⟨s, hs⟩ : ∃ s, (codedL L)[k]? = some s := ⟨_, List.getElem?_eq_getElem (by rw [← HM.out]; exact hlt)⟩
      have hcs := (HCOL2.out.fr hfr (by omega)).cell hs
      have hmem := cod_mem.1 (List.mem_of_getElem? (show (cod L 15)[k]? = some s from hs))
      have hsn : s < n := by rw [← HLN.out]; exact hmem.1
      obtain ⟨ad, u, rfl, hu, hcell⟩ := (HR2.out.fr hfr (fun ad h => HAP.out ad h)).at_ hsn
      have hx : L[s]? = some L[s] := List.getElem?_eq_getElem hmem.1
      have hgd : L.getD s 0 = L[s] := by rw [List.getD_eq_getElem?_getD, hx]; rfl
      obtain ⟨j, hj⟩ : ∃ j, j = kl L s := ⟨_, rfl⟩
      have hju : u = .int .i64 (j : Int) := by
        rw [List.getElem?_map, hx] at hu
        have h2 : intc L[s] = u := by simpa using hu
        rw [← h2, hj]
        unfold kl intc
        rw [hgd, Int.toNat_of_nonneg (by rw [← hgd]; omega)]
      subst hju
      have hj16 : j < 16 := by rw [hj]; unfold kl; omega
      have hsucc := cns_succ hs (by rw [← hj]; exact hj16)
      rw [← hj] at hsucc
      obtain ⟨x, hxc⟩ : ∃ x, x = (cns L k).getD j 0 := ⟨_, rfl⟩
      have hxe : (cns L k)[j]? = some x := by rw [hxc, List.getD_eq_getElem?_getD, cns_at L k j hj16]; rfl
      have hxk : x ≤ k := by
        rw [cns_at L k j hj16] at hxe
        injection hxe with hxe
        rw [← hxe]
        refine Nat.le_trans List.countP_le_length ?_
        rw [List.length_take]
        omega
      rw [← hxc] at hsucc
      have hcx := HRW.out.cell (i := 1 + j) (u := .int .i64 (x : Int)) (by rw [Nat.add_comm, List.getElem?_cons_succ, List.getElem?_map, hxe]; rfl)
      have hfx := HRW.out.free (1 + j)
      have hset := HRW.out.set (1 + j) (.int .i64 ((x : Int) + 1))
      rw [show (Value.slice (some ⟨gs, 0, none⟩) m cs1 :: (cns L k).map natc).set (1 + j) (.int .i64 ((x : Int) + 1)) = .slice (some ⟨gs, 0, none⟩) m cs1 :: (cns L (k + 1)).map natc from by
        rw [Nat.add_comm, List.set_cons_succ, hsucc, List.map_set]; rfl] at hset
      have HSET := Lib.hid hset
      have ex : IntKind.i64.wrap ((x : Int) + 1) = (x : Int) + 1 := by rw [IntKind.wrap_i64]; omega
      clear hs hmem hu hx hgd hj hsucc hxc hxe hset
      go_wp2_with fail
      go_big_region
      have HF3 := Lib.hid (((hfr.setCell (p := ⟨p, 1 + j, none⟩) (fun _ => rfl) (.int .i64 ((x : Int) + 1))).drew))
      have HSET3 : Hid (Row (wr.setCell ⟨p, 1 + j, none⟩ (.int .i64 ((x : Int) + 1))).drew p 173 (.slice (some ⟨gs, 0, none⟩) m cs1 :: (cns L (k + 1)).map natc)) := HSET
      clear HSET
      generalize (wr.setCell ⟨p, 1 + j, none⟩ (Value.int .i64 ((x : Int) + 1))).drew = w3 at HF3 HSET3 ⊢
      clear hcx hfx hcell hcs ex
      go_wp2
      go_roundw
      case rel => exact ⟨k + 1, by omega, by go_num, HSET3, HF3.out⟩
      case measure => simp [intOf] <;> omega
    · obtain rfl : k = m := by omega
      have hca : CB wr (fun k => w.heap.size ≤ k ∧ k < wr.heap.size) ⟨p, 0, none⟩ L := ⟨p, gs, k, cs1, rfl, ⟨HWP.out, HRW.out.lt⟩, ⟨HGS.out, (HCOL2.out.fr hfr (by omega)).lt⟩, HM.out, hmc, by omega, HRW.out, HCOL2.out.fr hfr (by omega)⟩
      have HCA := Lib.hid hca
      have HFE := Lib.hid (HF2.out.trans hfr (fun b hb e => by have := HWP.out; omega))
      clear hca hfr HRW
      go_wp2
      exact bodyPost_ret (v := .tuple #[.pointer (some ⟨p, 0, none⟩), .bool true]) (by simp [results, Tryz.results92, go_sem]) rfl ⟨⟨p, 0, none⟩, rfl, HCA.out, HFE.out⟩

theorem pNew_yes (A : Option Addr) (n c : Nat) (L : List Int) (w : World) (hr : Rd w A n (L.map intc)) (hn : n ≤ 1000) (hA : ∀ ad, A = some ad → ad.block < w.heap.size) (hR : rightB L = true) :
    Calls Tryz.prog 92 #[.slice A n c] w fun e w' => ∃ pa : Addr, e = .returned (.tuple #[.pointer (some pa), .bool true]) ∧ CA w' w'.heap.size pa L ∧ Fr (fun _ => False) w w' :=
  (pNewG_yes A n c L w hr hn hA hR).mono fun _ _ ⟨pa, he, h, hf⟩ => ⟨pa, he, h.mono fun _ hk => hk.2, hf⟩

set_option maxRecDepth 1000000 in
set_option maxHeartbeats 3200000 in
theorem pNew_no (A : Option Addr) (n c : Nat) (L : List Int) (w : World) (hr : Rd w A n (L.map intc)) (hn : n ≤ 1000) (hR : rightB L = false) :
    Calls Tryz.prog 92 #[.slice A n c] w fun e w' => e = .returned (.tuple #[.pointer none, .bool false]) ∧ Fr (fun _ => False) w w' := by
  have HR := Lib.hid hr
  have HRT := Lib.hid hR
  clear hr hR
  go_enter Tryz.func92, Tryz.ntmps92
  go_wp2_with fail
  refine (pRight_any A n c L w HR.out hn).mono ?_
  rintro e w1 ⟨rfl, rfl⟩
  rw [HRT.out]
  go_wp2
  exact bodyPost_ret (v := .tuple #[.pointer none, .bool false]) (by simp [results, Tryz.results92, go_sem]) rfl ⟨rfl, Fr.refl _ _⟩
end Go.Proofs.YtgpkiijmembggaaGreatDoor
namespace Go.Proofs.YtgpkiijmembggaaGreatDoor
open Go.RowKit HuffM BitsM Mem Go.Lib

theorem bb_cells (bs : List Bool) : (bb bs).map bytec = bs.map bitc := by
  unfold bb
  rw [List.map_map]
  apply List.map_congr_left
  intro b _
  cases b <;> rfl
theorem next_cases {L : List Int} {B : List UInt8} (hL : ∀ x ∈ L, inR x = true) : nextS L B = (-1, 0) ∨ ∃ s k : Nat, nextS L B = ((s : Int), (k : Int)) ∧ s < L.length ∧ k ≤ B.length ∧ k ≤ 15 := by
  unfold nextS
  cases h : firstHit L B L.length with
  | none => exact .inl rfl
  | some s =>
    right
    unfold firstHit at h
    have hh := List.find?_some h
    have hm := List.mem_of_find?_eq_some h
    have hs : s < L.length := List.mem_range.1 hm
    have hx := hL _ (List.getElem_mem hs)
    have hgd : L.getD s 0 = L[s] := by rw [List.getD_eq_getElem?_getD, List.getElem?_eq_getElem hs]; rfl
    have hr : 0 ≤ L[s] ∧ L[s] ≤ 15 := by simpa [inR] using hx
    unfold hits at hh
    simp only [hgd, Bool.and_eq_true, decide_eq_true_eq] at hh
    refine ⟨s, L[s].toNat, ?_, hs, by omega, by omega⟩
    simp only [hgd]
    rw [Int.toNat_of_nonneg hr.1]
def NextOk (L : List Int) (bs : List Bool) (s : Int) (is : Bool) (p p' : Nat) : Prop :=
  (is = true ∧ (nextS L (bb bs)).1 = s ∧ 0 ≤ s ∧ (p' : Int) = p + (nextS L (bb bs)).2) ∨ (is = false ∧ s = 0 ∧ nextS L (bb bs) = (-1, 0))
end Go.Proofs.YtgpkiijmembggaaGreatDoor
