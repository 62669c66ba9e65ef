/-
  The library's symMerge at numbers: two sorted pieces that lie side by side become one (written by gen_sym2.py).
-/
import Derived.Test.YtahfmcdhcbfkaaaGreatDoorZm24
import Derived.Test.YtahfmcdhcbfkaaaGreatDoorHxF
import Derived.Test.YtahfmcdhcbfkaaaGreatDoorHxG
import Derived.Deep.DeepCutAuto
namespace Go.Proofs.YtahfmcdhcbfkaaaGreatDoor
open Go.RowKit HuffM Mem Go.Lib
attribute [local go_sem ↓] Go.wp_at_zero Go.wp_at_succ
set_option linter.unusedVariables false

set_option maxRecDepth 1000000 in
set_option maxHeartbeats 6400000 in
theorem sym_any (F : Nat) : ∀ (g n c a m b bx N : Nat) (key : Nat → Nat) (P A B S : List Nat) (w : World), A.length + B.length ≤ F → Col w g (P ++ (A ++ (B ++ S))) → n = P.length + A.length + B.length + S.length → n ≤ 1000 →
    a = P.length → m = P.length + A.length → b = P.length + A.length + B.length → 1 ≤ A.length → 1 ≤ B.length → CmpK g bx key N w → (∀ x ∈ P ++ (A ++ (B ++ S)), x < N) → Srt key A → Srt key B → Stb key A B →
    Calls Tryz.prog 96 #[.slice (some ⟨g, 0, none⟩) n c, .int .i64 (a : Int), .int .i64 (m : Int), .int .i64 (b : Int), .func (.func 87) #[] #[.pointer (some ⟨bx, 0, none⟩)]] w fun e w' =>
      e = .returned (.tuple #[]) ∧ ∃ C, C.Perm (A ++ B) ∧ Srt key C ∧ Col w' g (P ++ (C ++ S)) ∧ Fr (fun b => b = g) w w' := by
  induction F with
  | zero => intro g n c a m b bx N key P A B S w hF hc hn hn1 ha hm hb h1; omega
  | succ F ih =>
  intro g n c a m b bx N key P A B S w hF hc hn hn1 ha hm hb h1 h2 K hlow hA hB hst
  obtain ⟨la, hla⟩ : ∃ la, la = A.length := ⟨_, rfl⟩
  obtain ⟨lb, hlb⟩ : ∃ lb, lb = B.length := ⟨_, rfl⟩
  obtain ⟨D, hD⟩ : ∃ D, D = P ++ (A ++ (B ++ S)) := ⟨_, rfl⟩
  have hDl : D.length = n := by rw [hD]; simp; omega
  rw [← hD] at hlow hc
  have e1 : (m : Int) - (a : Int) = (la : Int) := by omega
  have e2 : (b : Int) - (m : Int) = (lb : Int) := by omega
  have q1 : m ≤ a + la := by omega
  have q1' : a + la ≤ m := by omega
  have q2 : b ≤ m + lb := by omega
  have q2' : m + lb ≤ b := by omega
  have q3 : b ≤ n := by omega
  have q4 : 1 ≤ la := by omega
  have q5 : 1 ≤ lb := by omega
  have HC := Lib.hid hc
  have HL := Lib.hid (And.intro ha (And.intro hla (And.intro hlb (And.intro hD (And.intro hDl hn)))))
  have HK := Lib.hid K
  have HLOW := Lib.hid hlow
  have HA := Lib.hid hA
  have HB := Lib.hid hB
  have HST := Lib.hid hst
  have HF := Lib.hid hF
  have kda : ∀ i k, i = a + k → k < la → kd key D i = key (A.getD k 0) := by
    intro i k hi hk
    unfold kd
    rw [hD, getD_seg P _ i k (by omega), getD_fst _ _ _ (by omega)]
  have kdb : ∀ i k, i = m + k → k < lb → kd key D i = key (B.getD k 0) := by
    intro i k hi hk
    unfold kd
    have := getD_seg (P ++ A) (B ++ S) i k (by rw [List.length_append]; omega)
    rw [List.append_assoc, ← hD] at this
    rw [this, getD_fst _ _ _ (by omega)]
  have KDA := Lib.hid kda
  have KDB := Lib.hid kdb
  have IH := Lib.hid ih
  clear ih hc hn ha hm hb h1 h2 K hlow hA hB hst hla hlb hD hDl hF kda kdb
  by_cases c1 : la = 1
  · -- one symbol ahead
    have t1 : ((la : Int) == 1) = true := by simp; omega
    obtain ⟨x, hx⟩ : ∃ x, A = [x] := by
      match A, HL.out.2.1 with
      | [x], _ => exact ⟨x, rfl⟩
      | [], h => simp at h; omega
      | _ :: _ :: _, h => simp at h; omega
    have HX := Lib.hid hx
    clear hx
    have HEND : Hid (∀ (I : Nat) (w2 : World), m ≤ I → I ≤ b → ((I = m ∨ kd key D (I - 1) < kd key D a) ∧ (I = b ∨ ¬ kd key D I < kd key D a)) → Col w2 g (P ++ (B.take (I - m) ++ (x :: (B.drop (I - m) ++ S)))) → Fr (fun b => b = g) w w2 →
        ∃ C, C.Perm (A ++ B) ∧ Srt key C ∧ Col w2 g (P ++ (C ++ S)) ∧ Fr (fun b => b = g) w w2) := by
      intro I w2 hI1 hI2 HI hc2 hf2
      have kx : kd key D a = key x := by rw [KDA.out a 0 rfl (by omega), HX.out]; rfl
      refine ⟨B.take (I - m) ++ x :: B.drop (I - m), ?_, ?_, ?_, hf2⟩
      · rw [HX.out]
        have h1 : (B.take (I - m) ++ x :: B.drop (I - m)).Perm (x :: (B.take (I - m) ++ B.drop (I - m))) := List.perm_middle
        rw [List.take_append_drop] at h1
        exact h1
      · have hst := HST.out
        rw [HX.out] at hst
        refine merge1 HB.out hst (by have := HL.out; omega) ?_ ?_
        · by_cases h : I = m
          · left; omega
          · right
            have h1 := HI.1.resolve_left h
            rw [kx, KDB.out (I - 1) (I - m - 1) (by omega) (by omega)] at h1
            exact h1
        · by_cases h : I = b
          · left; have := HL.out; omega
          · right
            have h1 := HI.2.resolve_left h
            rw [kx, KDB.out I (I - m) (by omega) (by omega)] at h1
            exact h1
      · simpa using hc2
    go_enter Tryz.func96, Tryz.ntmps96
    go_wp2_with fail
    refine bs1_loop _ _ _ _ _ _ _ _ _ _ _ _ _ _ _ _ _ _ _ _ _ _ _ _ _ _ _ _ _ _ _ _ _ _ _ _ _ _ _ _ _ _ _ _ _ _ _ _ _ _ _ _ _ _ _ _ _ _ _ _ _ _ _ _ _ _ _ _ _ _ _ _ _ _ _ _ _ _ _ _ _ _ _ _ _ _ _ _ _ _ _ _ _ _ _ _ _ _ _ _ _ _ _ _ _ _ _ _ _ _ _ _ _ _ _ _ _ _ _ _ _ _ _ _ _ _ _ _ _ _ _ _ _ _ _ _ _ _ _ _ _ _ _ _ _ _ _ _ _ _ _ _ _ _ _ _ _ _ _ _ _ _ _ _ _ _ _ _ _ _ _ _ _ _ _ _ _ _ _ _ _ _ _ _ _ _ _ _ _ _ _ _ _ _ _ _ _ _ _ _ _ _ _ _ _ _ _ _ _ _ _ _ _ _ _ _ g n c bx N m b a key D _ HC HK (Lib.hid HL.out.2.2.2.2.1) hn1 HLOW.out (by omega) (by omega) q3 ?_
    intro I w1 r11 r12 r31 r32 r33 r34 r35 r36 r37 r38 r39 r40 r41 r42 r43 r44 r45 r46 r47 r48 r49 r50 r51 r52 r53 hI1 hI2 HI HC1 HF1
    have HC1' : Hid (Col w1 g (P ++ (x :: (B.take (I - m) ++ (B.drop (I - m) ++ S))))) := by
      have h := HC1.out
      rw [HL.out.2.2.2.1, HX.out] at h
      show Col _ _ _
      rw [← List.append_assoc (B.take _), List.take_append_drop]
      exact h
    have HLS : Hid (n = P.length + 1 + (B.take (I - m)).length + (B.drop (I - m) ++ S).length ∧ a = P.length ∧ I = P.length + 1 + (B.take (I - m)).length) := by
      have h := HL.out
      rw [HX.out] at h
      show _ ∧ _ ∧ _
      rw [List.length_append, List.length_take, List.length_drop]
      simp at h
      omega
    clear HC HC1
    go_wp2_with fail
    refine sw1_loop _ _ _ _ _ _ _ _ _ _ _ _ _ _ _ _ _ _ _ _ _ _ _ _ _ _ _ _ _ _ _ _ _ _ _ _ _ _ _ _ _ _ _ _ _ _ _ _ _ _ _ _ _ _ _ _ _ _ _ _ _ _ _ _ _ _ _ _ _ _ _ _ _ _ _ _ _ _ _ _ _ _ _ _ _ _ _ _ _ _ _ _ _ _ _ _ _ _ _ _ _ _ _ _ _ _ _ _ _ _ _ _ _ _ _ _ _ _ _ _ _ _ _ _ _ _ _ _ _ _ _ _ _ _ _ _ _ _ _ _ _ _ _ _ _ _ _ _ _ _ _ _ _ _ _ _ _ _ _ _ _ _ _ _ _ _ _ _ _ _ _ _ _ _ _ _ _ _ _ _ _ _ _ _ _ _ _ _ _ _ _ _ _ _ _ _ _ _ _ _ _ _ _ _ _ _ _ _ _ _ _ _ _ _ _ _ _ _ g n c I a x P (B.take (I - m)) (B.drop (I - m) ++ S) _ HC1' HLS hn1 (by omega) (by omega) ?_
    intro w2 q13 q55 q56 q57 q58 q59 q60 q61 q62 q63 q64 q65 q66 q67 q68 q69 q70 q71 q72 q73 q74 q75 q76 HC2 HF2
    have HF3 := Lib.hid (HF1.out.trans HF2.out (fun _ _ h => h))
    clear HC1' HF1 HF2
    go_wp2
    exact bodyPost_ret (results_none rfl _ _ _) rfl ⟨rfl, HEND.out I w2 hI1 hI2 HI.out HC2.out HF3.out⟩
  have t1 : ((la : Int) == 1) = false := by simp; omega
  by_cases c2 : lb = 1
  · -- one symbol behind
    have t2 : ((lb : Int) == 1) = true := by simp; omega
    obtain ⟨y, hy⟩ : ∃ y, B = [y] := by
      match B, HL.out.2.2.1 with
      | [y], _ => exact ⟨y, rfl⟩
      | [], h => simp at h; omega
      | _ :: _ :: _, h => simp at h; omega
    have HY := Lib.hid hy
    clear hy
    have HEND : Hid (∀ (I : Nat) (w2 : World), a ≤ I → I ≤ m → ((I = a ∨ ¬ kd key D m < kd key D (I - 1)) ∧ (I = m ∨ ¬ ¬ kd key D m < kd key D I)) → Col w2 g ((P ++ A.take (I - a)) ++ (y :: (A.drop (I - a) ++ S))) → Fr (fun b => b = g) w w2 →
        ∃ C, C.Perm (A ++ B) ∧ Srt key C ∧ Col w2 g (P ++ (C ++ S)) ∧ Fr (fun b => b = g) w w2) := by
      intro I w2 hI1 hI2 HI hc2 hf2
      have ky : kd key D m = key y := by rw [KDB.out m 0 rfl (by omega), HY.out]; rfl
      refine ⟨A.take (I - a) ++ y :: A.drop (I - a), ?_, ?_, ?_, hf2⟩
      · rw [HY.out]
        have h1 : (A.take (I - a) ++ y :: A.drop (I - a)).Perm (y :: (A.take (I - a) ++ A.drop (I - a))) := List.perm_middle
        rw [List.take_append_drop] at h1
        exact h1.trans (List.perm_append_comm (l₁ := [y]))
      · have hst := HST.out
        rw [HY.out] at hst
        refine merge2 HA.out hst (by have := HL.out; omega) ?_ ?_
        · by_cases h : I = a
          · left; omega
          · right
            have h1 := HI.1.resolve_left h
            rw [ky, KDA.out (I - 1) (I - a - 1) (by omega) (by omega)] at h1
            exact h1
        · by_cases h : I = m
          · left; have := HL.out; omega
          · right
            have h1 := HI.2.resolve_left h
            rw [ky, KDA.out I (I - a) (by omega) (by omega)] at h1
            exact Classical.not_not.1 h1
      · simpa using hc2
    go_enter Tryz.func96, Tryz.ntmps96
    go_wp2_with fail
    refine bs2_loop _ _ _ _ _ _ _ _ _ _ _ _ _ _ _ _ _ _ _ _ _ _ _ _ _ _ _ _ _ _ _ _ _ _ _ _ _ _ _ _ _ _ _ _ _ _ _ _ _ _ _ _ _ _ _ _ _ _ _ _ _ _ _ _ _ _ _ _ _ _ _ _ _ _ _ _ _ _ _ _ _ _ _ _ _ _ _ _ _ _ _ _ _ _ _ _ _ _ _ _ _ _ _ _ _ _ _ _ _ _ _ _ _ _ _ _ _ _ _ _ _ _ _ _ _ _ _ _ _ _ _ _ _ _ _ _ _ _ _ _ _ _ _ _ _ _ _ _ _ _ _ _ _ _ _ _ _ _ _ _ _ _ _ _ _ _ _ _ _ _ _ _ _ _ _ _ _ _ _ _ _ _ _ _ _ _ _ _ _ _ _ _ _ _ _ _ _ _ _ _ _ _ _ _ _ _ _ _ _ _ _ _ _ _ _ _ g n c bx N a m m key D _ HC HK (Lib.hid HL.out.2.2.2.2.1) hn1 HLOW.out (by omega) (by omega) (by omega) ?_
    intro I w1 r15 r16 r83 r84 r85 r86 r87 r88 r89 r90 r91 r92 r93 r94 r95 r96 r97 r98 r99 r100 r101 r102 r103 r104 r105 r106 hI1 hI2 HI HC1 HF1
    have HC1' : Hid (Col w1 g ((P ++ A.take (I - a)) ++ (A.drop (I - a) ++ (y :: S)))) := by
      have h := HC1.out
      rw [HL.out.2.2.2.1, HY.out] at h
      show Col _ _ _
      rw [List.append_assoc, ← List.append_assoc (A.take _), List.take_append_drop]
      simpa using h
    have HLS : Hid (n = (P ++ A.take (I - a)).length + 1 + (A.drop (I - a)).length + S.length ∧ m = (P ++ A.take (I - a)).length + (A.drop (I - a)).length ∧ I = (P ++ A.take (I - a)).length) := by
      have h := HL.out
      rw [HY.out] at h
      show _ ∧ _ ∧ _
      rw [List.length_append, List.length_take, List.length_drop]
      simp at h
      omega
    clear HC HC1
    go_wp2_with fail
    refine sw2_loop _ _ _ _ _ _ _ _ _ _ _ _ _ _ _ _ _ _ _ _ _ _ _ _ _ _ _ _ _ _ _ _ _ _ _ _ _ _ _ _ _ _ _ _ _ _ _ _ _ _ _ _ _ _ _ _ _ _ _ _ _ _ _ _ _ _ _ _ _ _ _ _ _ _ _ _ _ _ _ _ _ _ _ _ _ _ _ _ _ _ _ _ _ _ _ _ _ _ _ _ _ _ _ _ _ _ _ _ _ _ _ _ _ _ _ _ _ _ _ _ _ _ _ _ _ _ _ _ _ _ _ _ _ _ _ _ _ _ _ _ _ _ _ _ _ _ _ _ _ _ _ _ _ _ _ _ _ _ _ _ _ _ _ _ _ _ _ _ _ _ _ _ _ _ _ _ _ _ _ _ _ _ _ _ _ _ _ _ _ _ _ _ _ _ _ _ _ _ _ _ _ _ _ _ _ _ _ _ _ _ _ _ _ _ _ _ _ _ g n c I m y (P ++ A.take (I - a)) (A.drop (I - a)) S _ HC1' HLS hn1 (by omega) (by omega) ?_
    intro w2 q17 q108 q109 q110 q111 q112 q113 q114 q115 q116 q117 q118 q119 q120 q121 q122 q123 q124 q125 q126 q127 q128 HC2 HF2
    have HF3 := Lib.hid (HF1.out.trans HF2.out (fun _ _ h => h))
    clear HC1' HF1 HF2
    go_wp2
    exact bodyPost_ret (results_none rfl _ _ _) rfl ⟨rfl, HEND.out I w2 hI1 hI2 HI.out HC2.out HF3.out⟩
  have t2 : ((lb : Int) == 1) = false := by simp; omega
  obtain ⟨mid, hmid⟩ : ∃ mid, mid = (a + b) / 2 := ⟨_, rfl⟩
  obtain ⟨nn, hnn⟩ : ∃ nn, nn = mid + m := ⟨_, rfl⟩
  obtain ⟨p, hp⟩ : ∃ p, p = nn - 1 := ⟨_, rfl⟩
  obtain ⟨lo, hi, hlh⟩ : ∃ lo hi, (mid < m ∧ lo = nn - b ∧ hi = mid) ∨ (m ≤ mid ∧ lo = a ∧ hi = m) := by
    rcases Nat.lt_or_ge mid m with h | h
    · exact ⟨_, _, .inl ⟨h, rfl, rfl⟩⟩
    · exact ⟨_, _, .inr ⟨h, rfl, rfl⟩⟩
  have em : ((a : Int) + (b : Int)) / 2 = (mid : Int) := by omega
  have en1 : (mid : Int) + (m : Int) = (nn : Int) := by omega
  have ep : (nn : Int) - 1 = (p : Int) := by omega
  have HE := Lib.hid (And.intro em (And.intro en1 ep))
  have HLH := Lib.hid (And.intro hlh (And.intro hp (And.intro hnn hmid)))
  have hlohi : lo ≤ hi := by omega
  have hpn : p - lo < n := by omega
  have hp2 : p ≤ 2000 := by omega
  have hhi : hi ≤ p + 1 := by omega
  have hhn : hi ≤ n := by omega
  have hmn : mid ≤ n := by omega
  -- what the cut gives
  have CUT : Hid (∀ s, lo ≤ s → s ≤ hi → a ≤ s ∧ s ≤ m ∧ s ≤ mid ∧ m ≤ nn - s ∧ nn - s ≤ b ∧ s ≤ nn) := by
    intro s h1 h2
    have := HLH.out
    omega
  have M3 : Hid (∀ s, lo ≤ s → s ≤ hi → ((s = lo ∨ ¬ kd key D (p - (s - 1)) < kd key D (s - 1)) ∧ (s = hi ∨ ¬ ¬ kd key D (p - s) < kd key D s)) → ∀ x ∈ A.take (s - a) ++ B.take (mid - s), ∀ y ∈ A.drop (s - a) ++ B.drop (mid - s), lx key x y) := by
    intro s h1 h2 HI
    have h3 := CUT.out s h1 h2
    have h4 := HLH.out
    have h5 := HL.out
    refine merge3 HA.out HB.out HST.out (by omega) (by omega) ?_ ?_
    · by_cases hk : s - a = 0
      · exact .inl hk
      · by_cases hl : mid - s = B.length
        · exact .inr (.inl hl)
        · by_cases hs : s = lo
          · omega
          · have h := HI.1.resolve_left hs
            rw [KDB.out (p - (s - 1)) (mid - s) (by omega) (by omega), KDA.out (s - 1) (s - a - 1) (by omega) (by omega)] at h
            exact .inr (.inr h)
    · by_cases hk : s - a = A.length
      · exact .inl hk
      · by_cases hl : mid - s = 0
        · exact .inr (.inl hl)
        · by_cases hs : s = hi
          · omega
          · have h := Classical.not_not.1 (HI.2.resolve_left hs)
            rw [KDB.out (p - s) (mid - s - 1) (by omega) (by omega), KDA.out s (s - a) (by omega) (by omega)] at h
            exact .inr (.inr h)
  clear hlh hp hnn hmid em en1 ep
  go_enter Tryz.func96, Tryz.ntmps96
  have em := HE.out.1
  have en1 := HE.out.2.1
  have ep := HE.out.2.2
  go_upto_if 140 with fail
  go_cut [20, 21] (fun u v wx => u = .int .i64 (lo : Int) ∧ v = .int .i64 (hi : Int) ∧ w = wx)
  case first =>
    rcases HLH.out.1 with ⟨h1, h2, h3⟩ | ⟨h1, h2, h3⟩
    · have e3 : (nn : Int) - (b : Int) = (lo : Int) := by have := HLH.out; omega
      subst h3
      clear h2
      go_wp2
      go_meet
      exact ⟨rfl, rfl, rfl⟩
    · have t3 : ¬ mid < m := by omega
      subst h2 h3
      go_wp2
      go_meet
      exact ⟨rfl, rfl, rfl⟩
  case rest =>
  obtain ⟨rfl, rfl, rfl⟩ := hcut
  go_wp2_with fail
  refine bs3_loop _ _ _ _ _ _ _ _ _ _ _ _ _ _ _ _ _ _ _ _ _ _ _ _ _ _ _ _ _ _ _ _ _ _ _ _ _ _ _ _ _ _ _ _ _ _ _ _ _ _ _ _ _ _ _ _ _ _ _ _ _ _ _ _ _ _ _ _ _ _ _ _ _ _ _ _ _ _ _ _ _ _ _ _ _ _ _ _ _ _ _ _ _ _ _ _ _ _ _ _ _ _ _ _ _ _ _ _ _ _ _ _ _ _ _ _ _ _ _ _ _ _ _ _ _ _ _ _ _ _ _ _ _ _ _ _ _ _ _ _ _ _ _ _ _ _ _ _ _ _ _ _ _ _ _ _ _ _ _ _ _ _ _ _ _ _ _ _ _ _ _ _ _ _ _ _ _ _ _ _ _ _ _ _ _ _ _ _ _ _ _ _ _ _ _ _ _ _ _ _ _ _ _ _ _ _ _ _ _ _ _ _ _ _ _ _ g n c bx N lo hi p key D _ HC HK (Lib.hid HL.out.2.2.2.2.1) hn1 HLOW.out hlohi hpn hp2 hhi hhn ?_
  intro s w1 r21 r23 r149 r150 r151 r152 r153 r154 r155 r156 r157 r158 r159 r160 r161 r162 r163 r164 r165 r166 r167 r168 r169 r170 r171 r172 r173 r174 hs1 hs2 HI HC1 HF1
  obtain ⟨en, hen⟩ : ∃ en, en = nn - s := ⟨_, rfl⟩
  obtain ⟨k, hk⟩ : ∃ k, k = s - a := ⟨_, rfl⟩
  obtain ⟨l, hl⟩ : ∃ l, l = mid - s := ⟨_, rfl⟩
  have hcut := CUT.out s hs1 hs2
  have hm3 := M3.out s hs1 hs2 HI.out
  rw [← hk, ← hl] at hm3
  have HM3 := Lib.hid hm3
  have ee : (nn : Int) - (s : Int) = (en : Int) := by omega
  have x1 : s ≤ a + k := by omega
  have x1' : a + k ≤ s := by omega
  have x2 : mid ≤ s + l := by omega
  have x2' : s + l ≤ mid := by omega
  have x3 : en ≤ m + l := by have := HLH.out; omega
  have x3' : m + l ≤ en := by have := HLH.out; omega
  have x4 : k ≤ la := by omega
  have x5 : l ≤ lb := by omega
  have x6 : mid < b := by have := HLH.out; omega
  have x7 : a < mid := by have := HLH.out; omega
  obtain ⟨A1, hA1⟩ : ∃ A1, A1 = A.take k := ⟨_, rfl⟩
  obtain ⟨A2, hA2⟩ : ∃ A2, A2 = A.drop k := ⟨_, rfl⟩
  obtain ⟨B1, hB1⟩ : ∃ B1, B1 = B.take l := ⟨_, rfl⟩
  obtain ⟨B2, hB2⟩ : ∃ B2, B2 = B.drop l := ⟨_, rfl⟩
  have hAA : A1 ++ A2 = A := by rw [hA1, hA2, List.take_append_drop]
  have hBB : B1 ++ B2 = B := by rw [hB1, hB2, List.take_append_drop]
  have l1 : A1.length = k := by rw [hA1, List.length_take]; have := HL.out; omega
  have l2 : A2.length = la - k := by rw [hA2, List.length_drop]; have := HL.out; omega
  have l3 : B1.length = l := by rw [hB1, List.length_take]; have := HL.out; omega
  have l4 : B2.length = lb - l := by rw [hB2, List.length_drop]; have := HL.out; omega
  have sA1 : Srt key A1 := hA1 ▸ srt_take HA.out k
  have sA2 : Srt key A2 := hA2 ▸ srt_drop HA.out k
  have sB1 : Srt key B1 := hB1 ▸ srt_take HB.out l
  have sB2 : Srt key B2 := hB2 ▸ srt_drop HB.out l
  have st1 : Stb key A1 B1 := by rw [hA1, hB1]; exact stb_take HST.out k l
  have st2 : Stb key A2 B2 := by rw [hA2, hB2]; exact stb_drop HST.out k l
  have hc1 : Col w1 g (P ++ (A1 ++ (A2 ++ (B1 ++ (B2 ++ S))))) := by
    have h := HC1.out
    rw [HL.out.2.2.2.1, ← hAA, ← hBB] at h
    simpa using h
  have nl : n = P.length + (k + (la - k)) + (l + (lb - l)) + S.length := by have := HL.out; omega
  have pl : P.length = a := HL.out.1.symm
  have lowD : ∀ X : List Nat, X.Perm D → ∀ x ∈ X, x < N := fun X hX x hx => HLOW.out x (hX.mem_iff.1 hx)
  have permD : (P ++ (A1 ++ (B1 ++ (A2 ++ (B2 ++ S))))).Perm D := by
    rw [HL.out.2.2.2.1, ← hAA, ← hBB]
    refine List.Perm.append_left _ ?_
    rw [List.append_assoc, List.append_assoc]
    refine List.Perm.append_left _ ?_
    rw [← List.append_assoc B1 A2, ← List.append_assoc A2 B1]
    exact List.Perm.append_right _ List.perm_append_comm
  -- the three calls, and what stands where one is left out
  have ROT : Hid (k < la → 0 < l → Calls Tryz.prog 97 #[.slice (some ⟨g, 0, none⟩) n c, .int .i64 (s : Int), .int .i64 (m : Int), .int .i64 (en : Int), .func (.func 87) #[] #[.pointer (some ⟨bx, 0, none⟩)]] w1 fun e w' =>
      e = .returned (.tuple #[]) ∧ Col w' g (P ++ (A1 ++ (B1 ++ (A2 ++ (B2 ++ S))))) ∧ Fr (fun b => b = g) w1 w') := by
    intro h1 h2
    refine (rotate_any g n c s m en _ (P ++ A1) A2 B1 (B2 ++ S) w1 (by simpa using hc1) (by simp; omega) hn1 (by simp; omega) (by simp; omega) (by simp; omega) (by omega) (by omega)).mono ?_
    rintro e w' ⟨rfl, h, hf⟩
    exact ⟨rfl, by simpa using h, hf⟩
  have NROT : Hid (k = la ∨ l = 0 → Col w1 g (P ++ (A1 ++ (B1 ++ (A2 ++ (B2 ++ S)))))) := by
    rintro (h | h)
    · have e : A2 = [] := List.eq_nil_of_length_eq_zero (by omega)
      rw [e] at hc1 ⊢
      exact hc1
    · have e : B1 = [] := List.eq_nil_of_length_eq_zero (by omega)
      rw [e] at hc1 ⊢
      exact hc1
  have SY1 : Hid (∀ w2, Fr (fun b => b = g) w w2 → Col w2 g (P ++ (A1 ++ (B1 ++ (A2 ++ (B2 ++ S))))) → 0 < k → 0 < l → Calls Tryz.prog 96 #[.slice (some ⟨g, 0, none⟩) n c, .int .i64 (a : Int), .int .i64 (s : Int), .int .i64 (mid : Int), .func (.func 87) #[] #[.pointer (some ⟨bx, 0, none⟩)]] w2 fun e w' =>
      e = .returned (.tuple #[]) ∧ ∃ C, C.Perm (A1 ++ B1) ∧ Srt key C ∧ Col w' g (P ++ (C ++ (A2 ++ (B2 ++ S)))) ∧ Fr (fun b => b = g) w2 w') := by
    intro w2 hf hc2 h1 h2
    exact IH.out g n c a s mid bx N key P A1 B1 (A2 ++ (B2 ++ S)) w2 (by have := HF.out; have := HL.out; omega) hc2 (by simp; omega) hn1 pl.symm (by omega) (by omega) (by omega) (by omega) (HK.out.fr hf) (lowD _ permD) sA1 sB1 st1
  have NSY1 : Hid (k = 0 ∨ l = 0 → Srt key (A1 ++ B1)) := by
    rintro (h | h)
    · have e : A1 = [] := List.eq_nil_of_length_eq_zero (by omega)
      rw [e]; exact sB1
    · have e : B1 = [] := List.eq_nil_of_length_eq_zero (by omega)
      rw [e, List.append_nil]; exact sA1
  have SY2 : Hid (∀ w2 C1, Fr (fun b => b = g) w w2 → C1.Perm (A1 ++ B1) → Col w2 g (P ++ (C1 ++ (A2 ++ (B2 ++ S)))) → k < la → l < lb → Calls Tryz.prog 96 #[.slice (some ⟨g, 0, none⟩) n c, .int .i64 (mid : Int), .int .i64 (en : Int), .int .i64 (b : Int), .func (.func 87) #[] #[.pointer (some ⟨bx, 0, none⟩)]] w2 fun e w' =>
      e = .returned (.tuple #[]) ∧ ∃ C, C.Perm (A2 ++ B2) ∧ Srt key C ∧ Col w' g (P ++ (C1 ++ (C ++ S))) ∧ Fr (fun b => b = g) w2 w') := by
    intro w2 C1 hf hp hc2 h1 h2
    have lC : C1.length = k + l := by rw [hp.length_eq, List.length_append, l1, l3]
    have hpD : ((P ++ C1) ++ (A2 ++ (B2 ++ S))).Perm D := by
      refine List.Perm.trans ?_ permD
      rw [List.append_assoc]
      refine List.Perm.append_left _ ?_
      rw [← List.append_assoc A1]
      exact List.Perm.append_right _ hp
    refine (IH.out g n c mid en b bx N key (P ++ C1) A2 B2 S w2 (by have := HF.out; have := HL.out; omega) (by simpa using hc2) (by simp; omega) hn1 (by simp; omega) (by simp; omega) (by simp; omega) (by omega) (by omega) (HK.out.fr hf) (lowD _ hpD) sA2 sB2 st2).mono ?_
    rintro e w' ⟨rfl, C, h1, h2, h3, h4⟩
    exact ⟨rfl, C, h1, h2, by simpa using h3, h4⟩
  have NSY2 : Hid (k = la ∨ l = lb → Srt key (A2 ++ B2)) := by
    rintro (h | h)
    · have e : A2 = [] := List.eq_nil_of_length_eq_zero (by omega)
      rw [e]; exact sB2
    · have e : B2 = [] := List.eq_nil_of_length_eq_zero (by omega)
      rw [e, List.append_nil]; exact sA2
  have HEND : Hid (∀ (C1 C2 : List Nat) (w2 : World), C1.Perm (A1 ++ B1) → Srt key C1 → C2.Perm (A2 ++ B2) → Srt key C2 → Col w2 g (P ++ (C1 ++ (C2 ++ S))) → Fr (fun b => b = g) w w2 → ∃ C, C.Perm (A ++ B) ∧ Srt key C ∧ Col w2 g (P ++ (C ++ S)) ∧ Fr (fun b => b = g) w w2) := by
    intro C1 C2 w2 p1 s1 p2 s2 hc2 hf2
    refine ⟨C1 ++ C2, ?_, ?_, by simpa using hc2, hf2⟩
    · refine (p1.append p2).trans ?_
      rw [← hAA, ← hBB]
      rw [List.append_assoc, List.append_assoc]
      refine List.Perm.append_left _ ?_
      rw [← List.append_assoc, ← List.append_assoc]
      exact List.Perm.append_right _ List.perm_append_comm
    · refine srt_app.2 ⟨s1, s2, fun x hx y hy => ?_⟩
      have h := HM3.out x
      rw [← hA1, ← hA2, ← hB1, ← hB2] at h
      exact h (p1.mem_iff.1 hx) y (p2.mem_iff.1 hy)
  clear hA1 hA2 hB1 hB2 hAA hBB l1 l2 l3 l4 sA1 sA2 sB1 sB2 st1 st2 hc1 nl pl lowD permD hen hk hl hcut hm3
  clear HC HC1 HI HM3 M3 CUT IH
  rcases (show k = 0 ∨ (0 < k ∧ k < la) ∨ k = la by omega) with hk0 | ⟨hk1, hk2⟩ | hk3
  all_goals rcases (show l = 0 ∨ (0 < l ∧ l < lb) ∨ l = lb by omega) with hl0 | ⟨hl1, hl2⟩ | hl3
  · skip
    have d1 : decide (s < m) = true := by simp; omega
    have d2 : decide (m < en) = false := by simp; omega
    have d3 : decide (a < s) = false := by simp; omega
    have d4 : decide (s < mid) = false := by simp; omega
    have d5 : decide (mid < en) = true := by simp; omega
    have d6 : decide (en < b) = true := by simp; omega
    have HC2 := Lib.hid (NROT.out (by omega))
    have HF2 := HF1
    obtain ⟨C1, hC1⟩ : ∃ C1, C1 = A1 ++ B1 := ⟨_, rfl⟩
    have HP1 : Hid (C1.Perm (A1 ++ B1) ∧ Srt key C1) := Lib.hid ⟨by rw [hC1], by rw [hC1]; exact NSY1.out (by omega)⟩
    have HC3 : Hid (Col _ g (P ++ (C1 ++ (A2 ++ (B2 ++ S))))) := Lib.hid (by have h := HC2.out; rw [hC1]; simpa using h)
    have HF3 := HF2
    clear hC1
    go_wp2_with fail
    refine (SY2.out _ C1 HF3.out HP1.out.1 HC3.out (by omega) (by omega)).mono ?_
    rintro e w4 ⟨rfl, C2, hp2, hs2, hc4, hf4⟩
    have HF4 := Lib.hid (HF3.out.trans hf4 (fun _ _ h => h))
    have HC4 := Lib.hid hc4
    have HP2 := Lib.hid (And.intro hp2 hs2)
    clear hc4 hf4 hp2 hs2
    go_wp2
    go_end0
    exact ⟨rfl, HEND.out C1 C2 _ HP1.out.1 HP1.out.2 HP2.out.1 HP2.out.2 HC4.out HF4.out⟩
  · skip
    have d1 : decide (s < m) = true := by simp; omega
    have d2 : decide (m < en) = true := by simp; omega
    have d3 : decide (a < s) = false := by simp; omega
    have d4 : decide (s < mid) = true := by simp; omega
    have d5 : decide (mid < en) = true := by simp; omega
    have d6 : decide (en < b) = true := by simp; omega
    go_wp2_with fail
    refine (ROT.out (by omega) (by omega)).mono ?_
    rintro e w2 ⟨rfl, hc2, hf2⟩
    have HF2 := Lib.hid (HF1.out.trans hf2 (fun _ _ h => h))
    have HC2 := Lib.hid hc2
    clear hc2 hf2
    obtain ⟨C1, hC1⟩ : ∃ C1, C1 = A1 ++ B1 := ⟨_, rfl⟩
    have HP1 : Hid (C1.Perm (A1 ++ B1) ∧ Srt key C1) := Lib.hid ⟨by rw [hC1], by rw [hC1]; exact NSY1.out (by omega)⟩
    have HC3 : Hid (Col _ g (P ++ (C1 ++ (A2 ++ (B2 ++ S))))) := Lib.hid (by have h := HC2.out; rw [hC1]; simpa using h)
    have HF3 := HF2
    clear hC1
    go_wp2_with fail
    refine (SY2.out _ C1 HF3.out HP1.out.1 HC3.out (by omega) (by omega)).mono ?_
    rintro e w4 ⟨rfl, C2, hp2, hs2, hc4, hf4⟩
    have HF4 := Lib.hid (HF3.out.trans hf4 (fun _ _ h => h))
    have HC4 := Lib.hid hc4
    have HP2 := Lib.hid (And.intro hp2 hs2)
    clear hc4 hf4 hp2 hs2
    go_wp2
    go_end0
    exact ⟨rfl, HEND.out C1 C2 _ HP1.out.1 HP1.out.2 HP2.out.1 HP2.out.2 HC4.out HF4.out⟩
  · skip
    have d1 : decide (s < m) = true := by simp; omega
    have d2 : decide (m < en) = true := by simp; omega
    have d3 : decide (a < s) = false := by simp; omega
    have d4 : decide (s < mid) = true := by simp; omega
    have d5 : decide (mid < en) = true := by simp; omega
    have d6 : decide (en < b) = false := by simp; omega
    go_wp2_with fail
    refine (ROT.out (by omega) (by omega)).mono ?_
    rintro e w2 ⟨rfl, hc2, hf2⟩
    have HF2 := Lib.hid (HF1.out.trans hf2 (fun _ _ h => h))
    have HC2 := Lib.hid hc2
    clear hc2 hf2
    obtain ⟨C1, hC1⟩ : ∃ C1, C1 = A1 ++ B1 := ⟨_, rfl⟩
    have HP1 : Hid (C1.Perm (A1 ++ B1) ∧ Srt key C1) := Lib.hid ⟨by rw [hC1], by rw [hC1]; exact NSY1.out (by omega)⟩
    have HC3 : Hid (Col _ g (P ++ (C1 ++ (A2 ++ (B2 ++ S))))) := Lib.hid (by have h := HC2.out; rw [hC1]; simpa using h)
    have HF3 := HF2
    clear hC1
    obtain ⟨C2, hC2⟩ : ∃ C2, C2 = A2 ++ B2 := ⟨_, rfl⟩
    have HP2 : Hid (C2.Perm (A2 ++ B2) ∧ Srt key C2) := Lib.hid ⟨by rw [hC2], by rw [hC2]; exact NSY2.out (by omega)⟩
    have HC4 : Hid (Col _ g (P ++ (C1 ++ (C2 ++ S)))) := Lib.hid (by have h := HC3.out; rw [hC2]; simpa using h)
    have HF4 := HF3
    clear hC2
    go_wp2
    go_end0
    exact ⟨rfl, HEND.out C1 C2 _ HP1.out.1 HP1.out.2 HP2.out.1 HP2.out.2 HC4.out HF4.out⟩
  · skip
    have d1 : decide (s < m) = true := by simp; omega
    have d2 : decide (m < en) = false := by simp; omega
    have d3 : decide (a < s) = true := by simp; omega
    have d4 : decide (s < mid) = false := by simp; omega
    have d5 : decide (mid < en) = true := by simp; omega
    have d6 : decide (en < b) = true := by simp; omega
    have HC2 := Lib.hid (NROT.out (by omega))
    have HF2 := HF1
    obtain ⟨C1, hC1⟩ : ∃ C1, C1 = A1 ++ B1 := ⟨_, rfl⟩
    have HP1 : Hid (C1.Perm (A1 ++ B1) ∧ Srt key C1) := Lib.hid ⟨by rw [hC1], by rw [hC1]; exact NSY1.out (by omega)⟩
    have HC3 : Hid (Col _ g (P ++ (C1 ++ (A2 ++ (B2 ++ S))))) := Lib.hid (by have h := HC2.out; rw [hC1]; simpa using h)
    have HF3 := HF2
    clear hC1
    go_wp2_with fail
    refine (SY2.out _ C1 HF3.out HP1.out.1 HC3.out (by omega) (by omega)).mono ?_
    rintro e w4 ⟨rfl, C2, hp2, hs2, hc4, hf4⟩
    have HF4 := Lib.hid (HF3.out.trans hf4 (fun _ _ h => h))
    have HC4 := Lib.hid hc4
    have HP2 := Lib.hid (And.intro hp2 hs2)
    clear hc4 hf4 hp2 hs2
    go_wp2
    go_end0
    exact ⟨rfl, HEND.out C1 C2 _ HP1.out.1 HP1.out.2 HP2.out.1 HP2.out.2 HC4.out HF4.out⟩
  · skip
    have d1 : decide (s < m) = true := by simp; omega
    have d2 : decide (m < en) = true := by simp; omega
    have d3 : decide (a < s) = true := by simp; omega
    have d4 : decide (s < mid) = true := by simp; omega
    have d5 : decide (mid < en) = true := by simp; omega
    have d6 : decide (en < b) = true := by simp; omega
    go_wp2_with fail
    refine (ROT.out (by omega) (by omega)).mono ?_
    rintro e w2 ⟨rfl, hc2, hf2⟩
    have HF2 := Lib.hid (HF1.out.trans hf2 (fun _ _ h => h))
    have HC2 := Lib.hid hc2
    clear hc2 hf2
    go_wp2_with fail
    refine (SY1.out _ HF2.out HC2.out (by omega) (by omega)).mono ?_
    rintro e w3 ⟨rfl, C1, hp1, hs1, hc3, hf3⟩
    have HF3 := Lib.hid (HF2.out.trans hf3 (fun _ _ h => h))
    have HC3 := Lib.hid hc3
    have HP1 := Lib.hid (And.intro hp1 hs1)
    clear hc3 hf3 hp1 hs1
    go_wp2_with fail
    refine (SY2.out _ C1 HF3.out HP1.out.1 HC3.out (by omega) (by omega)).mono ?_
    rintro e w4 ⟨rfl, C2, hp2, hs2, hc4, hf4⟩
    have HF4 := Lib.hid (HF3.out.trans hf4 (fun _ _ h => h))
    have HC4 := Lib.hid hc4
    have HP2 := Lib.hid (And.intro hp2 hs2)
    clear hc4 hf4 hp2 hs2
    go_wp2
    go_end0
    exact ⟨rfl, HEND.out C1 C2 _ HP1.out.1 HP1.out.2 HP2.out.1 HP2.out.2 HC4.out HF4.out⟩
  · skip
    have d1 : decide (s < m) = true := by simp; omega
    have d2 : decide (m < en) = true := by simp; omega
    have d3 : decide (a < s) = true := by simp; omega
    have d4 : decide (s < mid) = true := by simp; omega
    have d5 : decide (mid < en) = true := by simp; omega
    have d6 : decide (en < b) = false := by simp; omega
    go_wp2_with fail
    refine (ROT.out (by omega) (by omega)).mono ?_
    rintro e w2 ⟨rfl, hc2, hf2⟩
    have HF2 := Lib.hid (HF1.out.trans hf2 (fun _ _ h => h))
    have HC2 := Lib.hid hc2
    clear hc2 hf2
    go_wp2_with fail
    refine (SY1.out _ HF2.out HC2.out (by omega) (by omega)).mono ?_
    rintro e w3 ⟨rfl, C1, hp1, hs1, hc3, hf3⟩
    have HF3 := Lib.hid (HF2.out.trans hf3 (fun _ _ h => h))
    have HC3 := Lib.hid hc3
    have HP1 := Lib.hid (And.intro hp1 hs1)
    clear hc3 hf3 hp1 hs1
    obtain ⟨C2, hC2⟩ : ∃ C2, C2 = A2 ++ B2 := ⟨_, rfl⟩
    have HP2 : Hid (C2.Perm (A2 ++ B2) ∧ Srt key C2) := Lib.hid ⟨by rw [hC2], by rw [hC2]; exact NSY2.out (by omega)⟩
    have HC4 : Hid (Col _ g (P ++ (C1 ++ (C2 ++ S)))) := Lib.hid (by have h := HC3.out; rw [hC2]; simpa using h)
    have HF4 := HF3
    clear hC2
    go_wp2
    go_end0
    exact ⟨rfl, HEND.out C1 C2 _ HP1.out.1 HP1.out.2 HP2.out.1 HP2.out.2 HC4.out HF4.out⟩
  · skip
    have d1 : decide (s < m) = false := by simp; omega
    have d2 : decide (m < en) = false := by simp; omega
    have d3 : decide (a < s) = true := by simp; omega
    have d4 : decide (s < mid) = false := by simp; omega
    have d5 : decide (mid < en) = false := by simp; omega
    have d6 : decide (en < b) = true := by simp; omega
    have HC2 := Lib.hid (NROT.out (by omega))
    have HF2 := HF1
    obtain ⟨C1, hC1⟩ : ∃ C1, C1 = A1 ++ B1 := ⟨_, rfl⟩
    have HP1 : Hid (C1.Perm (A1 ++ B1) ∧ Srt key C1) := Lib.hid ⟨by rw [hC1], by rw [hC1]; exact NSY1.out (by omega)⟩
    have HC3 : Hid (Col _ g (P ++ (C1 ++ (A2 ++ (B2 ++ S))))) := Lib.hid (by have h := HC2.out; rw [hC1]; simpa using h)
    have HF3 := HF2
    clear hC1
    obtain ⟨C2, hC2⟩ : ∃ C2, C2 = A2 ++ B2 := ⟨_, rfl⟩
    have HP2 : Hid (C2.Perm (A2 ++ B2) ∧ Srt key C2) := Lib.hid ⟨by rw [hC2], by rw [hC2]; exact NSY2.out (by omega)⟩
    have HC4 : Hid (Col _ g (P ++ (C1 ++ (C2 ++ S)))) := Lib.hid (by have h := HC3.out; rw [hC2]; simpa using h)
    have HF4 := HF3
    clear hC2
    go_wp2
    go_end0
    exact ⟨rfl, HEND.out C1 C2 _ HP1.out.1 HP1.out.2 HP2.out.1 HP2.out.2 HC4.out HF4.out⟩
  · skip
    have d1 : decide (s < m) = false := by simp; omega
    have d2 : decide (m < en) = true := by simp; omega
    have d3 : decide (a < s) = true := by simp; omega
    have d4 : decide (s < mid) = true := by simp; omega
    have d5 : decide (mid < en) = false := by simp; omega
    have d6 : decide (en < b) = true := by simp; omega
    have HC2 := Lib.hid (NROT.out (by omega))
    have HF2 := HF1
    go_wp2_with fail
    refine (SY1.out _ HF2.out HC2.out (by omega) (by omega)).mono ?_
    rintro e w3 ⟨rfl, C1, hp1, hs1, hc3, hf3⟩
    have HF3 := Lib.hid (HF2.out.trans hf3 (fun _ _ h => h))
    have HC3 := Lib.hid hc3
    have HP1 := Lib.hid (And.intro hp1 hs1)
    clear hc3 hf3 hp1 hs1
    obtain ⟨C2, hC2⟩ : ∃ C2, C2 = A2 ++ B2 := ⟨_, rfl⟩
    have HP2 : Hid (C2.Perm (A2 ++ B2) ∧ Srt key C2) := Lib.hid ⟨by rw [hC2], by rw [hC2]; exact NSY2.out (by omega)⟩
    have HC4 : Hid (Col _ g (P ++ (C1 ++ (C2 ++ S)))) := Lib.hid (by have h := HC3.out; rw [hC2]; simpa using h)
    have HF4 := HF3
    clear hC2
    go_wp2
    go_end0
    exact ⟨rfl, HEND.out C1 C2 _ HP1.out.1 HP1.out.2 HP2.out.1 HP2.out.2 HC4.out HF4.out⟩
  · skip
    have d1 : decide (s < m) = false := by simp; omega
    have d2 : decide (m < en) = true := by simp; omega
    have d3 : decide (a < s) = true := by simp; omega
    have d4 : decide (s < mid) = true := by simp; omega
    have d5 : decide (mid < en) = false := by simp; omega
    have d6 : decide (en < b) = false := by simp; omega
    have HC2 := Lib.hid (NROT.out (by omega))
    have HF2 := HF1
    go_wp2_with fail
    refine (SY1.out _ HF2.out HC2.out (by omega) (by omega)).mono ?_
    rintro e w3 ⟨rfl, C1, hp1, hs1, hc3, hf3⟩
    have HF3 := Lib.hid (HF2.out.trans hf3 (fun _ _ h => h))
    have HC3 := Lib.hid hc3
    have HP1 := Lib.hid (And.intro hp1 hs1)
    clear hc3 hf3 hp1 hs1
    obtain ⟨C2, hC2⟩ : ∃ C2, C2 = A2 ++ B2 := ⟨_, rfl⟩
    have HP2 : Hid (C2.Perm (A2 ++ B2) ∧ Srt key C2) := Lib.hid ⟨by rw [hC2], by rw [hC2]; exact NSY2.out (by omega)⟩
    have HC4 : Hid (Col _ g (P ++ (C1 ++ (C2 ++ S)))) := Lib.hid (by have h := HC3.out; rw [hC2]; simpa using h)
    have HF4 := HF3
    clear hC2
    go_wp2
    go_end0
    exact ⟨rfl, HEND.out C1 C2 _ HP1.out.1 HP1.out.2 HP2.out.1 HP2.out.2 HC4.out HF4.out⟩
end Go.Proofs.YtahfmcdhcbfkaaaGreatDoor
