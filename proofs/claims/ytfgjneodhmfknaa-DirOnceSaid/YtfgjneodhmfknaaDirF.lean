/-
  Layer 16, the program: places (written by gen_cols.py).
-/
import Derived.Test.YtfgjneodhmfknaaDirE
namespace Go.Proofs.Ytfgjneodhmfknaa
open Go.RowKit Mem Go.Lib LebM DirM
attribute [local go_sem ↓] Go.wp_at_zero Go.wp_at_succ
set_option linter.unusedVariables false

def pid (p : Nat × Nat) : Value := .int .i64 (p.1 : Int)
def psz (p : Nat × Nat) : Value := .int .i64 (p.2 : Int)
theorem plaTS : ElemTyS Try.prog 55 67 (.agg #[.int .i64 0, .int .i64 0]) 2 16 := ⟨Try.underlying55, by kernel_rfl, rfl, by decide⟩
def St.refu (s : St) (b : Bool) (x : Nat) : St := ⟨s.l, rf b x s.e⟩
theorem refuseS_any (g : Nat) (s : St) (X : Nat) (x : Int) (b : Bool) (w : World) (h : Rdm w g s) (hx : x = (X : Int)) :
    Calls Try.prog 23 #[.pointer (some ⟨g, 0, none⟩), .bool b, .int .i64 x] w fun e w' => e = .returned (.tuple #[]) ∧ Rdm w' g (s.refu b X) ∧ Fr (fun k => k = g) w w' := by
  obtain ⟨A, n, c, h1, h2, h3, h4, h5⟩ := h
  refine (refuse_any g A n c s.e X x b w h1 hx).mono ?_
  rintro e w' ⟨rfl, hr, hf⟩
  exact ⟨rfl, ⟨A, n, c, hr, h2.frp hf (fun hn ad e h => by have h7 := h5 hn ad e; have h8 : ad.block = g := h; omega), h3, h4, h5⟩, hf⟩
theorem number64_any (g : Nat) (s : St) (w : World) (h : Rdm w g s) :
    Calls Try.prog 27 #[.pointer (some ⟨g, 0, none⟩), .int .u64 64] w fun e w' => e = .returned (.int .i64 ((s.num 64).1 : Int)) ∧ Rdm w' g (s.num 64).2 ∧ Fr (fun k => k = g) w w' := number_any g s 64 w h (by omega)
theorem numberM_any (g : Nat) (s : St) (w : World) (h : Rdm w g s) :
    Calls Try.prog 27 #[.pointer (some ⟨g, 0, none⟩), .int .u64 1048576] w fun e w' => e = .returned (.int .i64 ((s.num 1048576).1 : Int)) ∧ Rdm w' g (s.num 1048576).2 ∧ Fr (fun k => k = g) w w' := number_any g s 1048576 w h (by omega)
theorem St.num_le (s : St) (m : Nat) : (s.num m).1 ≤ m := by
  unfold St.num
  split
  · exact Nat.zero_le _
  · exact (numD_lt m s.l).1
/-- the directory, as the reader has it -/
def St.pls : Nat → Int → St → List (Nat × Nat) × St
  | 0, _, s => ([], s)
  | k + 1, last, s =>
    (((s.num 1048576).1, ((s.num 1048576).2.num 1048576).1) :: (St.pls k (s.num 1048576).1 (((s.num 1048576).2.num 1048576).2.refu (decide (((s.num 1048576).1 : Int) ≤ last) || decide (((s.num 1048576).2.num 1048576).1 = 0)) 3)).1,
      (St.pls k (s.num 1048576).1 (((s.num 1048576).2.num 1048576).2.refu (decide (((s.num 1048576).1 : Int) ≤ last) || decide (((s.num 1048576).2.num 1048576).1 = 0)) 3)).2)
theorem pls_succ (k : Nat) (last : Int) (s : St) : St.pls (k + 1) last s =
    (((s.num 1048576).1, ((s.num 1048576).2.num 1048576).1) :: (St.pls k (s.num 1048576).1 (((s.num 1048576).2.num 1048576).2.refu (decide (((s.num 1048576).1 : Int) ≤ last) || decide (((s.num 1048576).2.num 1048576).1 = 0)) 3)).1,
      (St.pls k (s.num 1048576).1 (((s.num 1048576).2.num 1048576).2.refu (decide (((s.num 1048576).1 : Int) ≤ last) || decide (((s.num 1048576).2.num 1048576).1 = 0)) 3)).2) := rfl
def St.places (s : St) : List (Nat × Nat) × St := St.pls (s.num 64).1 (-1) (s.num 64).2
set_option maxRecDepth 100000 in
set_option maxHeartbeats 6400000 in
theorem places_any (g : Nat) (s : St) (w : World) (h : Rdm w g s) :
    Calls Try.prog 22 #[.pointer (some ⟨g, 0, none⟩)] w fun e w' => ∃ A c, e = .returned (.slice A s.places.1.length c) ∧ OwnP pid psz 67 w' w.heap.size A c s.places.1 ∧ Rdm w' g s.places.2 ∧ Fr (fun k => k = g) w w' := by
  have hn := number64_any g s w h
  have hN64 := s.num_le 64
  obtain ⟨N, hN⟩ : ∃ N, N = (s.num 64).1 := ⟨_, rfl⟩
  obtain ⟨s1, hs1⟩ : ∃ s1, s1 = (s.num 64).2 := ⟨_, rfl⟩
  unfold St.places
  rw [← hN, ← hs1] at hn ⊢
  rw [← hN] at hN64
  have hg : g < w.heap.size := by obtain ⟨A, n, c, h1, _⟩ := h; exact Row.lt h1
  obtain ⟨base, hbase⟩ : ∃ base, base = w.heap.size := ⟨_, rfl⟩
  rw [← hbase] at hg ⊢
  have HB := Lib.hid hbase
  have HG := Lib.hid hg
  have HNU := Lib.hid hn
  clear hN hs1 hn hbase hg h
  go_enter Try.func22, Try.ntmps22
  go_wp2_with fail
  refine HNU.out.mono ?_
  rintro e w1 ⟨rfl, hs1, hf1⟩
  have HS1 := Lib.hid hs1
  have HF1 := Lib.hid hf1
  clear hs1 hf1
  go_wp2_with fail
  go_loopw [3, 4, 9] (fun l la v wr => ∃ (k N' : Nat) (last : Int) (F : List (Nat × Nat)) (r : St) (A1 : Option Addr) (c1 : Nat), k + N' = N ∧ v = .int .i64 (k : Int) ∧ la = .int .i64 last ∧ l = .slice A1 F.length c1 ∧ F.length ≤ k ∧
    Hid (St.pls N (-1) s1 = (F ++ (St.pls N' last r).1, (St.pls N' last r).2)) ∧ Hid (OwnP pid psz 67 wr base A1 c1 F) ∧ Hid (Rdm wr g r) ∧ Hid (Fr (fun k => k = g) w wr)) (fun _ _ v _ => N - (intOf v).toNat)
  case atStart => exact ⟨0, N, -1, [], s1, none, 0, by omega, rfl, rfl, rfl, by simp, (by simp : St.pls N (-1) s1 = ([] ++ (St.pls N (-1) s1).1, (St.pls N (-1) s1).2)), OwnP.nil _ _ _, HS1, HF1⟩
  case round =>
    obtain ⟨k, N', last, F, r, A1, c1, hkN, rfl, rfl, rfl, hFl, HI, HO, HS, HF⟩ := hrel
    rename World => wr
    by_cases hlt : k < N
    · obtain ⟨N', rfl⟩ : ∃ M, N' = M + 1 := ⟨N' - 1, by omega⟩
      have hI := HI.out
      rw [pls_succ] at hI
      have n1 := numberM_any g r wr HS.out
      have l1 := r.num_le 1048576
      obtain ⟨id, hid⟩ : ∃ id, id = (r.num 1048576).1 := ⟨_, rfl⟩
      obtain ⟨r1, hr1⟩ : ∃ r1, r1 = (r.num 1048576).2 := ⟨_, rfl⟩
      rw [← hid, ← hr1] at n1
      rw [← hid] at l1
      have n2 := fun w h => numberM_any g r1 w h
      have l2 := r1.num_le 1048576
      obtain ⟨sz, hsz⟩ : ∃ sz, sz = (r1.num 1048576).1 := ⟨_, rfl⟩
      obtain ⟨r2, hr2⟩ : ∃ r2, r2 = (r1.num 1048576).2 := ⟨_, rfl⟩
      rw [← hsz, ← hr2] at n2
      rw [← hsz] at l2
      rw [← hid, ← hr1, ← hsz, ← hr2] at hI
      have hrf := fun b w h => refuseS_any g r2 3 3 b w h rfl
      have HI2 := Lib.hid hI
      have HN1 := Lib.hid n1
      have HN2 := Lib.hid n2
      have HRF := Lib.hid hrf
      clear hI n1 n2 hid hr1 hsz hr2 hrf
      go_wp2_with fail
      refine HN1.out.mono ?_
      rintro e w3 ⟨rfl, hs3, hf3⟩
      have HS3 := Lib.hid hs3
      have HF3 := Lib.hid (HF.out.trans hf3 (fun _ _ h => h))
      have HO3 := Lib.hid (HO.out.frS hf3 (fun k hk h => by have := HG.out; omega))
      clear hs3 hf3
      go_wp2_with fail
      refine (HN2.out _ HS3.out).mono ?_
      rintro e w4 ⟨rfl, hs4, hf4⟩
      have HS4 := Lib.hid hs4
      have HF4 := Lib.hid (HF3.out.trans hf4 (fun _ _ h => h))
      have HO4 := Lib.hid (HO3.out.frS hf4 (fun k hk h => by have := HG.out; omega))
      clear hs4 hf4
      obtain ⟨b1, hb1⟩ : ∃ b1, b1 = decide ((id : Int) ≤ last) := ⟨_, rfl⟩
      obtain ⟨b2, hb2⟩ : ∃ b2, b2 = decide (sz = 0) := ⟨_, rfl⟩
      obtain ⟨b, hb⟩ : ∃ b, b = (decide ((id : Int) ≤ last) || decide (sz = 0)) := ⟨_, rfl⟩
      have HBE : Hid (b = (b1 || b2)) := Lib.hid (by rw [hb, hb1, hb2])
      have t1 : decide ((id : Int) ≤ last) = b1 := hb1.symm
      have t2 : ((sz : Int) == 0) = b2 := by
        rw [hb2]
        by_cases h : sz = 0
        · subst h; rfl
        · rw [decide_eq_false h]; simp; omega
      have t2' : (sz == 0) = b2 := by
        rw [hb2]
        by_cases h : sz = 0
        · subst h; rfl
        · rw [decide_eq_false h]; simp; omega
      have hI := HI2.out
      rw [← hb] at hI
      have HI3 := Lib.hid hI
      clear HI2 HI hI hb1 hb2 hb
      obtain ⟨F2, hF2⟩ : ∃ F2, F2 = F ++ [(id, sz)] := ⟨_, rfl⟩
      have hF2l : F2.length = F.length + 1 := by rw [hF2]; simp
      have HF2 := Lib.hid hF2
      have HF2l := Lib.hid hF2l
      clear hF2 hF2l
      obtain ⟨XS, hXS⟩ : ∃ XS, XS = F.flatMap (pcells pid psz) := ⟨_, rfl⟩
      have HXS := Lib.hid hXS
      clear hXS
      have key : ∀ (w5 : World), Rdm w5 g (r2.refu b 3) → Fr (fun k => k = g) w4 w5 → Hid (Rdm w5 g (r2.refu b 3) ∧ Fr (fun k => k = g) w w5 ∧ w5.ownsRow base 67 2 (.slice A1 F.length c1) F.length XS ∧ base ≤ w5.heap.size ∧ g < w5.heap.size) := fun w5 h1 h2 => Lib.hid (by
        have hF5 := HF4.out.trans h2 (fun _ _ h => h)
        have hb5 : base ≤ w5.heap.size := by have h3 := HB.out; have h4 := hF5.size; omega
        have hO5 := HO4.out.frS h2 (fun k hk h => by have := HG.out; omega)
        exact ⟨h1, hF5, by rw [HXS.out]; exact hO5, hb5, by have := HG.out; omega⟩)
      have HKEY := Lib.hid key
      clear key
      have done : ∀ (w5 w6 : World) (A6 : Option Addr) (c6 : Nat), Fr (fun k => k = g) w w5 → Rdm w5 g (r2.refu b 3) → base ≤ w5.heap.size → w6.ownsRow base 67 2 (.slice A6 F2.length c6) F2.length (XS ++ [.int .i64 (id : Int), .int .i64 (sz : Int)]) →
          Fr (fun k => (Value.slice A1 F.length c1).ownBlock = some k) (w5.alloc (.cells #[.int .i64 (id : Int), .int .i64 (sz : Int)] 67)) w6 → w5.ownsRow base 67 2 (.slice A1 F.length c1) F.length XS →
          Hid (OwnP pid psz 67 w6 base A6 c6 F2) ∧ Hid (Rdm w6 g (r2.refu b 3)) ∧ Hid (Fr (fun k => k = g) w w6) := by
        intro w5 w6 A6 c6 h1 h2 h3 h4 h5 h6
        have e : OwnP pid psz 67 w6 base A6 c6 F2 := by
          rw [HF2.out]
          exact OwnP.snoc (p := pid) (q := psz) (t := (id, sz)) HF2l.out (by rw [← HXS.out]; exact h4)
        have hfa : Fr (fun _ => False) w5 (w5.alloc (.cells #[.int .i64 (id : Int), .int .i64 (sz : Int)] 67)) := (Fr.refl _ _).alloc _
        have hlow : ∀ k, (Value.slice A1 F.length c1).ownBlock = some k → base ≤ k := fun k hk => (h6.lt k hk).1
        have hf6 : Fr (fun k => base ≤ k) w5 w6 := (hfa.mono (fun _ _ h => h.elim)).trans (h5.mono (fun k _ hk => hlow k hk)) (fun _ _ h => h)
        refine ⟨Lib.hid e, Lib.hid ?_, Lib.hid (h1.trans hf6 (fun k hk h => by have := HB.out; omega))⟩
        obtain ⟨A, n, c, q1, q2, q3, q4, q5⟩ := h2
        refine ⟨A, n, c, Row.fr q1 hf6 (fun h => by have := HG.out; omega), ?_, q3, q4, q5⟩
        refine (q2.fr hfa (fun _ _ h => h)).frp h5 (fun hn ad e h => ?_)
        have h7 := q5 hn ad e
        have h8 := hlow _ h
        have := HG.out
        omega
      have HDONE := Lib.hid done
      clear done
      cases b1 with
      | true =>
        obtain rfl : b = true := HBE.out
        go_wp2_with fail
        refine (HRF.out _ _ HS4.out).mono ?_
        rintro e w5 ⟨rfl, hs5, hf5⟩
        have HK5 := HKEY.out w5 hs5 hf5
        clear hs5 hf5
        go_wp2_with (at_builtin; refine wpList_appS2 plaTS _ rfl _ _ rfl base _ _ _ rfl (HK5.out.2.2.1.alloc _) _ _ [.int .i64 (id : Int), .int .i64 (sz : Int)] rfl rfl (new_at (by simp) [.int .i64 (id : Int), .int .i64 (sz : Int)] _) (by intro u hu; simp at hu; rcases hu with rfl | rfl <;> rfl) F2.length HF2l.out (by have := HF2l.out; unfold maxLen; omega) (by have := HF2l.out; omega) (by have h1 := HK5.out.2.2.2.1; simp; omega) ?_)
        intro A6 c6 w6 hown6 _ hfr6 _
        obtain ⟨HO6, HS6, HF6⟩ := HDONE.out w5 w6 A6 c6 HK5.out.2.1 HK5.out.1 HK5.out.2.2.2.1 hown6 hfr6 HK5.out.2.2.1
        clear hown6 hfr6
        go_wp2_with fail
        go_roundw
        case rel => exact ⟨k + 1, N', id, F2, _, A6, c6, by omega, by go_num, by rfl, by rfl, by have := HF2l.out; omega, Lib.hid (by rw [HI3.out, HF2.out]; simp), HO6, HS6, HF6⟩
        case measure => simp [intOf]; omega
      | false =>
        cases b2 with
        | true =>
          obtain rfl : b = true := HBE.out
          go_wp2_with fail
          refine (HRF.out _ _ HS4.out).mono ?_
          rintro e w5 ⟨rfl, hs5, hf5⟩
          have HK5 := HKEY.out w5 hs5 hf5
          clear hs5 hf5
          go_wp2_with (at_builtin; refine wpList_appS2 plaTS _ rfl _ _ rfl base _ _ _ rfl (HK5.out.2.2.1.alloc _) _ _ [.int .i64 (id : Int), .int .i64 (sz : Int)] rfl rfl (new_at (by simp) [.int .i64 (id : Int), .int .i64 (sz : Int)] _) (by intro u hu; simp at hu; rcases hu with rfl | rfl <;> rfl) F2.length HF2l.out (by have := HF2l.out; unfold maxLen; omega) (by have := HF2l.out; omega) (by have h1 := HK5.out.2.2.2.1; simp; omega) ?_)
          intro A6 c6 w6 hown6 _ hfr6 _
          obtain ⟨HO6, HS6, HF6⟩ := HDONE.out w5 w6 A6 c6 HK5.out.2.1 HK5.out.1 HK5.out.2.2.2.1 hown6 hfr6 HK5.out.2.2.1
          clear hown6 hfr6
          go_wp2_with fail
          go_roundw
          case rel => exact ⟨k + 1, N', id, F2, _, A6, c6, by omega, by go_num, by rfl, by rfl, by have := HF2l.out; omega, Lib.hid (by rw [HI3.out, HF2.out]; simp), HO6, HS6, HF6⟩
          case measure => simp [intOf]; omega
        | false =>
          obtain rfl : b = false := HBE.out
          go_wp2_with fail
          refine (HRF.out _ _ HS4.out).mono ?_
          rintro e w5 ⟨rfl, hs5, hf5⟩
          have HK5 := HKEY.out w5 hs5 hf5
          clear hs5 hf5
          go_wp2_with (at_builtin; refine wpList_appS2 plaTS _ rfl _ _ rfl base _ _ _ rfl (HK5.out.2.2.1.alloc _) _ _ [.int .i64 (id : Int), .int .i64 (sz : Int)] rfl rfl (new_at (by simp) [.int .i64 (id : Int), .int .i64 (sz : Int)] _) (by intro u hu; simp at hu; rcases hu with rfl | rfl <;> rfl) F2.length HF2l.out (by have := HF2l.out; unfold maxLen; omega) (by have := HF2l.out; omega) (by have h1 := HK5.out.2.2.2.1; simp; omega) ?_)
          intro A6 c6 w6 hown6 _ hfr6 _
          obtain ⟨HO6, HS6, HF6⟩ := HDONE.out w5 w6 A6 c6 HK5.out.2.1 HK5.out.1 HK5.out.2.2.2.1 hown6 hfr6 HK5.out.2.2.1
          clear hown6 hfr6
          go_wp2_with fail
          go_roundw
          case rel => exact ⟨k + 1, N', id, F2, _, A6, c6, by omega, by go_num, by rfl, by rfl, by have := HF2l.out; omega, Lib.hid (by rw [HI3.out, HF2.out]; simp), HO6, HS6, HF6⟩
          case measure => simp [intOf]; omega
    · obtain ⟨rfl, rfl⟩ : k = N ∧ N' = 0 := ⟨by omega, by omega⟩
      have HE : Hid (St.pls k (-1) s1 = (F, r)) := Lib.hid (by rw [HI.out]; simp [St.pls])
      clear HI
      go_wp2_with fail
      go_ret
      rw [HE.out]
      exact ⟨A1, c1, rfl, HO.out, HS.out, HF.out⟩
end Go.Proofs.Ytfgjneodhmfknaa
