/-
  Layer 16, the reference: Get.
-/
import Derived.Test.YtfgjneodhmfknaaDirX
namespace Go.Proofs.Ytfgjneodhmfknaa
open Go.RowKit Mem Go.Lib LebM DirM
attribute [local go_sem ↓] Go.wp_at_zero Go.wp_at_succ
set_option linter.unusedVariables false

def ridc (c : Col) : Value := .int .i64 (c.1 : Int)
def rtxt (c : Col) : Value := .string (txt c.2)
theorem rcTS : ElemTyS Try.prog 26 30 (.agg #[.int .i64 0, .string ⟨#[]⟩]) 2 24 := ⟨Try.underlying26, by kernel_rfl, rfl, by decide⟩
theorem intS16 : ElemTyS Try.prog 60 3 (.int .i64 0) 1 8 := ⟨Try.underlying60, by kernel_rfl, rfl, by decide⟩
theorem rnum64_any (A : Option Addr) (n c : Nat) (B : List UInt8) (w : World) (hr : Rd w A n (B.map bytec)) (hc : n ≤ c) :
    Calls Try.prog 24 #[.slice A n c, .int .u64 64] w fun e w' => ∃ A' n' c', e = .returned (.tuple #[.int .i64 ((numD 64 B).1 : Int), .slice A' n' c', .int .i64 ((numD 64 B).2.2 : Int)]) ∧
      ((numD 64 B).2.2 = 0 → Rd w' A' n' ((B.drop (numD 64 B).2.1).map bytec) ∧ n' ≤ c' ∧ n' ≤ n ∧ ∀ ad, A' = some ad → ∃ a0, A = some a0 ∧ ad.block = a0.block) ∧ Fr (fun _ => False) w w' := rnum_any A n c 64 B w hr hc (by omega)
theorem rnumM_any (A : Option Addr) (n c : Nat) (B : List UInt8) (w : World) (hr : Rd w A n (B.map bytec)) (hc : n ≤ c) :
    Calls Try.prog 24 #[.slice A n c, .int .u64 1048576] w fun e w' => ∃ A' n' c', e = .returned (.tuple #[.int .i64 ((numD 1048576 B).1 : Int), .slice A' n' c', .int .i64 ((numD 1048576 B).2.2 : Int)]) ∧
      ((numD 1048576 B).2.2 = 0 → Rd w' A' n' ((B.drop (numD 1048576 B).2.1).map bytec) ∧ n' ≤ c' ∧ n' ≤ n ∧ ∀ ad, A' = some ad → ∃ a0, A = some a0 ∧ ad.block = a0.block) ∧ Fr (fun _ => False) w w' := rnum_any A n c 1048576 B w hr hc (by omega)
/-- the columns so far, and those to come, without bytes yet -/
def emp (p : Nat × Nat) : Col := (p.1, [])
theorem pl_step {k : Nat} {last : Int} {R C D : List UInt8} {id sz : Nat} {e1 e2 : Nat} {k1 k2 : Nat} (h1 : numD 1048576 R = (id, k1, e1)) (hC : C = R.drop k1) (h2 : numD 1048576 C = (sz, k2, e2)) (hD : D = C.drop k2) :
    plD (k + 1) last R = if e1 ≠ 0 then (e1, [], []) else if e2 ≠ 0 then (e2, [], []) else if (id : Int) ≤ last ∨ sz = 0 then (3, [], []) else ((plD k id D).1, (id, sz) :: (plD k id D).2.1, (plD k id D).2.2) := by
  conv => lhs; unfold plD
  rw [h1]
  simp only
  rw [← hC, h2]
  simp only
  rw [← hD]
theorem own2_at {w : World} {base T n c : Nat} {A : Option Addr} {xs : List Value} (h : w.ownsRow base T 2 (.slice A n c) n xs) (hn : 0 < n) :
    ∃ g, A = some ⟨g, 0, none⟩ ∧ base ≤ g ∧ (∀ i, w.frozen? ⟨g, i, none⟩ = false) ∧ ∀ i u, xs[i]? = some u → w.cell? ⟨g, i, none⟩ = some u := by
  rcases h.2 with ⟨hv, _⟩ | ⟨g, cap, cur, hv, hb, hr, _⟩
  · injection hv with _ h1 _
    omega
  · have hA : A = some ⟨g, 0, none⟩ := by injection hv
    subst hA
    have hc := h.cells (g := g) rfl
    refine ⟨g, rfl, hb, fun i => free_of hr i, fun i u hu => ?_⟩
    have h1 := hc i u hu
    rw [addr_add] at h1
    exact h1
theorem co_step {id sz : Nat} (P : List (Nat × Nat)) (R : List UInt8) : coD ((id, sz) :: P) R = if R.length < sz then (2, [], []) else ((coD P (R.drop sz)).1, (id, R.take sz) :: (coD P (R.drop sz)).2.1, (coD P (R.drop sz)).2.2) := rfl
theorem tup3 (x : Nat × Nat × Nat) : x = (x.1, x.2.1, x.2.2) := rfl
set_option maxRecDepth 100000 in
set_option maxHeartbeats 12800000 in
/-- THE CONTRACT of the reference's Get -/
theorem rget_any (A : Option Addr) (n c : Nat) (B : List UInt8) (w : World) (hr : Rd w A n (B.map bytec)) (hc : n ≤ c) (hn : n ≤ 100000000) :
    Calls Try.prog 14 #[.slice A n c] w fun e w' => ∃ A' c', e = .returned (.tuple #[.slice A' (getC B).1.length c', .int .i64 ((getC B).2 : Int)]) ∧ Prs ridc rtxt w' A' (getC B).1.length (getC B).1 ∧ Fr (fun _ => False) w w' := by
  have hnu := rnum64_any A n c B w hr hc
  have hn64 := (numD_lt 64 B).1
  have hBn : B.length = n := by simpa using hr.1
  have halt : ∀ ad, 0 < n → A = some ad → ad.block < w.heap.size := fun ad h0 e => hr.lt h0 ad e
  obtain ⟨N, hN⟩ : ∃ N, N = (numD 64 B).1 := ⟨_, rfl⟩
  obtain ⟨K0, hK0⟩ : ∃ K0, K0 = (numD 64 B).2.1 := ⟨_, rfl⟩
  obtain ⟨E, hE⟩ : ∃ E, E = (numD 64 B).2.2 := ⟨_, rfl⟩
  obtain ⟨B1, hB1⟩ : ∃ B1, B1 = B.drop K0 := ⟨_, rfl⟩
  obtain ⟨p, hp⟩ : ∃ p, p = plD N (-1) B1 := ⟨_, rfl⟩
  obtain ⟨q, hq⟩ : ∃ q, q = coD p.2.1 p.2.2 := ⟨_, rfl⟩
  have hge : getC B = if E ≠ 0 then ([], E) else if p.1 ≠ 0 then ([], p.1) else if q.1 ≠ 0 then ([], q.1) else if 0 < q.2.2.length then ([], 3) else (q.2.1, 0) := by
    unfold getC
    rw [← hN, ← hK0, ← hE, ← hB1, ← hp, ← hq]
  rw [← hN, ← hK0, ← hE, ← hB1] at hnu
  rw [← hN] at hn64
  have hB1n : B1.length ≤ 100000000 := by rw [hB1, List.length_drop]; omega
  obtain ⟨base, hbase⟩ : ∃ base, base = w.heap.size := ⟨_, rfl⟩
  rw [← hbase] at halt
  have HB := Lib.hid hbase
  have HALT := Lib.hid halt
  have HNU := Lib.hid hnu
  have HGE := Lib.hid hge
  have HP := Lib.hid hp
  have HQ := Lib.hid hq
  clear hnu hN hK0 hE hB1 hge hp hq hbase hr hBn halt
  go_enter Try.func14, Try.ntmps14
  go_wp2_with fail
  refine HNU.out.mono ?_
  rintro e w1 ⟨A1, n1, c1, rfl, hrd, hf1⟩
  by_cases he : E ≠ 0
  · have hge := HGE.out
    rw [if_pos he] at hge
    have HG2 := Lib.hid hge
    have t0 : ((E : Int) != 0) = true := by simp; omega
    have t0' : (E != 0) = true := by simp; omega
    have HF1 := Lib.hid hf1
    clear hge he hf1 hrd
    go_wp2_with fail
    refine bodyPost_ret (v := .tuple #[.slice none 0 0, .int .i64 (E : Int)]) (by simp [results, Try.results14, go_sem]) rfl ?_
    rw [HG2.out]
    exact ⟨none, 0, rfl, Prs.nil _ _, HF1.out⟩
  have hge := HGE.out
  rw [if_neg he] at hge
  have HG2 := Lib.hid hge
  obtain ⟨hrd1, hc1, hn1n, hat1⟩ := hrd (by omega)
  have hblk : ∀ ad, 0 < n1 → A1 = some ad → ad.block < base := by
    intro ad h0 e
    obtain ⟨a0, e0, eb⟩ := hat1 ad e
    rw [eb]
    exact HALT.out a0 (by omega) e0
  have HBLK := Lib.hid hblk
  obtain rfl : E = 0 := by omega
  have t0 : (((0 : Nat) : Int) != 0) = false := rfl
  have HRD1 := Lib.hid hrd1
  have HF1 := Lib.hid hf1
  clear hge HGE he hrd hrd1 hf1 hat1 hblk HALT hn1n
  have hn1 : n1 ≤ 100000000 := by have h := HRD1.out.1; simp at h; omega
  go_wp2_with fail
  go_loopw [0, 6, 7, 8] (fun b o z i wr => ∃ (k N' : Nat) (last : Int) (F : List (Nat × Nat)) (R : List UInt8) (A0 Ao Az : Option Addr) (n0 c0 co cz : Nat), k + N' = N ∧ i = .int .i64 (k : Int) ∧ b = .slice A0 n0 c0 ∧ n0 ≤ c0 ∧ n0 ≤ 100000000 ∧ o = .slice Ao k co ∧ z = .slice Az k cz ∧
    Hid (F.length = k) ∧ Hid (p = ((plD N' last R).1, F ++ (plD N' last R).2.1, (plD N' last R).2.2)) ∧ Hid (k = 0 ∧ last = -1 ∨ ∃ id sz, F[k - 1]? = some (id, sz) ∧ last = (id : Int)) ∧
    Hid (wr.ownsRow base 30 2 (.slice Ao k co) k ((F.map emp).flatMap (pcells ridc rtxt))) ∧ Hid (wr.ownsRow base 3 1 (.slice Az k cz) k (F.map (fun p => natc p.2))) ∧ Hid (Rd wr A0 n0 (R.map bytec)) ∧ Hid (∀ ad, 0 < n0 → A0 = some ad → ad.block < base) ∧ Hid (Fr (fun _ => False) w wr)) (fun _ _ _ i _ => N - (intOf i).toNat)
  case atStart => exact ⟨0, N, -1, [], B1, A1, none, none, n1, c1, 0, 0, by omega, rfl, rfl, hc1, hn1, rfl, rfl, rfl, (by rw [HP.out]; rfl : p = ((plD N (-1) B1).1, [] ++ (plD N (-1) B1).2.1, (plD N (-1) B1).2.2)), Or.inl ⟨rfl, rfl⟩, World.ownsRow_nil _ _ _ _, World.ownsRow_nil _ _ _ _, HRD1, HBLK, HF1⟩
  case round =>
    obtain ⟨k, N', last, F, R, A0, Ao, Az, n0, c0, co, cz, hkN, rfl, rfl, hc0, hn0, rfl, rfl, HFL, HI, HLA, HO, HZ, HRD, HBL, HF⟩ := hrel
    rename World => wr
    by_cases hlt : k < N
    · obtain ⟨N', rfl⟩ : ∃ M, N' = M + 1 := ⟨N' - 1, by omega⟩
      have m1 := rnumM_any A0 n0 c0 R wr HRD.out hc0
      have l1 := numD_lt 1048576 R
      obtain ⟨⟨id, k1, e1⟩, hx1⟩ : ∃ x, numD 1048576 R = x := ⟨_, rfl⟩
      rw [hx1] at m1 l1
      simp only at m1 l1
      obtain ⟨C, hC⟩ : ∃ C, C = R.drop k1 := ⟨_, rfl⟩
      obtain ⟨⟨sz, k2, e2⟩, hx2⟩ : ∃ x, numD 1048576 C = x := ⟨_, rfl⟩
      obtain ⟨D, hD⟩ : ∃ D, D = C.drop k2 := ⟨_, rfl⟩
      have hps := pl_step (k := N') (last := last) hx1 hC hx2 hD
      have hI := HI.out
      rw [hps] at hI
      rw [← hC] at m1
      have HI2 := Lib.hid hI
      have HM1 := Lib.hid m1
      have m2 := fun (A : Option Addr) (n c : Nat) (w : World) h hc => rnumM_any A n c C w h hc
      have l2 := numD_lt 1048576 C
      rw [hx2] at m2 l2
      simp only at m2 l2
      rw [← hD] at m2
      have HM2 := Lib.hid m2
      have hid : id ≤ 1048576 := l1.1
      have hsz : sz ≤ 1048576 := l2.1
      clear HI hI m1 m2 hx1 hx2 hC hD hps l1 l2
      go_wp2_with fail
      refine HM1.out.mono ?_
      rintro e w2 ⟨A2, n2, c2, rfl, h2, hf2⟩
      by_cases he1 : e1 ≠ 0
      · have hI := HI2.out
        rw [if_pos he1] at hI
        have hge := HG2.out
        rw [hI, if_pos (show e1 ≠ 0 from he1)] at hge
        have HG3 := Lib.hid hge
        have t1 : ((e1 : Int) != 0) = true := by simp; omega
        have t1' : (e1 != 0) = true := by simp; omega
        have HF2 := Lib.hid (HF.out.trans hf2 (fun _ _ h => h))
        clear hge he1 hf2 h2 hI
        go_wp2_with fail
        refine bodyPost_ret (v := .tuple #[.slice none 0 0, .int .i64 (e1 : Int)]) (by simp [results, Try.results14, go_sem]) rfl ?_
        rw [HG3.out]
        exact ⟨none, 0, rfl, Prs.nil _ _, HF2.out⟩
      have hI := HI2.out
      rw [if_neg he1] at hI
      obtain rfl : e1 = 0 := by omega
      obtain ⟨hrd2, hc2, hn2, hat2⟩ := h2 rfl
      have HI3 := Lib.hid hI
      have HRD2 := Lib.hid hrd2
      have HF2 := Lib.hid (HF.out.trans hf2 (fun _ _ h => h))
      have HO2 := Lib.hid (hf2.own HO.out (fun _ _ h => h))
      have HZ2 := Lib.hid (hf2.own HZ.out (fun _ _ h => h))
      have hbl2 : ∀ ad, 0 < n2 → A2 = some ad → ad.block < base := by
        intro ad h0 e
        obtain ⟨a0, e0, eb⟩ := hat2 ad e
        rw [eb]
        exact HBL.out a0 (by omega) e0
      have HBL2 := Lib.hid hbl2
      clear hI HI2 he1 h2 hrd2 hat2 hf2 HO HZ HRD HBL HF hbl2 HM1
      go_wp2_with fail
      refine (HM2.out A2 n2 c2 w2 HRD2.out hc2).mono ?_
      rintro e w3 ⟨A3, n3, c3, rfl, h3, hf3⟩
      by_cases he2 : e2 ≠ 0
      · have hI := HI3.out
        rw [if_pos he2] at hI
        have hge := HG2.out
        rw [hI, if_pos (show e2 ≠ 0 from he2)] at hge
        have HG3 := Lib.hid hge
        have t1 : ((e2 : Int) != 0) = true := by simp; omega
        have t1' : (e2 != 0) = true := by simp; omega
        have HF3 := Lib.hid (HF2.out.trans hf3 (fun _ _ h => h))
        clear hge he2 hf3 h3 hI
        go_wp2_with fail
        refine bodyPost_ret (v := .tuple #[.slice none 0 0, .int .i64 (e2 : Int)]) (by simp [results, Try.results14, go_sem]) rfl ?_
        rw [HG3.out]
        exact ⟨none, 0, rfl, Prs.nil _ _, HF3.out⟩
      have hI := HI3.out
      rw [if_neg he2] at hI
      obtain rfl : e2 = 0 := by omega
      obtain ⟨hrd3, hc3, hn3, hat3⟩ := h3 rfl
      have HRD3 := Lib.hid hrd3
      have HF3 := Lib.hid (HF2.out.trans hf3 (fun _ _ h => h))
      have HO3 := Lib.hid (hf3.own HO2.out (fun _ _ h => h))
      have HZ3 := Lib.hid (hf3.own HZ2.out (fun _ _ h => h))
      have hbl3 : ∀ ad, 0 < n3 → A3 = some ad → ad.block < base := by
        intro ad h0 e
        obtain ⟨a0, e0, eb⟩ := hat3 ad e
        rw [eb]
        exact HBL2.out a0 (by omega) e0
      have HBL3 := Lib.hid hbl3
      clear HI3 he2 h3 hrd3 hat3 hf3 HO2 HZ2 HRD2 HBL2 HF2 hbl3 HM2
      by_cases hbad : (id : Int) ≤ last ∨ sz = 0
      · have hge := HG2.out
        rw [hI, if_pos hbad, if_pos (show (3 : Nat) ≠ 0 by decide)] at hge
        have HG3 := Lib.hid hge
        clear hI hge
        by_cases hs0 : sz = 0
        · subst hs0
          have t1 : (((0 : Nat) : Int) == 0) = true := rfl
          clear hbad
          go_wp2_with fail
          refine bodyPost_ret (v := .tuple #[.slice none 0 0, .int .i64 3]) (by simp [results, Try.results14, go_sem]) rfl ?_
          rw [HG3.out]
          exact ⟨none, 0, rfl, Prs.nil _ _, HF3.out⟩
        · have hle : (id : Int) ≤ last := hbad.resolve_right hs0
          obtain ⟨id0, sz0, hq0, hl0⟩ : ∃ id sz, F[k - 1]? = some (id, sz) ∧ last = (id : Int) := by
            rcases HLA.out with ⟨_, h⟩ | h
            · omega
            · exact h
          have hk1 := (List.getElem?_eq_some_iff.1 hq0).1
          rw [HFL.out] at hk1
          obtain ⟨k, rfl⟩ : ∃ j, k = j + 1 := ⟨k - 1, by omega⟩
          have t1 : ((sz : Int) == 0) = false := by simp; omega
          have t1' : (sz == 0) = false := by simp; omega
          have t2 : decide ((0 : Int) < ((k + 1 : Nat) : Int)) = true := decide_eq_true (by omega)
          have t2' : decide ((0 : Int) < (k : Int) + 1) = true := decide_eq_true (by omega)
          have t3 : decide ((id : Int) ≤ (id0 : Int)) = true := by simp; omega
          have t3' : decide (id ≤ id0) = true := by simp; omega
          have r1 : IntKind.i64.wrap (((k + 1 : Nat) : Int) - 1) = (k : Int) := by rw [IntKind.wrap_i64] <;> omega
          have r2 : IntKind.i64.wrap ((k : Int) + 1 - 1) = (k : Int) := by rw [IntKind.wrap_i64] <;> omega
          have hprs : Prs ridc rtxt w3 Ao (F.map emp).length (F.map emp) := OwnP.prs (by unfold OwnP; rw [List.length_map, HFL.out]; exact HO3.out)
          obtain ⟨go, oo, rfl, _, g0, _⟩ := hprs.2 k (emp (id0, sz0)) (by rw [List.getElem?_map]; rw [Nat.add_sub_cancel] at hq0; rw [hq0]; rfl)
          have g0' : w3.cell? ⟨go, oo + k * 2, none⟩ = some (.int .i64 (id0 : Int)) := g0
          clear g0 hprs hq0 hl0 hle hs0 hbad HLA HO3 HZ3 hkN hk1
          go_wp2_with fail
          refine bodyPost_ret (v := .tuple #[.slice none 0 0, .int .i64 3]) (by simp [results, Try.results14, go_sem]) rfl ?_
          rw [HG3.out]
          exact ⟨none, 0, rfl, Prs.nil _ _, HF3.out⟩
      · rw [if_neg hbad] at hI
        have HI4 := Lib.hid hI
        have hs0 : sz ≠ 0 := fun h => hbad (Or.inr h)
        have hlast : last < (id : Int) := by
          exact Int.not_le.1 (fun h => hbad (Or.inl h))
        have t1 : ((sz : Int) == 0) = false := by simp; omega
        have t1' : (sz == 0) = false := by simp; omega
        clear hI hbad
        obtain ⟨XO, hXO⟩ : ∃ XO, XO = (F.map emp).flatMap (pcells ridc rtxt) := ⟨_, rfl⟩
        obtain ⟨XZ, hXZ⟩ : ∃ XZ, XZ = F.map (fun p => natc p.2) := ⟨_, rfl⟩
        rw [← hXO] at HO3
        rw [← hXZ] at HZ3
        have HXO := Lib.hid hXO
        have HXZ := Lib.hid hXZ
        obtain ⟨k', hk'⟩ : ∃ k', k' = k + 1 := ⟨_, rfl⟩
        have hk'l : k' ≤ 64 := by omega
        have HK' := Lib.hid hk'
        have HBW : Hid (base ≤ w3.heap.size) := Lib.hid (by have h1 := HB.out; have h2 := HF3.out.size; omega)
        have HCELL : Hid (k = 0 ∨ ∃ (j : Nat) (id0 : Nat) (go oo : Nat), k = j + 1 ∧ Ao = some ⟨go, oo, none⟩ ∧ w3.cell? ⟨go, oo + j * 2, none⟩ = some (.int .i64 (id0 : Int)) ∧ id0 < id) := Lib.hid (by
          rcases HLA.out with ⟨h, _⟩ | ⟨id0, sz0, hq0, hl0⟩
          · exact Or.inl h
          · have hk1 := (List.getElem?_eq_some_iff.1 hq0).1
            rw [HFL.out] at hk1
            have hprs : Prs ridc rtxt w3 Ao (F.map emp).length (F.map emp) := OwnP.prs (by unfold OwnP; rw [List.length_map, HFL.out, ← HXO.out]; exact HO3.out)
            obtain ⟨go, oo, e, _, g0, _⟩ := hprs.2 (k - 1) (emp (id0, sz0)) (by rw [List.getElem?_map, hq0]; rfl)
            exact Or.inr ⟨k - 1, id0, go, oo, by omega, e, g0, by omega⟩)
        clear hXO hXZ hk' HLA hlast hs0
        have rest : ∀ (w6 w7 : World) (A6 A7 : Option Addr) (c6 c7 : Nat), w6.ownsRow base 30 2 (.slice A6 k' c6) k' (XO ++ [.int .i64 (id : Int), .string ⟨#[]⟩]) →
            Fr (fun k_1 => (Value.slice Ao k co).ownBlock = some k_1) (w3.alloc (.cells #[.int .i64 (id : Int), .string ⟨#[]⟩] 30)) w6 →
            w7.ownsRow base 3 1 (.slice A7 k' c7) k' (XZ ++ [.int .i64 (sz : Int)]) → Fr (fun k_1 => (Value.slice Az k cz).ownBlock = some k_1) (w6.alloc (.cells #[.int .i64 (sz : Int)] 3)) w7 →
            Hid (w7.ownsRow base 30 2 (.slice A6 k' c6) k' (((F ++ [(id, sz)]).map emp).flatMap (pcells ridc rtxt))) ∧ Hid (w7.ownsRow base 3 1 (.slice A7 k' c7) k' ((F ++ [(id, sz)]).map (fun p => natc p.2))) ∧ Hid (Rd w7 A3 n3 (D.map bytec)) ∧ Hid (Fr (fun _ => False) w w7) := by
          intro w6 w7 A6 A7 c6 c7 h1 h2 h3 h4
          have hfa : Fr (fun _ => False) w3 (w3.alloc (.cells #[.int .i64 (id : Int), .string ⟨#[]⟩] 30)) := (Fr.refl _ _).alloc _
          have hfb : Fr (fun _ => False) w6 (w6.alloc (.cells #[.int .i64 (sz : Int)] 3)) := (Fr.refl _ _).alloc _
          have hz6 := h2.own (hfa.own HZ3.out (fun _ _ h => h)) (fun b hb e => own_two (hfa.own HO3.out (fun _ _ h => h)) (hfa.own HZ3.out (fun _ _ h => h)) (by decide) e hb)
          have hlo : ∀ b, (Value.slice Ao k co).ownBlock = some b → base ≤ b := fun b hb => (HO3.out.lt b hb).1
          have hlz : ∀ b, (Value.slice Az k cz).ownBlock = some b → base ≤ b := fun b hb => (HZ3.out.lt b hb).1
          refine ⟨Lib.hid ?_, Lib.hid ?_, Lib.hid ?_, Lib.hid ?_⟩
          · have h5 := h4.own (hfb.own h1 (fun _ _ h => h)) (fun b hb e => own_two (hfb.own hz6 (fun _ _ h => h)) (hfb.own h1 (fun _ _ h => h)) (by decide) e hb)
            rw [List.map_append, List.flatMap_append, ← HXO.out]
            exact h5
          · rw [List.map_append, ← HXZ.out]
            exact h3
          · refine ((((HRD3.out.fr hfa (fun _ _ h => h)).frp h2 (fun hn ad e h => ?_)).fr hfb (fun _ _ h => h)).frp h4 (fun hn ad e h => ?_))
            · have h6 := HBL3.out ad hn e
              have h7 := hlo _ h
              omega
            · have h6 := HBL3.out ad hn e
              have h7 := hlz _ h
              omega
          · exact (((HF3.out.trans hfa (fun _ _ h => h)).trans h2 (fun b hb h => by have h7 := hlo _ h; have := HB.out; omega)).trans hfb (fun _ _ h => h)).trans h4 (fun b hb h => by have h7 := hlz _ h; have := HB.out; omega)
        have HREST := Lib.hid rest
        clear rest
        have oapp : ∀ (w : World), True := fun _ => trivial
        rcases HCELL.out with hk0 | ⟨j, id0, go, oo, hkj, hAo, g0, hlt0⟩
        · subst hk0
          clear HCELL
          go_wp2_with (at_builtin; refine wpList_appS2 rcTS _ rfl _ _ rfl base _ _ _ rfl (HO3.out.alloc _) _ _ [.int .i64 (id : Int), .string ⟨#[]⟩] rfl rfl (new_at (by simp) [.int .i64 (id : Int), .string ⟨#[]⟩] _) (by intro u hu; simp at hu; rcases hu with rfl | rfl <;> rfl) k' HK'.out (by unfold maxLen; omega) (by omega) (by have h1 := HBW.out; simp; omega) ?_)
          intro A6 c6 w6 hown6 _ hfr6 _
          have HOW6 := Lib.hid hown6
          have HFR6 := Lib.hid hfr6
          have hz6 : w6.ownsRow base 3 1 (.slice Az _ cz) _ XZ := hfr6.own (HZ3.out.alloc _) (fun b hb e => own_two HO3.out HZ3.out (by decide) e hb)
          have HZ6 := Lib.hid hz6
          have HBW6 : Hid (base ≤ w6.heap.size) := Lib.hid (by have h1 := HBW.out; have h2 := hfr6.size; simp at h2; omega)
          clear hown6 hfr6 hz6
          go_wp2_with (at_builtin; refine wpList_appS2 intS16 _ rfl _ _ rfl base _ _ _ rfl (HZ6.out.alloc _) _ _ [.int .i64 (sz : Int)] rfl rfl (new_at (by simp) [.int .i64 (sz : Int)] _) (by intro u hu; simp at hu; subst hu; rfl) k' HK'.out (by unfold maxLen; omega) (by omega) (by have h1 := HBW6.out; simp; omega) ?_)
          intro A7 c7 w7 hown7 _ hfr7 _
          obtain ⟨HO7, HZ7, HRD7, HF7⟩ := HREST.out w6 w7 A6 A7 c6 c7 HOW6.out HFR6.out hown7 hfr7
          clear hown7 hfr7
          have hkk : k' = 0 + 1 := HK'.out
          go_wp2_with fail
          go_roundw
          case rel =>
            refine ⟨0 + 1, N', id, F ++ [(id, sz)], D, A3, A6, A7, n3, c3, c6, c7, by omega, by go_num, by rfl, hc3, by omega, by rw [hkk], by rw [hkk], ?_, ?_, ?_, by rw [← hkk]; exact HO7, by rw [← hkk]; exact HZ7, HRD7, HBL3, HF7⟩
            · exact Lib.hid (by rw [List.length_append, HFL.out]; rfl)
            · exact Lib.hid (by rw [HI4.out]; simp)
            · exact Lib.hid (Or.inr ⟨id, sz, by rw [Nat.add_sub_cancel, List.getElem?_append_right (by have := HFL.out; omega), HFL.out, Nat.sub_self]; rfl, rfl⟩)
          case measure => simp [intOf]; omega
        · subst hkj hAo
          have t2 : decide ((0 : Int) < ((j + 1 : Nat) : Int)) = true := decide_eq_true (by omega)
          have t2' : decide ((0 : Int) < (j : Int) + 1) = true := decide_eq_true (by omega)
          have t3 : decide ((id : Int) ≤ (id0 : Int)) = false := by simp; omega
          have t3' : decide (id ≤ id0) = false := by simp; omega
          have r1 : IntKind.i64.wrap (((j + 1 : Nat) : Int) - 1) = (j : Int) := by rw [IntKind.wrap_i64] <;> omega
          have r2 : IntKind.i64.wrap ((j : Int) + 1 - 1) = (j : Int) := by rw [IntKind.wrap_i64] <;> omega
          clear HCELL
          go_wp2_with (at_builtin; refine wpList_appS2 rcTS _ rfl _ _ rfl base _ _ _ rfl (HO3.out.alloc _) _ _ [.int .i64 (id : Int), .string ⟨#[]⟩] rfl rfl (new_at (by simp) [.int .i64 (id : Int), .string ⟨#[]⟩] _) (by intro u hu; simp at hu; rcases hu with rfl | rfl <;> rfl) k' HK'.out (by unfold maxLen; omega) (by omega) (by have h1 := HBW.out; simp; omega) ?_)
          intro A6 c6 w6 hown6 _ hfr6 _
          have HOW6 := Lib.hid hown6
          have HFR6 := Lib.hid hfr6
          have hz6 : w6.ownsRow base 3 1 (.slice Az _ cz) _ XZ := hfr6.own (HZ3.out.alloc _) (fun b hb e => own_two HO3.out HZ3.out (by decide) e hb)
          have HZ6 := Lib.hid hz6
          have HBW6 : Hid (base ≤ w6.heap.size) := Lib.hid (by have h1 := HBW.out; have h2 := hfr6.size; simp at h2; omega)
          clear hown6 hfr6 hz6
          go_wp2_with (at_builtin; refine wpList_appS2 intS16 _ rfl _ _ rfl base _ _ _ rfl (HZ6.out.alloc _) _ _ [.int .i64 (sz : Int)] rfl rfl (new_at (by simp) [.int .i64 (sz : Int)] _) (by intro u hu; simp at hu; subst hu; rfl) k' HK'.out (by unfold maxLen; omega) (by omega) (by have h1 := HBW6.out; simp; omega) ?_)
          intro A7 c7 w7 hown7 _ hfr7 _
          obtain ⟨HO7, HZ7, HRD7, HF7⟩ := HREST.out w6 w7 A6 A7 c6 c7 HOW6.out HFR6.out hown7 hfr7
          clear hown7 hfr7
          have hkk : k' = j + 1 + 1 := HK'.out
          go_wp2_with fail
          go_roundw
          case rel =>
            refine ⟨j + 1 + 1, N', id, F ++ [(id, sz)], D, A3, A6, A7, n3, c3, c6, c7, by omega, by go_num, by rfl, hc3, by omega, by rw [hkk], by rw [hkk], ?_, ?_, ?_, by rw [← hkk]; exact HO7, by rw [← hkk]; exact HZ7, HRD7, HBL3, HF7⟩
            · exact Lib.hid (by rw [List.length_append, HFL.out]; rfl)
            · exact Lib.hid (by rw [HI4.out]; simp)
            · exact Lib.hid (Or.inr ⟨id, sz, by rw [Nat.add_sub_cancel, List.getElem?_append_right (by have := HFL.out; omega), HFL.out, Nat.sub_self]; rfl, rfl⟩)
          case measure => simp [intOf]; omega
    · obtain ⟨rfl, rfl⟩ : k = N ∧ N' = 0 := ⟨by omega, by omega⟩
      have hp0 : p = (0, F, R) := by rw [HI.out]; simp [plD]
      have hq0 := HQ.out
      rw [hp0] at hq0
      simp only at hq0
      have hge := HG2.out
      rw [hp0, if_neg (by simp)] at hge
      have HQ0 := Lib.hid hq0
      have HG3 := Lib.hid hge
      have HZL := HZ
      clear HI HLA HP HQ HG2 hp0 hq0 hge hkN hlt HNU HBLK HRD1 HF1
      go_wp2_with fail
      go_loopw [0, 15] (fun b i wr => ∃ (j : Nat) (L : List Col) (R : List UInt8) (A0 : Option Addr) (n0 c0 : Nat), j ≤ k ∧ i = .int .i64 (j : Int) ∧ b = .slice A0 n0 c0 ∧ n0 ≤ c0 ∧ n0 ≤ 100000000 ∧
        Hid (L.length = j) ∧ Hid (q = ((coD (F.drop j) R).1, L ++ (coD (F.drop j) R).2.1, (coD (F.drop j) R).2.2)) ∧ Hid (wr.ownsRow base 30 2 (.slice Ao k co) k ((L ++ (F.drop j).map emp).flatMap (pcells ridc rtxt))) ∧
        Hid (wr.ownsRow base 3 1 (.slice Az k cz) k (F.map (fun p => natc p.2))) ∧ Hid (Rd wr A0 n0 (R.map bytec)) ∧ Hid (∀ ad, 0 < n0 → A0 = some ad → ad.block < base) ∧ Hid (Fr (fun _ => False) w wr)) (fun _ i _ => k - (intOf i).toNat)
      case atStart => exact ⟨0, [], R, A0, n0, c0, Nat.zero_le _, rfl, rfl, hc0, hn0, rfl, (by rw [HQ0.out]; rfl : q = ((coD (F.drop 0) R).1, [] ++ (coD (F.drop 0) R).2.1, (coD (F.drop 0) R).2.2)), HO, HZ, HRD, HBL, HF⟩
      case round =>
        clear HO HZ HRD HBL HF HQ0 hc0 hn0 HZL
        obtain ⟨j, L, R, A0, n0, c0, hj, rfl, rfl, hc0, hn0, HL, HI, HO, HZ, HRD, HBL, HF⟩ := hrel
        rename World => wr
        have hRl : R.length = n0 := by simpa using HRD.out.1
        have HRL := Lib.hid hRl
        clear hRl
        by_cases hlt : j < k
        · obtain ⟨⟨id, sz⟩, hq⟩ : ∃ x, F[j]? = some x := ⟨_, List.getElem?_eq_getElem (by have := HFL.out; omega)⟩
          have hdr : F.drop j = (id, sz) :: F.drop (j + 1) := by
            rw [List.drop_eq_getElem_cons (by have := HFL.out; omega)]
            congr 1
            exact (List.getElem?_eq_some_iff.1 hq).2
          have hI := HI.out
          rw [hdr, co_step, HRL.out] at hI
          obtain ⟨gz, rfl, z0, _⟩ := own_at HZ.out (i := j) (u := natc sz) (by rw [List.getElem?_map, hq]; rfl)
          have z0' : wr.cell? ⟨gz, j, none⟩ = some (.int .i64 (sz : Int)) := z0
          have HI2 := Lib.hid hI
          have HDR := Lib.hid hdr
          clear hI hdr hq z0 HI
          by_cases hs : n0 < sz
          · have hI := HI2.out
            rw [if_pos hs] at hI
            have hge := HG3.out
            rw [hI, if_pos (show (2 : Nat) ≠ 0 by decide)] at hge
            have HG4 := Lib.hid hge
            have t1 : decide ((n0 : Int) < (sz : Int)) = true := decide_eq_true (by omega)
            have t1' : decide (n0 < sz) = true := decide_eq_true hs
            clear hI hge hs
            go_wp2_with fail
            refine bodyPost_ret (v := .tuple #[.slice none 0 0, .int .i64 2]) (by simp [results, Try.results14, go_sem]) rfl ?_
            rw [HG4.out]
            first | exact ⟨none, 0, rfl, Prs.nil _ _, HF.out⟩ | exact ⟨none, ⟨0, rfl⟩, Prs.nil _ _, HF.out⟩
          · have hI := HI2.out
            rw [if_neg hs] at hI
            have t1 : decide ((n0 : Int) < (sz : Int)) = false := decide_eq_false (by omega)
            have t1' : decide (n0 < sz) = false := decide_eq_false hs
            have hsn : sz ≤ n0 := by omega
            have hsc : sz ≤ c0 := by omega
            obtain ⟨X, hX⟩ : ∃ X, X = R.take sz := ⟨_, rfl⟩
            have htk := rd_take HRD.out hsn
            rw [← List.map_take, ← hX] at htk
            have hcv := str_rd htk c0
            obtain ⟨go, hAo, hgo, hfz, hce⟩ := own2_at HO.out (by omega)
            have f1 := hfz (j * 2 + 1)
            have o1 : wr.cell? ⟨go, j * 2 + 1, none⟩ = some (.string ⟨#[]⟩) := hce _ _ (by
              have h := flat_k (pcells ridc rtxt) 2 (fun _ => rfl) (L ++ (F.drop j).map emp) j (emp (id, sz)) (by rw [List.getElem?_append_right (by have := HL.out; omega), HL.out, Nat.sub_self, HDR.out]; rfl) 1 (by omega)
              exact h)
            obtain ⟨w5, hw5⟩ : ∃ w5, wr.setCell ⟨go, j * 2 + 1, none⟩ (.string (txt X)) = w5 := ⟨_, rfl⟩
            have hf5 : Fr (fun b => b = go) wr w5 := by rw [← hw5]; exact Fr.set1 _ _ _ _
            subst hAo
            have ho5 : w5.ownsRow base 30 2 (.slice (some ⟨go, 0, none⟩) k co) k (((L ++ [(id, X)]) ++ (F.drop (j + 1)).map emp).flatMap (pcells ridc rtxt)) := by
              have h := (HO.out.stored (j * 2 + 1) (.string (txt X))).1
              rw [hw5] at h
              have e := pcells_set (p := ridc) (q := rtxt) (L ++ (F.drop j).map emp) j (emp (id, sz)) (id, X) (by rw [List.getElem?_append_right (by have := HL.out; omega), HL.out, Nat.sub_self, HDR.out]; rfl) rfl
              have e2 : (L ++ (F.drop j).map emp).set j (id, X) = (L ++ [(id, X)]) ++ (F.drop (j + 1)).map emp := by
                rw [List.set_append_right _ _ (by have := HL.out; omega), HL.out, Nat.sub_self, HDR.out]
                simp
              rw [e2] at e
              rw [← e]
              exact h
            have hz5 : w5.ownsRow base 3 1 (.slice (some ⟨gz, 0, none⟩) k cz) k (F.map (fun p => natc p.2)) := hf5.own HZ.out (fun b hb h => own_two HO.out HZ.out (by decide) (k := go) rfl (by rw [← h]; exact hb))
            obtain ⟨_, hgz, z1, _⟩ := own_at hz5 (i := j) (u := natc sz) (by
              have h : (F.drop j)[0]? = some (id, sz) := by rw [HDR.out]; rfl
              rw [List.getElem?_drop, Nat.add_zero] at h
              rw [List.getElem?_map, h]; rfl)
            injection hgz with hgz
            injection hgz with hgz _
            rw [← hgz] at z1
            have z1' : w5.cell? ⟨gz, j, none⟩ = some (.int .i64 (sz : Int)) := z1
            have hrd5 := HRD.out.frp hf5 (fun h0 ad e h => by have h1 := HBL.out ad h0 e; have h2 : ad.block = go := h; omega)
            have hcut := hrd5.cut hsn (Nat.le_refl n0) hc0
            rw [List.take_of_length_le (by simp [HRL.out]), ← List.map_drop] at hcut
            have hf6 : Fr (fun _ => False) w w5 := HF.out.trans hf5 (fun b hb h => by have h1 : b = go := h; have := HB.out; omega)
            have HI3 : Hid (q = ((coD (F.drop (j + 1)) (R.drop sz)).1, (L ++ [(id, X)]) ++ (coD (F.drop (j + 1)) (R.drop sz)).2.1, (coD (F.drop (j + 1)) (R.drop sz)).2.2)) := Lib.hid (by rw [hI, hX]; simp)
            have hbl : ∀ ad, 0 < n0 - sz → (if c0 = sz then A0 else A0.map (·.add sz)) = some ad → ad.block < base := by
              intro ad h0 e
              split at e
              · exact HBL.out ad (by omega) e
              · cases A0 with
                | none => cases e
                | some a0 =>
                  simp at e
                  subst e
                  rw [add_block]
                  exact HBL.out a0 (by omega) rfl
            have HO5 := Lib.hid ho5
            have HZ5 := Lib.hid hz5
            have HC5 := Lib.hid hcut
            have HB5 := Lib.hid hbl
            have HF6 := Lib.hid hf6
            have HL5 : Hid ((L ++ [(id, X)]).length = j + 1) := Lib.hid (by rw [List.length_append, HL.out]; rfl)
            clear hI hs htk hX hgo hfz hce hf5 ho5 hz5 z1 hrd5 hcut hf6 hbl HI2 hgz
            by_cases hck : c0 = sz
            · rw [if_pos hck] at HC5 HB5
              have hn00 : n0 - sz = 0 := by omega
              rw [hn00] at HC5 HB5
              subst hck
              go_wp2_with fail
              go_roundw
              case rel => exact ⟨j + 1, L ++ [(id, X)], R.drop c0, A0, 0, 0, by omega, by go_num, by rfl, Nat.le_refl _, Nat.zero_le _, HL5, HI3, HO5, HZ5, HC5, HB5, HF6⟩
              case measure => simp [intOf]; omega
            · rw [if_neg hck] at HC5 HB5
              go_wp2_with fail
              go_roundw
              case rel => exact ⟨j + 1, L ++ [(id, X)], R.drop sz, A0.map (·.add sz), n0 - sz, c0 - sz, by omega, by go_num, by rfl, by omega, by omega, HL5, HI3, HO5, HZ5, HC5, HB5, HF6⟩
              case measure => simp [intOf]; omega
        · obtain rfl : j = k := by omega
          have hq0 : q = (0, L, R) := by rw [HI.out, List.drop_of_length_le (by have := HFL.out; omega)]; simp [coD]
          have hge := HG3.out
          rw [hq0, if_neg (by simp)] at hge
          simp only [HRL.out] at hge
          have hprs : Prs ridc rtxt wr Ao L.length L := OwnP.prs (base := base) (T := 30) (c := co) (by
            have h := HO.out
            rw [List.drop_of_length_le (by have := HFL.out; omega), List.map_nil, List.append_nil] at h
            unfold OwnP
            rw [HL.out]
            exact h)
          have HPR := Lib.hid hprs
          by_cases h0 : 0 < n0
          · rw [if_pos h0] at hge
            have HG4 := Lib.hid hge
            have t1 : decide ((0 : Int) < (n0 : Int)) = true := decide_eq_true (by omega)
            have t1' : decide (0 < n0) = true := decide_eq_true h0
            clear hge h0 hq0 HI HO HZ HRD hprs
            go_wp2_with fail
            refine bodyPost_ret (v := .tuple #[.slice none 0 0, .int .i64 3]) (by simp [results, Try.results14, go_sem]) rfl ?_
            rw [HG4.out]
            exact ⟨none, 0, rfl, Prs.nil _ _, HF.out⟩
          · rw [if_neg h0] at hge
            have HG4 := Lib.hid hge
            have t1 : decide ((0 : Int) < (n0 : Int)) = false := decide_eq_false (by omega)
            have t1' : decide (0 < n0) = false := decide_eq_false h0
            clear hge h0 hq0 HI HO HZ HRD hprs
            go_wp2_with fail
            refine bodyPost_ret (v := .tuple #[.slice Ao j co, .int .i64 0]) (by simp [results, Try.results14, go_sem]) rfl ?_
            rw [HG4.out]
            exact ⟨Ao, co, by rw [HL.out]; rfl, HPR.out, HF.out⟩
end Go.Proofs.Ytfgjneodhmfknaa
