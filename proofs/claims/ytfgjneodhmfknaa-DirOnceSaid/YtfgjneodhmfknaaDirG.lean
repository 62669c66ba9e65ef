/-
  Layer 16, the program: columns (written by gen_cols.py).
-/
import Derived.Test.YtfgjneodhmfknaaDirF
import Derived.Deep.DeepCutAuto
import Derived.Deep.CutRange
namespace Go.Proofs.Ytfgjneodhmfknaa
open Go.RowKit Mem Go.Lib LebM DirM
attribute [local go_sem ↓] Go.wp_at_zero Go.wp_at_succ
set_option linter.unusedVariables false

/-- the columns, as the reader has them -/
def St.cols : List (Nat × Nat) → St → List Col × St
  | [], s => ([], s)
  | p :: P, s => ((p.1, (s.byt p.2).1) :: (St.cols P (s.byt p.2).2).1, (St.cols P (s.byt p.2).2).2)
theorem plaSz : (Try.prog.info? 67).map (·.size) = some 2 := by kernel_rfl
theorem St.byt_len (s : St) (n : Nat) : (s.byt n).1.length ≤ n := by
  unfold St.byt
  split
  · simp
  · split
    · simp
    · simp; omega
set_option maxRecDepth 100000 in
set_option maxHeartbeats 6400000 in
theorem columns_any (g b : Nat) (s : St) (A : Option Addr) (c : Nat) (P : List (Nat × Nat)) (w : World) (h : Rdm w g s) (hP : OwnP pid psz 67 w b A c P) (hgb : g < b) (hn : P.length ≤ 1000) (hp : ∀ q ∈ P, q.2 ≤ 1048576) :
    Calls Try.prog 21 #[.pointer (some ⟨g, 0, none⟩), .slice A P.length c] w fun e w' => ∃ A' c' L, e = .returned (.slice A' L.length c') ∧ OwnP idc dac 45 w' w.heap.size A' c' L ∧ (∀ x ∈ L, Own w' w.heap.size x.A x.c x.B) ∧ L.map Cl.v = (s.cols P).1 ∧ Rdm w' g (s.cols P).2 ∧ Fr (fun k => k = g) w w' := by
  have hg : g < w.heap.size := by obtain ⟨A, n, c, h1, _⟩ := h; exact Row.lt h1
  obtain ⟨n, hnn⟩ : ∃ n, P.length = n := ⟨_, rfl⟩
  obtain ⟨base, hbase⟩ : ∃ base, base = w.heap.size := ⟨_, rfl⟩
  rw [← hbase] at hg ⊢
  rw [hnn] at hn ⊢
  have HB := Lib.hid hbase
  have HG := Lib.hid hg
  have HS := Lib.hid h
  have HP := Lib.hid hP
  have HGB := Lib.hid hgb
  have HPL := Lib.hid hp
  have HNN := Lib.hid hnn
  clear h hP hbase hg hgb hp hnn
  go_enter Try.func21, Try.ntmps21
  go_wp2_with fail
  go_loopw [5, 10] (fun l v wr => ∃ (k : Nat) (L : List Cl) (r : St) (A1 : Option Addr) (c1 : Nat), k ≤ n ∧ v = .int .i64 (k : Int) ∧ l = .slice A1 k c1 ∧ Hid (L.length = k) ∧
    Hid (s.cols P = (L.map Cl.v ++ (r.cols (P.drop k)).1, (r.cols (P.drop k)).2)) ∧ Hid (OwnP idc dac 45 wr base A1 c1 L) ∧ Hid (∀ x ∈ L, Own wr base x.A x.c x.B) ∧ Hid (Rdm wr g r) ∧ Hid (Fr (fun k => k = g) w wr)) (fun _ v _ => n - (intOf v).toNat)
  case atStart => exact ⟨0, [], s, none, 0, Nat.zero_le _, rfl, rfl, rfl, (by simp : s.cols P = ([] ++ (s.cols (P.drop 0)).1, (s.cols (P.drop 0)).2)), OwnP.nil _ _ _, (fun x hx => by simp at hx), HS, Fr.refl _ _⟩
  case round =>
    obtain ⟨k, L, r, A1, c1, hk, rfl, rfl, HLN, HI, HO, HD, HS, HF⟩ := hrel
    rename World => wr
    by_cases hlt : k < n
    · obtain ⟨q, hq⟩ : ∃ q, P[k]? = some q := ⟨_, List.getElem?_eq_getElem (by have := HNN.out; omega)⟩
      have hPw := HP.out.frS HF.out (fun k hk h => by have := HGB.out; omega)
      obtain ⟨gx, ox, rfl, hgx, h0, h1⟩ := hPw.prs.2 k q hq
      simp only [pid, psz] at h0 h1
      have hq2 := HPL.out q (List.mem_of_getElem? hq)
      have hI := HI.out
      rw [List.drop_eq_getElem_cons (by have := HNN.out; omega), show P[k]'(by have := HNN.out; omega) = q by have := List.getElem?_eq_some_iff.1 hq; exact this.2] at hI
      obtain ⟨id, sz⟩ := q
      simp only at h0 h1 hq2
      have hI2 : s.cols P = (L.map Cl.v ++ (id, (r.byt sz).1) :: ((r.byt sz).2.cols (P.drop (k + 1))).1, ((r.byt sz).2.cols (P.drop (k + 1))).2) := hI
      obtain ⟨p, hp⟩ : ∃ p, wr.heap.size = p := ⟨_, rfl⟩
      obtain ⟨w1, hw1⟩ : ∃ w1, wr.alloc (.cells #[.int .i64 0, .int .i64 0] 67) = w1 := ⟨_, rfl⟩
      have hf1 : Fr (fun _ => False) wr w1 := by rw [← hw1]; exact (Fr.refl _ _).alloc _
      have hr1 : Row w1 p 67 [.int .i64 0, .int .i64 0] := by rw [← hw1, ← hp]; exact Row.new wr _ _
      have HW1 := Lib.hid hr1
      have HPP := Lib.hid hp
      have HF1 := Lib.hid hf1
      have HI2 := Lib.hid hI2
      clear hq hPw hI hI2 hr1 hf1
      go_upto_region 5 with (refine store_st plaSz rfl (.tmp 7) (.tmp 13) rfl p (by rfl) [.int .i64 (id : Int), .int .i64 (sz : Int)] (by rfl) _ _ HW1.out rfl rfl (by simp [Value.oneCell']) ?_)
      intro w2 hr2 hf2
      have k0 : w2.cell? ⟨p, 0, none⟩ = some (.int .i64 (id : Int)) := hr2.cell rfl
      have k1 : w2.cell? ⟨p, 1, none⟩ = some (.int .i64 (sz : Int)) := hr2.cell rfl
      have hfr2 : Fr (fun _ => False) wr w2 := HF1.out.trans hf2 (fun b hb h => by have := HPP.out; omega)
      have HFR2 := Lib.hid hfr2
      have hpg : Hid (base ≤ p) := Lib.hid (by have h1 := HB.out; have h2 := HF.out.size; have := HPP.out; omega)
      have HS2 : Hid (Rdm w2.drew g r) := Lib.hid (by
        obtain ⟨A, n, c, q1, q2, q3, q4, q5⟩ := HS.out
        exact ⟨A, n, c, (Row.fr q1 hfr2 (fun h => h)).drew, (q2.fr hfr2 (fun _ _ h => h)).drew, q3, q4, q5⟩)
      have hby := fun w h => bytes_any g r sz w h hq2
      obtain ⟨B3, hB3⟩ : ∃ B3, B3 = (r.byt sz).1 := ⟨_, rfl⟩
      obtain ⟨r3, hr3⟩ : ∃ r3, r3 = (r.byt sz).2 := ⟨_, rfl⟩
      obtain ⟨z, hz⟩ : ∃ z, B3.length = z := ⟨_, rfl⟩
      rw [← hB3, ← hr3] at HI2 hby
      have HBY := Lib.hid hby
      have HZ := Lib.hid hz
      have hkeep : ∀ w', Fr (fun k => k = g) w2.drew w' → w'.cell? ⟨p, 0, none⟩ = some (.int .i64 (id : Int)) ∧ w'.cell? ⟨p, 1, none⟩ = some (.int .i64 (sz : Int)) := fun w' hf => ⟨hf.cell k0 (fun h => by have h1 : p = g := h; have := hpg.out; have := HG.out; omega), hf.cell k1 (fun h => by have h1 : p = g := h; have := hpg.out; have := HG.out; omega)⟩
      have HKEEP := Lib.hid hkeep
      obtain ⟨XS, hXS⟩ : ∃ XS, XS = L.flatMap (pcells idc dac) := ⟨_, rfl⟩
      have hOx : w2.ownsRow base 45 2 (.slice A1 k c1) k XS := by
        rw [hXS, ← HLN.out]; have h := HO.out.fr hfr2; unfold OwnP at h; exact h
      have hko : ∀ w', Fr (fun k => k = g) w2.drew w' → w'.ownsRow base 45 2 (.slice A1 k c1) k XS := fun w' hf => hf.own (w := w2.drew) hOx (fun k hk h => by have h1 := (hOx.lt k hk).1; have := HG.out; have h2 : k = g := h; omega)
      have HKO := Lib.hid hko
      have HPR : Hid (¬ (Value.slice A1 k c1).ownBlock = some p) := Lib.hid (fun h => by
        have h1 := (HO.out.lt p (by rw [HLN.out]; exact h)).2
        have := HPP.out; omega)
      obtain ⟨N1, hN1⟩ : ∃ N1, N1 = k + 1 := ⟨_, rfl⟩
      have hN1l : N1 ≤ 1001 := by omega
      have HN1 := Lib.hid hN1
      have HXS := Lib.hid hXS
      have HBW : Hid (base ≤ w2.heap.size) := Lib.hid (by have h1 := HB.out; have h2 := HF.out.size; have h3 := hfr2.size; omega)
      have HFW2 := Lib.hid (HF.out.trans hfr2 (fun _ _ h => h.elim))
      have HD2 : Hid (∀ x ∈ L, Own w2 base x.A x.c x.B) := Lib.hid (fun x hx => (HD.out x hx).fr hfr2)
      clear hr2 hf2 hw1 hp h0 h1 hfr2 hby hB3 hr3 hz hkeep hXS hOx hko hN1 hgx
      go_upto_region 5 with fail
      refine wp_region_held_drew (S := fun w' => w'.cell? ⟨p, 0, none⟩ = some (.int .i64 (id : Int)) ∧ w'.cell? ⟨p, 1, none⟩ = some (.int .i64 (sz : Int))) (by kernel_rfl) ?_ (fun hHeld => ?_)
      · exact ⟨k0, k1⟩
      refine wpAnyH_take (i := 0) (v := ?va0) rfl (by kernel_rfl) (by kernel_rfl) (by kernel_rfl) (fun _ _ _ h => h) (Or.inl ⟨by rfl, ?hya0⟩) hHeld ?resta0
      case hya0 => intro w hSw; (try dsimp only at hSw); go_simp; try (with_reducible rfl)
      (try simp only [Act.put, List.setIfInBounds_toArray, List.set_cons_zero, List.set_cons_succ, List.getElem_toArray, List.getElem_cons_zero])
      refine wpAnyH_take (i := 1) (v := ?va1) rfl (by kernel_rfl) (by kernel_rfl) (by kernel_rfl) (fun _ _ _ h => h) (Or.inl ⟨by rfl, ?hya1⟩) hHeld ?resta1
      case hya1 => intro w hSw; (try dsimp only at hSw); go_simp; try (with_reducible rfl)
      (try simp only [Act.put, List.setIfInBounds_toArray, List.set_cons_zero, List.set_cons_succ, List.getElem_toArray, List.getElem_cons_zero, List.getElem_cons_succ])
      refine wpAnyH_take (i := 2) (v := ?va2) rfl (by kernel_rfl) (by kernel_rfl) (by kernel_rfl) (fun _ _ _ h => h) (Or.inl ⟨by rfl, ?hya2⟩) hHeld ?resta2
      case hya2 => intro w hSw; (try dsimp only at hSw); go_simp; try (with_reducible rfl)
      (try simp only [Act.put, List.setIfInBounds_toArray, List.set_cons_zero, List.set_cons_succ, List.getElem_toArray, List.getElem_cons_zero, List.getElem_cons_succ])
      refine wpAnyH_take (i := 3) (v := ?va3) rfl (by kernel_rfl) (by kernel_rfl) (by kernel_rfl) (fun _ _ _ h => h) (Or.inl ⟨by rfl, ?hya3⟩) hHeld ?resta3
      case hya3 => intro w hSw; (try dsimp only at hSw); go_simp; try (with_reducible rfl)
      (try simp only [Act.put, List.setIfInBounds_toArray, List.set_cons_zero, List.set_cons_succ, List.getElem_toArray, List.getElem_cons_zero, List.getElem_cons_succ])
      refine wpAnyH_take (i := 4) (v := ?va4) rfl (by kernel_rfl) (by kernel_rfl) (by kernel_rfl) (fun _ _ _ h => h) (Or.inl ⟨by rfl, ?hya4⟩) hHeld ?resta4
      case hya4 => intro w hSw; (try dsimp only at hSw); go_simp; try (with_reducible rfl)
      (try simp only [Act.put, List.setIfInBounds_toArray, List.set_cons_zero, List.set_cons_succ, List.getElem_toArray, List.getElem_cons_zero, List.getElem_cons_succ])
      refine wpAnyH_take (i := 5) (v := ?va5) rfl (by kernel_rfl) (by kernel_rfl) (by kernel_rfl) (fun _ _ _ h => h) (Or.inl ⟨by rfl, ?hya5⟩) hHeld ?resta5
      case hya5 => intro w hSw; (try dsimp only at hSw); go_simp; try (with_reducible rfl)
      (try simp only [Act.put, List.setIfInBounds_toArray, List.set_cons_zero, List.set_cons_succ, List.getElem_toArray, List.getElem_cons_zero, List.getElem_cons_succ])
      refine wpAnyH_ready (rs := [6]) (by kernel_rfl) (by simp) ?_
      refine AllReadyH.cons rfl (fun Kx hKx => ?_) AllReadyH.nil
      go_simp
      refine (HBY.out _ HS2.out).mono ?_
      rintro e w3 ⟨A3, c3, rfl, ho3, hs3, hf3⟩
      rw [HZ.out]
      have HK3 : Hid (w3.cell? ⟨p, 0, none⟩ = some (.int .i64 (id : Int)) ∧ w3.cell? ⟨p, 1, none⟩ = some (.int .i64 (sz : Int))) := Lib.hid (HKEEP.out w3 hf3)
      have HO3 := Lib.hid (HKO.out w3 hf3)
      have HD3 := Lib.hid ho3
      have HS3 := Lib.hid hs3
      have HF3 : Hid (Fr (fun k => k = g) w2 w3) := Lib.hid ((Fr.refl _ _).drew.trans hf3 (fun _ _ h => h))
      clear ho3 hs3 hf3
      refine hKx.out _ _ ?_ (fun hHeld => ?_)
      · exact HK3.out
      clear hKx Kx
      (try simp only [Act.put, List.setIfInBounds_toArray, List.set_cons_zero, List.set_cons_succ, List.getElem_toArray, List.getElem_cons_zero, List.getElem_cons_succ])
      refine wpAnyH_take (i := 7) (v := ?va7) rfl (by kernel_rfl) (by kernel_rfl) (by kernel_rfl) (fun _ _ _ h => h) (Or.inl ⟨by rfl, ?hya7⟩) hHeld ?resta7
      case hya7 => intro w hSw; (try dsimp only at hSw); go_simp; try (with_reducible rfl)
      (try simp only [Act.put, List.setIfInBounds_toArray, List.set_cons_zero, List.set_cons_succ, List.getElem_toArray, List.getElem_cons_zero, List.getElem_cons_succ])
      refine wpAnyH_ready (rs := [8]) (by kernel_rfl) (by simp) ?_
      refine AllReadyH.cons rfl (fun Kx hKx => ?_) AllReadyH.nil
      go_simp
      obtain ⟨w4, hw4⟩ : ∃ w4, w3.alloc (.cells #[.int .i64 (id : Int), .slice A3 z c3] 45) = w4 := ⟨_, rfl⟩
      rw [hw4]
      obtain ⟨pm, hpm⟩ : ∃ pm, w3.heap.size = pm := ⟨_, rfl⟩
      try rw [hpm]
      have hfm : Fr (fun _ => False) w3 w4 := by rw [← hw4]; exact (Fr.refl _ _).alloc _
      have hrm : Row w4 pm 45 [.int .i64 (id : Int), .slice A3 z c3] := by rw [← hw4, ← hpm]; exact Row.new w3 _ _
      have HFM := Lib.hid (HF3.out.trans hfm (fun _ _ h => h.elim))
      have HFN := Lib.hid hfm
      have HKM := Lib.hid (And.intro (hfm.cell HK3.out.1 (fun h => h)) (hfm.cell HK3.out.2 (fun h => h)))
      have HOM := Lib.hid (hfm.own HO3.out (fun _ _ h => h))
      have HRM := Lib.hid hrm
      clear hw4 hpm hfm hrm
      refine hKx.out _ _ ?_ (fun hHeld => ?_)
      · exact HKM.out
      clear hKx Kx
      (try simp only [Act.put, List.setIfInBounds_toArray, List.set_cons_zero, List.set_cons_succ, List.getElem_toArray, List.getElem_cons_zero, List.getElem_cons_succ])
      refine wpAnyH_ready (rs := [9]) (by kernel_rfl) (by simp) ?_
      refine AllReadyH.cons rfl (fun Kx hKx => ?_) AllReadyH.nil
      refine step_appS colTS _ (by rfl) _ _ (by rfl) base _ k XS (by rfl) HOM.out ⟨pm, 0, none⟩ 1 [.int .i64 (id : Int), .slice A3 z c3] (by rfl) rfl (fun j u hu => by rw [addr_add]; exact HRM.out.cell hu) (by intro u hu; simp at hu; rcases hu with rfl | rfl <;> rfl) N1 HN1.out (by unfold maxLen; omega) (by omega) (by have h1 := HBW.out; have h2 := HFM.out.size; omega) ?_
      intro A6 c6 w6 hown6 _ hfr6 _
      have HOW6 := Lib.hid hown6
      have HF6 := Lib.hid hfr6
      have HK6 := Lib.hid (And.intro (hfr6.cell HKM.out.1 (fun h => HPR.out h)) (hfr6.cell HKM.out.2 (fun h => HPR.out h)))
      clear hown6 hfr6
      refine hKx.out _ _ ?_ (fun hHeld => ?_)
      · exact HK6.out
      clear hKx Kx
      (try simp only [Act.put, List.setIfInBounds_toArray, List.set_cons_zero, List.set_cons_succ, List.getElem_toArray, List.getElem_cons_zero, List.getElem_cons_succ])
      refine wpAnyH_ready (rs := [10]) (by kernel_rfl) (by simp) ?_
      refine AllReadyH.cons rfl (fun Kx hKx => ?_) AllReadyH.nil
      go_simp
      refine hKx.out _ _ ?_ (fun hHeld => ?_)
      · exact HK6.out
      clear hKx Kx
      (try simp only [Act.put, List.setIfInBounds_toArray, List.set_cons_zero, List.set_cons_succ, List.getElem_toArray, List.getElem_cons_zero, List.getElem_cons_succ])
      refine wpAnyH_done (by kernel_rfl) ?_ _
      have hF6 : Fr (fun k => k = g) w w6 := (HFW2.out.trans HFM.out (fun _ _ h => h)).trans HF6.out (fun k hk h => by have h1 := (HOM.out.lt _ h).1; have := HB.out; omega)
      have hO6 : OwnP idc dac 45 w6 base A6 c6 (L ++ [⟨id, A3, c3, B3⟩]) := OwnP.snoc (p := idc) (q := dac) (N := N1) (t := ⟨id, A3, c3, B3⟩) (by rw [HN1.out, HLN.out]) (by rw [← HXS.out]; show w6.ownsRow base _ 2 _ N1 (XS ++ [.int .i64 (id : Int), .slice A3 B3.length c3]); rw [HZ.out]; exact HOW6.out)
      have hD6 : ∀ x ∈ L ++ [(⟨id, A3, c3, B3⟩ : Cl)], Own w6 base x.A x.c x.B := by
        intro x hx
        have ho : Own w3 base x.A x.c x.B := by
          rcases List.mem_append.1 hx with h | h
          · exact HF3.out.own (HD2.out x h) (fun k hk h7 => by have h8 := ((HD2.out x h).lt k hk).1; have h9 : k = g := h7; have := HG.out; omega)
          · simp at h
            subst h
            exact HD3.out.base HBW.out
        exact HF6.out.own (ho.fr HFN.out) (fun k hk h7 => own_two (ho.fr HFN.out) HOM.out (by decide) hk h7)
      have hS6 : Rdm w6 g r3 := by
        obtain ⟨A, n, c, q1, q2, q3, q4, q5⟩ := HS3.out
        refine ⟨A, n, c, Row.fr (Row.fr q1 HFN.out (fun h => h)) HF6.out (fun h => by have h1 := (HOM.out.lt _ h).1; have := HG.out; omega), (q2.fr HFN.out (fun _ _ h => h)).frp HF6.out (fun hn ad e h => ?_), q3, q4, q5⟩
        have h7 := q5 hn ad e
        have h8 := (HOM.out.lt _ h).1
        have := HG.out
        omega
      have HF7 := Lib.hid hF6
      have HO6 := Lib.hid hO6
      have HD6 := Lib.hid hD6
      have HS6 := Lib.hid hS6
      have HI6 : Hid (s.cols P = ((L ++ [(⟨id, A3, c3, B3⟩ : Cl)]).map Cl.v ++ (r3.cols (P.drop (k + 1))).1, (r3.cols (P.drop (k + 1))).2)) := Lib.hid (by rw [HI2.out]; simp [Cl.v])
      have HL6 : Hid ((L ++ [(⟨id, A3, c3, B3⟩ : Cl)]).length = N1) := Lib.hid (by rw [List.length_append, HLN.out, HN1.out]; rfl)
      have hN1k : N1 = k + 1 := by have := HN1.out; omega
      clear hF6 hO6 hD6 hS6 k0 k1
      go_wp2_with fail
      go_roundw
      case rel => exact ⟨k + 1, _, r3, A6, c6, by omega, by go_num, by rw [hN1k], by rw [← hN1k]; exact HL6, HI6, HO6, HD6, HS6, HF7⟩
      case measure => simp [intOf]; omega
    · obtain rfl : k = n := by omega
      have HE : Hid (s.cols P = (L.map Cl.v, r)) := Lib.hid (by rw [HI.out, List.drop_of_length_le (by have := HNN.out; omega)]; simp [St.cols])
      clear HI
      go_wp2_with fail
      go_ret
      rw [HE.out]
      exact ⟨A1, c1, L, by rw [HLN.out]; rfl, HO.out, HD.out, rfl, HS.out, HF.out⟩
end Go.Proofs.Ytfgjneodhmfknaa
