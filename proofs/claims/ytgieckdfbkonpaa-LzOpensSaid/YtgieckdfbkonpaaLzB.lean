/-
  Contract of layer 6's reference: Open.
-/
import Derived.Test.YtgieckdfbkonpaaLzA
import Derived.Test.YtgieckdfbkonpaaApp
namespace Go.Proofs.Ytgieckdfbkonpaa
open Go.RowKit LzM Mem Go.Lib

/-- a slice reads as these tokens -/
def Toks (w : World) (A : Option Addr) (n : Nat) (T : List Tok) : Prop := T.length = n ∧ ∀ k t, T[k]? = some t → ∃ g o, A = some ⟨g, o, none⟩ ∧ g < w.heap.size ∧
  w.cell? ⟨g, o + k * 3, none⟩ = some (bytec t.b) ∧ w.cell? ⟨g, o + k * 3 + 1, none⟩ = some (.int .i64 t.l) ∧ w.cell? ⟨g, o + k * 3 + 2, none⟩ = some (.int .i64 t.d)
theorem Toks.fr {S : Nat → Prop} {w w' : World} {A : Option Addr} {n : Nat} {T : List Tok} (h : Toks w A n T) (hf : Fr S w w') (hS : ∀ g, g < w.heap.size → ¬ S g) : Toks w' A n T :=
  ⟨h.1, fun k t hk => by
    obtain ⟨g, o, e, hg, h1, h2, h3⟩ := h.2 k t hk
    exact ⟨g, o, e, Nat.lt_of_lt_of_le hg hf.size, hf.cell h1 (hS g hg), hf.cell h2 (hS g hg), hf.cell h3 (hS g hg)⟩⟩

/-- bytes and the error's number -/
def toP : Except Nat (List UInt8) → List UInt8 × Nat
  | .ok B => (B, 0)
  | .error e => ([], e)

set_option maxRecDepth 100000 in
set_option maxHeartbeats 1600000 in
theorem rOpen_any (most : Int) (A : Option Addr) (n c : Nat) (T : List Tok) (w : World) (hT : Toks w A n T) (hn : n ≤ 1000000) :
    Calls Try.prog 13 #[.int .i64 most, .slice A n c] w fun e w' => ∃ A' c', e = .returned (.tuple #[.slice A' (toP (openT most [] T)).1.length c', .int .i64 ((toP (openT most [] T)).2 : Nat)]) ∧
      Own w' w.heap.size A' c' (toP (openT most [] T)).1 ∧ Fr (fun _ => False) w w' := by
  have HT := Lib.hid hT
  have hln := hT.1
  have HLN := Lib.hid hln
  clear hT hln
  obtain ⟨base, hbase⟩ : ∃ base, base = w.heap.size := ⟨_, rfl⟩
  have HB := Lib.hid hbase
  rw [← hbase]
  clear hbase
  obtain ⟨R, hR⟩ : ∃ R, R = openT most [] T := ⟨_, rfl⟩
  rw [← hR]
  have HR := Lib.hid hR
  clear hR
  go_enter Try.func13, Try.ntmps13
  go_wp2
  go_loopw [6, 7] (fun s i wr => ∃ (k : Nat) (B : List UInt8) (A1 : Option Addr) (c1 : Nat), k ≤ n ∧ i = .int .i64 (k : Int) ∧ s = .slice A1 B.length c1 ∧ Hid (Own wr base A1 c1 B) ∧ B.length ≤ 258 * k ∧ Hid (openT most B (T.drop k) = R) ∧ Hid (Fr (fun _ => False) w wr)) (fun _ i _ => n - (intOf i).toNat)
  case atStart => exact ⟨0, [], none, 0, Nat.zero_le _, rfl, rfl, World.ownsRow_nil _ _ _ _, by simp, HR.out.symm, Fr.refl _ _⟩
  case round =>
    obtain ⟨k, B, A1, c1, hk, rfl, rfl, HO, hbl, HE, HF⟩ := hrel
    by_cases hlt : k < n
    · obtain ⟨t, ht⟩ : ∃ t, T[k]? = some t := ⟨_, List.getElem?_eq_getElem (by have := HLN.out; omega)⟩
      rename_i wr
      have hdr : T.drop k = t :: T.drop (k + 1) := by rw [List.drop_eq_getElem_cons (by have := HLN.out; omega)]; congr 1; exact (List.getElem?_eq_some_iff.1 ht).2
      obtain ⟨g, o, rfl, hg, h1, h2, h3⟩ := (HT.out.fr HF.out (fun _ _ => id)).2 k t ht
      have he := HE.out
      rw [hdr, openT] at he
      go_wp2_with fail
      refine (rRight_any t B.length wr).mono ?_
      rintro e w2 ⟨rfl, hf2⟩
      have HF2 := Lib.hid (HF.out.trans hf2 (fun _ _ h => h))
      have HO2 := Lib.hid (hf2.own HO.out (fun b hb => id))
      have h1' := hf2.cell h1 (fun h => h)
      have h2' := hf2.cell h2 (fun h => h)
      have h3' := hf2.cell h3 (fun h => h)
      clear h1 h2 h3 HO HF hf2
      cases hr : rightT t (B.length : Nat) with
      | false =>
        rw [hr, if_pos rfl] at he
        have HE' := Lib.hid he
        clear he hr
        go_wp2_with fail
        rw [← HE'.out]
        exact bodyPost_ret (v := .tuple #[.slice none 0 0, .int .i64 3]) (by simp [results, Try.results13, go_sem]) rfl ⟨none, 0, rfl, Own.nil _ _, HF2.out⟩
      | true =>
        rw [hr, if_neg (by simp)] at he
        have hbb : B.length ≤ 258000000 := by omega
        rcases right_cases hr with ⟨b, rfl⟩ | ⟨L, D, rfl, hL1, hL2, hD1, hD2, hD3⟩
        · clear hr
          by_cases hm : ((B.length : Int) + 1) > most
          · rw [if_pos (show ((B.length + wide ⟨b, 0, 0⟩ : Nat) : Int) > most from by simpa [wide] using hm)] at he
            have HE' := Lib.hid he
            clear he
            go_wp2_with fail
            rw [← HE'.out]
            exact bodyPost_ret (v := .tuple #[.slice none 0 0, .int .i64 4]) (by simp [results, Try.results13, go_sem]) rfl ⟨none, 0, rfl, Own.nil _ _, HF2.out⟩
          · rw [if_neg (show ¬ ((B.length + wide ⟨b, 0, 0⟩ : Nat) : Int) > most from by simpa [wide] using hm)] at he
            have HE' := Lib.hid he
            clear he
            go_wp2_with fail
            go_loopw [6, 9] (fun s i wx => ∃ (j : Nat) (B' : List UInt8) (A2 : Option Addr) (c2 : Nat), j ≤ 1 ∧ i = .int .i64 (j : Int) ∧ s = .slice A2 B'.length c2 ∧ Hid (B' = B ++ List.replicate j b) ∧ Hid (Own wx base A2 c2 B') ∧ Hid (Fr (fun _ => False) w wx)) (fun _ i _ => 1 - (intOf i).toNat)
            case atStart => exact ⟨0, B, A1, c1, by omega, rfl, rfl, (by simp : B = B ++ List.replicate 0 b), HO2.out, HF2.out⟩
            case round =>
              obtain ⟨j, B', A2, c2, hj, rfl, rfl, HB', HO3, HF3⟩ := hrel
              have hbl' : B'.length ≤ 258000001 := by rw [HB'.out]; simp; omega
              by_cases hjl : j < 1
              · obtain rfl : j = 0 := by omega
                obtain ⟨g', o', e, hg', h1, h2, h3⟩ := (HT.out.fr HF3.out (fun _ _ => id)).2 k _ ht
                obtain ⟨rfl, rfl⟩ : g = g' ∧ o = o' := by injection e with e; injection e with e1 e2; exact ⟨e1, e2⟩
                simp only at h1 h2 h3
                clear h1' h2' h3' h3 e
                unfold bytec at h1
                have hbs : base ≤ wr.heap.size := by have := HB.out; have := HF3.out.size; omega
                obtain ⟨B3, hB3⟩ : ∃ B3, B3 = B' ++ [b] := ⟨_, rfl⟩
                have hb3 : B3.length ≤ 258000002 := by rw [hB3]; simp; omega
                have HB3 := Lib.hid hB3
                clear hB3
                go_wp2_with (at_builtin; refine wpList_appN u8T _ rfl _ _ rfl base _ _ _ rfl (HO3.out.alloc _) _ _ _ _ rfl (Rd.one _ _ _) (bytec_one [b]) B3.length (by rw [HB3.out, List.length_append]; rfl) (by unfold maxLen; omega) (by omega) (by simp; omega) ?_)
                intro A' c' w' _ _ hown' hfr' _
                have HO4 : Hid (Own w' base A' c' B3) := by
                  show w'.ownsRow base _ 1 _ _ (B3.map bytec)
                  have e : B3.map bytec = B'.map bytec ++ [bytec b] := by rw [HB3.out, List.map_append]; rfl
                  rw [e]
                  exact hown'
                have HF4 : Hid (Fr (fun _ => False) w w') := (HF3.out.alloc _).trans hfr' (fun b hb h => by have := HO3.out.lt _ h; have := HB.out; omega)
                clear hown' hfr'
                go_wp2
                go_roundw
                case rel => exact ⟨1, B3, A', c', by omega, by go_num, rfl, (by rw [HB3.out, HB'.out]; simp : B3 = B ++ List.replicate 1 b), HO4.out, HF4.out⟩
                case measure => simp [intOf]
              · obtain rfl : j = 1 := by omega
                have hb2 : B'.length ≤ 258 * (k + 1) := by rw [HB'.out]; simp; omega
                have he2 : openT most B' (T.drop (k + 1)) = R := by rw [HB'.out]; exact HE'.out
                have HE2 := Lib.hid he2
                clear he2 hbl'
                go_wp2_with fail
                exact ⟨⟨k + 1, B', A2, c2, by omega, by go_num, rfl, HO3.out, hb2, HE2.out, HF3.out⟩, by simp [intOf]; omega⟩
        · clear hr
          have hw : wide ⟨0, (L : Int), (D : Int)⟩ = L := by unfold wide; rw [if_neg (by simp only; omega)]; simp
          have hL0 : ((L : Int) == 0) = false := by simp; omega
          by_cases hm : ((B.length : Int) + (L : Int)) > most
          · rw [if_pos (show ((B.length + wide ⟨0, (L : Int), (D : Int)⟩ : Nat) : Int) > most from by rw [hw]; omega)] at he
            have HE' := Lib.hid he
            clear he
            go_wp2_with fail
            rw [← HE'.out]
            exact bodyPost_ret (v := .tuple #[.slice none 0 0, .int .i64 4]) (by simp [results, Try.results13, go_sem]) rfl ⟨none, 0, rfl, Own.nil _ _, HF2.out⟩
          · rw [if_neg (show ¬ ((B.length + wide ⟨0, (L : Int), (D : Int)⟩ : Nat) : Int) > most from by rw [hw]; omega)] at he
            have ha : addT B ⟨0, (L : Int), (D : Int)⟩ = copy D L B := by unfold addT; rw [if_neg (by simp only; omega)]; simp
            rw [ha] at he
            have HE' := Lib.hid he
            clear he ha hw
            go_wp2_with fail
            go_loopw [6, 9] (fun s i wx => ∃ (j : Nat) (B' : List UInt8) (A2 : Option Addr) (c2 : Nat), j ≤ L ∧ i = .int .i64 (j : Int) ∧ s = .slice A2 B'.length c2 ∧ Hid (B' = copy D j B) ∧ Hid (Own wx base A2 c2 B') ∧ Hid (Fr (fun _ => False) w wx)) (fun _ i _ => L - (intOf i).toNat)
            case atStart => exact ⟨0, B, A1, c1, by omega, rfl, rfl, (rfl : B = copy D 0 B), HO2.out, HF2.out⟩
            case round =>
              obtain ⟨j, B', A2, c2, hj, rfl, rfl, HB', HO3, HF3⟩ := hrel
              have hlen : B'.length = B.length + j := by rw [HB'.out, copy_length]
              by_cases hjl : j < L
              · obtain ⟨g', o', e, hg', h1, h2, h3⟩ := (HT.out.fr HF3.out (fun _ _ => id)).2 k _ ht
                obtain ⟨rfl, rfl⟩ : g = g' ∧ o = o' := by injection e with e; injection e with e1 e2; exact ⟨e1, e2⟩
                simp only at h1 h2 h3
                clear h1' h2' h3' e
                have hbs : base ≤ wr.heap.size := by have := HB.out; have := HF3.out.size; omega
                obtain ⟨M, hM⟩ : ∃ M, M = B'.length := ⟨_, rfl⟩
                obtain ⟨P, hP⟩ : ∃ P, P + D = M := ⟨M - D, by omega⟩
                obtain ⟨b, hb⟩ : ∃ b, b = B'[P]! := ⟨_, rfl⟩
                have hb1 : B'[P]? = some b := by rw [hb, getElem!_pos B' P (by omega)]; exact List.getElem?_eq_getElem (by omega)
                obtain ⟨B3, hB3⟩ : ∃ B3, B3 = B' ++ [b] := ⟨_, rfl⟩
                have hb3 : B3.length ≤ 258000600 := by rw [hB3]; simp; omega
                have HB3 := Lib.hid hB3
                have hcp : B3 = copy D (j + 1) B := by rw [hB3, copy_succ, ← HB'.out, hb, show B'.length - D = P by omega]
                have HCP := Lib.hid hcp
                obtain ⟨ad, rfl, had⟩ := own_at HO3.out (i := P) (u := bytec b) (by rw [List.getElem?_map, hb1]; rfl)
                obtain ⟨hcell, -⟩ := had
                have hPl : P < B'.length := by omega
                have hsub : ((B'.length : Int) - (D : Int)) = (P : Int) := by omega
                have hsubw : IntKind.i64.wrap ((B'.length : Int) - (D : Int)) = (P : Int) := by rw [IntKind.wrap_i64]; omega
                unfold bytec at hcell h1
                have hlb : B'.length ≤ 258000300 := by omega
                clear h1 hB3 hcp hb hb1 hM hP hlen
                go_wp2_with (at_builtin; refine wpList_appN u8T _ rfl _ _ rfl base _ _ _ rfl (HO3.out.alloc _) _ _ _ _ rfl (Rd.one _ _ _) (bytec_one [b]) B3.length (by rw [HB3.out, List.length_append]; rfl) (by unfold maxLen; omega) (by omega) (by simp; omega) ?_)
                intro A' c' w' _ _ hown' hfr' _
                have HO4 : Hid (Own w' base A' c' B3) := by
                  show w'.ownsRow base _ 1 _ _ (B3.map bytec)
                  have e : B3.map bytec = B'.map bytec ++ [bytec b] := by rw [HB3.out, List.map_append]; rfl
                  rw [e]
                  exact hown'
                have HF4 : Hid (Fr (fun _ => False) w w') := (HF3.out.alloc _).trans hfr' (fun b hb h => by have := HO3.out.lt _ h; have := HB.out; omega)
                clear hown' hfr'
                go_wp2
                go_roundw
                case rel => exact ⟨j + 1, B3, A', c', by omega, by go_num, rfl, HCP.out, HO4.out, HF4.out⟩
                case measure => simp [intOf] <;> omega
              · obtain rfl : j = L := by omega
                have hb2 : B'.length ≤ 258 * (k + 1) := by omega
                have he2 : openT most B' (T.drop (k + 1)) = R := by rw [HB'.out]; exact HE'.out
                have HE2 := Lib.hid he2
                clear he2 hlen
                go_wp2_with fail
                exact ⟨⟨k + 1, B', A2, c2, by omega, by go_num, rfl, HO3.out, hb2, HE2.out, HF3.out⟩, by simp [intOf]; omega⟩
    · obtain rfl : k = n := by omega
      have he : R = .ok B := by have h := HE.out; rw [List.drop_of_length_le (by have := HLN.out; omega)] at h; exact h.symm
      have HR2 := Lib.hid he
      clear he
      go_wp2_with fail
      rw [HR2.out]
      exact bodyPost_ret (v := .tuple #[.slice A1 B.length c1, .int .i64 0]) (by simp [results, Try.results13, go_sem]) rfl ⟨A1, c1, rfl, HO.out, HF.out⟩
end Go.Proofs.Ytgieckdfbkonpaa
