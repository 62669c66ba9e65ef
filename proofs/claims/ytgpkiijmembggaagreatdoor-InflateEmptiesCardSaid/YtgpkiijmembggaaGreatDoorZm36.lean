/-
  Layer 10's program: room, number, symbol.
  Layer 10's program: token (written by gen_token.py).
  Layer 6, the program: Open.
-/
import Derived.Test.YtgpkiijmembggaaGreatDoorZm35
import Derived.BigQuiet
import Derived.StillTailTactics
import Derived.Test.YtgpkiijmembggaaGreatDoorZm13
import Derived.Test.YtgpkiijmembggaaGreatDoorZm05
import Derived.Test.YtgpkiijmembggaaGreatDoorZm15
namespace Go.Proofs.YtgpkiijmembggaaGreatDoor
open Go.RowKit CoM BitsM HuffM LzM Mem Go.Lib
attribute [local go_sem ↓] Go.wp_at_zero Go.wp_at_succ
set_option linter.unusedVariables false
set_option maxRecDepth 100000

section
variable {w : World} {base o r c : Nat} {A : Option Addr} {B : List UInt8} {p : Nat} {ao : Option Addr} {co : Nat} {out : List UInt8} {most : Int} {pl pd : Option Addr}
set_option maxHeartbeats 800000 in
theorem room_any (H : Opn w base o r c A B p ao co out most pl pd) (n : Nat) (hn : n ≤ 70000) :
    Calls Tryz.prog 79 #[.pointer (some ⟨o, 0, none⟩), .int .i64 (n : Int)] w fun e w' => e = .returned (.bool (decide (((out.length + n : Nat) : Int) ≤ most))) ∧ w' = w.drew := by
  have c1 : w.cell? ⟨o, 1, none⟩ = some (.slice ao out.length co) := H.row.cell rfl
  have c2 : w.cell? ⟨o, 2, none⟩ = some (.int .i64 most) := H.row.cell rfl
  have hlo := H.lo
  obtain ⟨m, hm⟩ : ∃ m, m = out.length := ⟨_, rfl⟩
  rw [← hm] at c1 hlo ⊢
  obtain ⟨s, hs⟩ : ∃ s, s = m + n := ⟨_, rfl⟩
  rw [← hs]
  have hs1 : (m : Int) + (n : Int) = (s : Int) := by omega
  have hs2 : IntKind.i64.wrap ((m : Int) + (n : Int)) = (s : Int) := by rw [IntKind.wrap_i64]; omega
  have hs3 : IntKind.i64.wrap (s : Int) = (s : Int) := by rw [IntKind.wrap_i64]; omega
  clear hm hs H
  go_enter Tryz.func79, Tryz.ntmps79
  go_wp2_with fail
  go_still (by kernel_rfl)
  go_wp2
  go_ret
  exact ⟨rfl, rfl⟩
/-- what a method that reads a number answers -/
def NumP (w w' : World) (e : Ending) (r c : Nat) (A : Option Addr) (B : List UInt8) : Except Nat (Nat × List Bool) → Prop
  | .ok (x, rest) => ∃ p', e = .returned (.tuple #[.int .i64 (x : Int), .int .i64 0]) ∧ Re w' r A c B p' ∧ rest = (bitsOf B).drop p' ∧ Fr (fun k => k = r) w w'
  | .error k => e = .returned (.tuple #[.int .i64 0, .int .i64 (k : Int)]) ∧ Fr (fun k => k = r) w w'
def addN (x0 : Nat) : Except Nat (Nat × List Bool) → Except Nat (Nat × List Bool)
  | .error e => .error e
  | .ok (y, r) => .ok (x0 + y, r)
theorem number_no (least n : Int) (w : World) (v : Value) :
    Calls Tryz.prog 102 #[v, .int .i64 least, .int .i64 n, .bool false] w fun e w' => e = .returned (.tuple #[.int .i64 0, .int .i64 3]) ∧ w = w' := by
  go_enter Tryz.func102, Tryz.ntmps102
  go_wp2_with fail
  go_ret2
  exact ⟨rfl, rfl⟩
set_option maxHeartbeats 1600000 in
theorem number_any (H : Opn w base o r c A B p ao co out most pl pd) (least n : Nat) (hl : least ≤ 40000) (hn : n ≤ 13) :
    Calls Tryz.prog 102 #[.pointer (some ⟨o, 0, none⟩), .int .i64 (least : Int), .int .i64 (n : Int), .bool true] w fun e w' => NumP w w' e r c A B (addN least (InM.numR n ((bitsOf B).drop p))) := by
  have c0 : w.cell? ⟨o, 0, none⟩ = some (.pointer (some ⟨r, 0, none⟩)) := H.row.cell rfl
  have hlB := H.lB
  obtain ⟨bs, hbs⟩ : ∃ bs, bs = (bitsOf B).drop p := ⟨_, rfl⟩
  rw [← hbs]
  have hbl : bs.length = 8 * B.length - p := by rw [hbs, List.length_drop, bitsOf_length]
  by_cases hp : p + n ≤ 8 * B.length
  · have hb := bits_ok r c p A B n w H.re (by omega) (by omega) hp
    obtain ⟨z, hz⟩ : ∃ z, z = num (cut B p n) := ⟨_, rfl⟩
    have hz13 : z < 8192 := by
      have h1 := num_lt (cut B p n)
      rw [cut_length B p n hp, ← hz] at h1
      have h2 : 2 ^ n ≤ 2 ^ 13 := Nat.pow_le_pow_right (by omega) hn
      omega
    rw [← hz] at hb
    have hR : InM.numR n bs = .ok (z, bs.drop n) := by
      unfold InM.numR
      rw [if_neg (by omega), hz, hbs]
      rfl
    have HX : Hid (addN least (InM.numR n bs) = .ok (least + z, (bitsOf B).drop (p + n))) := Lib.hid (by rw [hR, hbs, List.drop_drop]; rfl)
    have HBT := Lib.hid hb
    have qz := conv_int8 z (by omega)
    obtain ⟨s, hs⟩ : ∃ s, s = least + z := ⟨_, rfl⟩
    have hs1 : (least : Int) + (z : Int) = (s : Int) := by omega
    have hs2 : IntKind.i64.wrap ((least : Int) + (z : Int)) = (s : Int) := by rw [IntKind.wrap_i64]; omega
    have HS := Lib.hid hs
    clear hb hbs hbl hz hR hs hp H
    go_enter Tryz.func102, Tryz.ntmps102
    go_wp2_with fail
    refine HBT.out.mono ?_
    rintro e w2 ⟨rfl, hre, hf⟩
    have HRE := Lib.hid (And.intro hre hf)
    clear hre hf HBT
    go_wp2_with fail
    exact bodyPost_ret (v := .tuple #[.int .i64 (s : Int), .int .i64 0]) (by simp [results, Tryz.results102, go_sem]) rfl
      (by rw [HX.out, ← HS.out]; exact ⟨_, rfl, HRE.out.1, rfl, HRE.out.2⟩)
  · have hb := bits_no r c p A B (n : Int) w H.re (by omega) (.inr (.inr (by have := H.re.2.2; omega)))
    have HBT := Lib.hid hb
    have HX : Hid (addN least (InM.numR n bs) = .error 2) := Lib.hid (by
      unfold InM.numR
      rw [if_pos (by have := H.re.2.2; omega)]
      rfl)
    clear hb hbs hbl hp H
    go_enter Tryz.func102, Tryz.ntmps102
    go_wp2_with fail
    refine HBT.out.mono ?_
    rintro e w2 ⟨rfl, hre, hf⟩
    have HF := Lib.hid hf
    clear hre hf HBT
    go_wp2_with fail
    exact bodyPost_ret (v := .tuple #[.int .i64 0, .int .i64 2]) (by simp [results, Tryz.results102, go_sem]) rfl
      (by rw [HX.out]; exact ⟨rfl, HF.out.mono (fun _ _ h => h.elim)⟩)
set_option maxHeartbeats 1600000 in
theorem osym_any (H : Opn w base o r c A B p ao co out most pl pd) {pa : Addr} {L : List Int} (hcb : CB w (fun _ => True) pa L) (hR : rightB L = true) :
    Calls Tryz.prog 95 #[.pointer (some ⟨o, 0, none⟩), .pointer (some pa)] w fun e w' => NumP w w' e r c A B (InM.symR L ((bitsOf B).drop p)) := by
  have c0 : w.cell? ⟨o, 0, none⟩ = some (.pointer (some ⟨r, 0, none⟩)) := H.row.cell rfl
  have hlB := H.lB
  have hl := left_any r c p A B w H.re (by omega)
  obtain ⟨bs, hbs⟩ : ∃ bs, bs = (bitsOf B).drop p := ⟨_, rfl⟩
  rw [← hbs]
  obtain ⟨D, hD⟩ : ∃ D, D = 8 * B.length - p := ⟨_, rfl⟩
  have hbl : bs.length = D := by rw [hbs, List.length_drop, bitsOf_length, hD]
  rw [← hD] at hl
  have HL := Lib.hid hl
  have hnx := pNextG_any ((hcb.off H).fr (Fr.refl (fun _ => False) w).drew (fun _ _ h => h)) hR H.re.drew (fun h => h rfl) (by omega)
  rw [← hbs] at hnx
  have HN := Lib.hid hnx
  have HBL := Lib.hid hbl
  have HBS := Lib.hid hbs
  have HLR : Hid (∀ x ∈ L, inR x = true) := Lib.hid (by
    unfold rightB at hR
    rw [Bool.and_eq_true] at hR
    exact List.all_eq_true.1 hR.1)
  clear hl hnx hbl hbs hD H hcb hR
  go_enter Tryz.func95, Tryz.ntmps95
  go_wp2_with fail
  refine HL.out.mono ?_
  rintro e w1 ⟨rfl, rfl⟩
  have c0' : w.drew.cell? ⟨o, 0, none⟩ = some (.pointer (some ⟨r, 0, none⟩)) := c0
  go_wp2_with fail
  refine HN.out.mono ?_
  rintro e w2 ⟨s, is, p', rfl, hre, hf, hok⟩
  have HF : Hid (Fr (fun k => k = r) w w2) := Lib.hid ((Fr.refl (fun k => k = r) w).drew.trans hf (fun _ _ h => h))
  have HRE := Lib.hid hre
  clear HL HN hre hf
  rcases hok with ⟨rfl, h1, h2, h3⟩ | ⟨rfl, rfl, h1⟩
  · obtain ⟨x, rfl⟩ := Int.eq_ofNat_of_zero_le h2
    have HX : Hid (InM.symR L bs = .ok (x, (bitsOf B).drop p')) := Lib.hid (by
      unfold InM.symR
      rw [if_neg (by rw [h1]; omega), h1]
      have e : bs.drop (nextS L (bb bs)).2.toNat = (bitsOf B).drop p' := by
        rcases next_cases (B := bb bs) HLR.out with h | ⟨s, k, h, _⟩
        · rw [h] at h1; exact absurd h1 (by show ¬ (-1 : Int) = _; omega)
        · rw [h] at h3 ⊢
          have h4 : p' = p + k := by simp only at h3; omega
          rw [h4, ← List.drop_drop, ← HBS.out]
          rfl
      rw [e]
      rfl)
    clear h1 h2 h3
    go_wp2_with fail
    exact bodyPost_ret (v := .tuple #[.int .i64 (x : Int), .int .i64 0]) (by simp [results, Tryz.results95, go_sem]) rfl
      (by rw [HX.out]; exact ⟨_, rfl, HRE.out, rfl, HF.out⟩)
  · by_cases hd : D < 15
    · have HX : Hid (InM.symR L bs = .error 2) := Lib.hid (by
        unfold InM.symR
        rw [if_pos (by rw [h1]; omega), if_pos (by rw [HBL.out]; exact hd)])
      have t1 : decide (D < 15) = true := by simp; omega
      have t2 : decide ((D : Int) < 15) = true := by simp; omega
      clear h1
      go_wp2_with fail
      exact bodyPost_ret (v := .tuple #[.int .i64 0, .int .i64 2]) (by simp [results, Tryz.results95, go_sem]) rfl
        (by rw [HX.out]; exact ⟨rfl, HF.out⟩)
    · have HX : Hid (InM.symR L bs = .error 3) := Lib.hid (by
        unfold InM.symR
        rw [if_pos (by rw [h1]; omega), if_neg (by rw [HBL.out]; exact hd)])
      have t1 : decide (D < 15) = false := by simp; omega
      have t2 : decide ((D : Int) < 15) = false := by simp; omega
      clear h1
      go_wp2_with fail
      exact bodyPost_ret (v := .tuple #[.int .i64 0, .int .i64 3]) (by simp [results, Tryz.results95, go_sem]) rfl
        (by rw [HX.out]; exact ⟨rfl, HF.out⟩)
end
end Go.Proofs.YtgpkiijmembggaaGreatDoor
namespace Go.Proofs.YtgpkiijmembggaaGreatDoor
open Go.RowKit CoM BitsM HuffM LzM Mem Go.Lib
attribute [local go_sem ↓] Go.wp_at_zero Go.wp_at_succ
set_option linter.unusedVariables false
set_option maxRecDepth 100000

theorem conv_u8O (e : Nat) (he : e < 256) (w : World) : (convert 3 5 (.int .i64 (e : Int))).run Tryz.prog w = .ok (.int .u8 (e : Int)) w := by
  go_simp
  have : IntKind.u8.wrap (e : Int) = (e : Int) := by rw [IntKind.wrap_u8]; omega
  simp [this]
theorem tokSz : (Tryz.prog.info? 71).map (·.size) = some 3 := by kernel_rfl
theorem tok_one (b l d : Int) : [Value.int .u8 b, .int .i64 l, .int .i64 d].toArray.all (·.oneCell') = true := by simp [Value.oneCell']
theorem lensLeast (k : Nat) : SyM.least SyM.lens k ≤ 40000 := by
  rcases Nat.lt_or_ge k 29 with h | h
  · exact (by decide +kernel : ∀ i : Fin 29, SyM.least SyM.lens (i : Nat) ≤ 40000) ⟨k, h⟩
  · unfold SyM.least
    rw [getElem!_neg SyM.lens k (by show ¬ k < 29; omega)]
    decide
theorem distsLeast (k : Nat) : SyM.least SyM.dists k ≤ 40000 := by
  rcases Nat.lt_or_ge k 30 with h | h
  · exact (by decide +kernel : ∀ i : Fin 30, SyM.least SyM.dists (i : Nat) ≤ 40000) ⟨k, h⟩
  · unfold SyM.least
    rw [getElem!_neg SyM.dists k (by show ¬ k < 30; omega)]
    decide
theorem match_err {b : List Nat} {s n0 k : Nat} {bs : List Bool} (h0 : n0 = SyM.wid SyM.lens (s - 257)) (hN : InM.numR n0 bs = .error k) : InM.matchR b s bs = .error k := by
  subst h0
  unfold InM.matchR
  rw [hN]
theorem match_ok {b : List Nat} {s n0 x0 x xx : Nat} {bs r1 : List Bool} (h1 : x0 = SyM.least SyM.lens (s - 257)) (h0 : n0 = SyM.wid SyM.lens (s - 257)) (h2 : xx = x0 + x) (hN : InM.numR n0 bs = .ok (x, r1)) :
    InM.matchR b s bs = if InM.noneB b = true then .error 3 else match InM.symR (ints b) r1 with
      | .error e => .error e
      | .ok (d, r) => match InM.distR d r with
        | .error e => .error e
        | .ok (y, r) => .ok (mat xx y, r) := by
  subst h0 h2
  unfold InM.matchR
  rw [hN, ← h1]
  dsimp only
  by_cases hb : InM.noneB b = true
  · rw [if_pos hb, if_pos hb]
  · rw [if_neg hb, if_neg hb]
    cases InM.symR (ints b) r1 with
    | error e => rfl
    | ok dr =>
      obtain ⟨d, r⟩ := dr
      dsimp only
      cases InM.distR d r with
      | error e => rfl
      | ok yr => rfl
theorem sym_in {b : List Nat} {bs r : List Bool} {d : Nat} (h : InM.symR (ints b) bs = .ok (d, r)) : d < b.length := by
  unfold InM.symR at h
  split at h
  · cases h
  · rename_i hn
    obtain ⟨s, hs, _, he, _⟩ := InM.sym_hit hn
    rw [he] at h
    injection h with h
    injection h with h _
    simp at h
    omega
/-- what follows a symbol that isn't the end's -/
def tokenR (b : List Nat) (s : Nat) (bs : List Bool) : Except Nat (Tok × List Bool) :=
  if s < 256 then .ok (lit (UInt8.ofNat s), bs) else if 285 < s then .error 3 else InM.matchR b s bs
/-- what token answers -/
def TokP (w w' : World) (e : Ending) (r c : Nat) (A : Option Addr) (B : List UInt8) : Except Nat (Tok × List Bool) → Prop
  | .ok (t, rest) => ∃ p', e = .returned (.tuple #[tokc t, .int .i64 0]) ∧ Re w' r A c B p' ∧ rest = (bitsOf B).drop p' ∧ Fr (fun k => k = r) w w'
  | .error k => e = .returned (.tuple #[.agg #[.int .u8 0, .int .i64 0, .int .i64 0], .int .i64 (k : Int)]) ∧ Fr (fun k => k = r) w w'
/-- the coder of distances, if there is one -/
def CodD (w : World) (b : List Nat) (pd : Option Addr) : Prop := InM.noneB b = true ∧ pd = none ∨ InM.noneB b = false ∧ ∃ da, pd = some da ∧ CB w (fun _ => True) da (ints b) ∧ rightB (ints b) = true
theorem CodD.fr0 {w w' : World} {b : List Nat} {pd : Option Addr} (h : CodD w b pd) (hf : Fr (fun _ => False) w w') : CodD w' b pd :=
  h.imp id (fun ⟨h, da, h1, h2, h3⟩ => ⟨h, da, h1, h2.fr hf (fun _ _ h => h), h3⟩)
section
variable {w w' : World} {base o r c : Nat} {A : Option Addr} {B : List UInt8} {p : Nat} {ao : Option Addr} {co : Nat} {out : List UInt8} {most : Int} {pl pd : Option Addr}
theorem CodD.fo {b : List Nat} {qd : Option Addr} (h : CodD w b qd) (H : Opn w base o r c A B p ao co out most pl pd) (hf : Fr (Fo o r ao) w w') : CodD w' b qd :=
  h.imp id (fun ⟨h, da, h1, h2, h3⟩ => ⟨h, da, h1, h2.fo H hf, h3⟩)
set_option maxHeartbeats 6400000 in
theorem token_any (H : Opn w base o r c A B p ao co out most pl pd) (b : List Nat) (qd : Option Addr) (hd : CodD w b qd) (hbl : b.length ≤ 1000) (s : Nat) (hs : s ≤ 100000) (h256 : s ≠ 256) :
    Calls Tryz.prog 96 #[.pointer (some ⟨o, 0, none⟩), .int .i64 (s : Int), .pointer qd] w fun e w' => TokP w w' e r c A B (tokenR b s ((bitsOf B).drop p)) := by
  obtain ⟨w1, hw1⟩ : ∃ w1, w1 = w.alloc (.cells #[Value.int .u8 0, .int .i64 0, .int .i64 0] 71) := ⟨_, rfl⟩
  obtain ⟨g, hg⟩ : ∃ g, g = w.heap.size := ⟨_, rfl⟩
  have hf1 : Fr (fun _ => False) w w1 := by rw [hw1]; exact (Fr.refl _ w).alloc _
  have HR1 : Hid (Row w1 g 71 [Value.int .u8 0, .int .i64 0, .int .i64 0]) := Lib.hid (by rw [hw1, hg]; exact Row.new w _ _)
  have HO1 := Lib.hid (H.fr0 hf1)
  have HF1 : Hid (Fr (fun k => k = r) w w1) := Lib.hid (hf1.mono (fun _ _ h => h.elim))
  have HGR : Hid (g ≠ r ∧ w.heap.size ≤ g) := Lib.hid ⟨by have := H.rLt; omega, by omega⟩
  obtain ⟨bs, hbs⟩ : ∃ bs, bs = (bitsOf B).drop p := ⟨_, rfl⟩
  rw [← hbs]
  have HBS := Lib.hid hbs
  obtain ⟨RES, hRES⟩ : ∃ R, R = tokenR b s bs := ⟨_, rfl⟩
  rw [← hRES]
  have HRES := Lib.hid hRES
  clear hRES
  have HD1 : Hid (CodD w1 b qd) := Lib.hid (hd.imp id (fun ⟨h, da, h1, h2, h3⟩ => ⟨h, da, h1, h2.fr hf1 (fun _ _ h => h), h3⟩))
  clear hd hf1 H hbs
  have HAG : Hid (bl A ≠ some g) := Lib.hid (fun h => own_ne HO1.out.re.2.1 HR1.out (by decide) (by rw [bl_own]; exact h))
  by_cases hlt : s < 256
  · have HX : Hid (RES = .ok (lit (UInt8.ofNat s), (bitsOf B).drop p)) := Lib.hid (by rw [HRES.out, tokenR, if_pos hlt, HBS.out])
    have t1 : decide ((s : Int) < 256) = true := by simp; omega
    have t2 : decide (s < 256) = true := by simp; omega
    have qs := conv_u8O s hlt
    have HBY : Hid (tokc (lit (UInt8.ofNat s)) = .agg #[.int .u8 (s : Int), .int .i64 0, .int .i64 0]) := Lib.hid (by unfold tokc lit; rw [bytec_ofNat hlt])
    go_enter Tryz.func96, Tryz.ntmps96
    go_upto_region 1 with fail
    rw [← hw1, ← hg]
    clear hw1 hg
    go_wp2_with (refine store_st tokSz rfl (.tmp 6) (.tmp 15) rfl g (by rfl) [Value.int .u8 (s : Int), .int .i64 0, .int .i64 0] (by rfl) _ _ HR1.out rfl rfl (tok_one _ _ _) ?_)
    intro w9 hr9 hf9
    have d0 : w9.cell? ⟨g, 0, none⟩ = some (Value.int .u8 (s : Int)) := hr9.cell rfl
    have d1 : w9.cell? ⟨g, 1, none⟩ = some (.int .i64 0) := hr9.cell rfl
    have d2 : w9.cell? ⟨g, 2, none⟩ = some (.int .i64 0) := hr9.cell rfl
    have HF9 : Hid (Fr (fun k => k = r) w w9) := Lib.hid (HF1.out.trans hf9 (fun b hb h => by have := HGR.out.2; omega))
    have HG9 := Lib.hid hf9
    clear hr9 hf9
    go_wp2_with fail
    exact bodyPost_ret (v := .tuple #[.agg #[Value.int .u8 (s : Int), .int .i64 0, .int .i64 0], .int .i64 0]) (by simp [results, Tryz.results96, go_sem, d0, d1, d2]) rfl (by
      rw [HX.out]
      refine ⟨_, by rw [HBY.out], (HO1.out.re).fr HG9.out HGR.out.1.symm (fun k hk h => HAG.out (h ▸ hk)), rfl, HF9.out⟩)
  have t1 : decide ((s : Int) < 256) = false := by simp; omega
  have t2 : decide (s < 256) = false := by simp; omega
  have HLO := Lib.hid (lengthOf_any (s : Int) w1 HO1.out.gl.1 (by unfold inI; omega))
  by_cases hhi : 285 < s
  · have HX : Hid (RES = .error 3) := Lib.hid (by rw [HRES.out, tokenR, if_neg hlt, if_pos hhi])
    have ev : lenOfV (s : Int) = (0, 0, false) := by unfold lenOfV; rw [if_neg (by omega)]
    have HLO2 : Hid (Calls Tryz.prog 103 #[.int .i64 (s : Int)] w1 fun e w' => e = .returned (.tuple #[.int .i64 0, .int .i64 0, .bool false]) ∧ Fr (fun _ => False) w1 w') := Lib.hid (by have h := HLO.out; rw [ev] at h; exact h)
    clear ev hlt hhi HLO
    go_enter Tryz.func96, Tryz.ntmps96
    go_upto_region 1 with fail
    rw [← hw1, ← hg]
    clear hw1 hg
    go_wp2_with fail
    refine HLO2.out.mono ?_
    rintro e w2 ⟨rfl, hf2⟩
    have HR2 := Lib.hid (HR1.out.fr hf2 (fun h => h))
    have HF2 : Hid (Fr (fun k => k = r) w w2) := Lib.hid (HF1.out.trans hf2 (fun _ _ h => h.elim))
    clear hf2 HLO2
    go_wp2_with fail
    refine (number_no 0 0 w2 _).mono ?_
    rintro e w3 ⟨rfl, rfl⟩
    go_upto_region 5 with fail
    go_wp2_with (refine store_st tokSz rfl (.tmp 6) (.tmp 28) rfl g (by rfl) [Value.int .u8 0, .int .i64 0, .int .i64 0] (by rfl) _ _ HR2.out rfl rfl (tok_one _ _ _) ?_)
    intro w9 hr9 hf9
    have d0 : w9.cell? ⟨g, 0, none⟩ = some (Value.int .u8 0) := hr9.cell rfl
    have d1 : w9.cell? ⟨g, 1, none⟩ = some (.int .i64 0) := hr9.cell rfl
    have d2 : w9.cell? ⟨g, 2, none⟩ = some (.int .i64 0) := hr9.cell rfl
    have HF9 : Hid (Fr (fun k => k = r) w w9) := Lib.hid (HF2.out.trans hf9 (fun b hb h => by have := HGR.out.2; omega))
    have HG9 := Lib.hid hf9
    clear hr9 hf9
    go_wp2_with fail
    exact bodyPost_ret (v := .tuple #[.agg #[.int .u8 0, .int .i64 0, .int .i64 0], .int .i64 3]) (by simp [results, Tryz.results96, go_sem, d0, d1, d2]) rfl (by rw [HX.out]; exact ⟨rfl, HF9.out⟩)
  obtain ⟨x0, hx0⟩ : ∃ x0, x0 = SyM.least SyM.lens (s - 257) := ⟨_, rfl⟩
  obtain ⟨n0, hn0⟩ : ∃ n0, n0 = SyM.wid SyM.lens (s - 257) := ⟨_, rfl⟩
  have hn13 : n0 ≤ 13 := by rw [hn0]; exact SyM.lens_wid _
  have hx40 : x0 ≤ 40000 := by rw [hx0]; exact lensLeast _
  have HLO2 : Hid (Calls Tryz.prog 103 #[.int .i64 (s : Int)] w1 fun e w' => e = .returned (.tuple #[.int .i64 (x0 : Int), .int .i64 (n0 : Int), .bool true]) ∧ Fr (fun _ => False) w1 w') := Lib.hid (by
    have h := HLO.out
    have ev : lenOfV (s : Int) = (x0, n0, true) := by unfold lenOfV; rw [if_pos (by omega), hx0, hn0, show ((s : Int) - 257).toNat = s - 257 by omega]
    rw [ev] at h
    exact h)
  have HM : Hid (RES = InM.matchR b s bs) := Lib.hid (by rw [HRES.out, tokenR, if_neg hlt, if_neg hhi])
  have HL0 := Lib.hid (And.intro hx0 hn0)
  have HS := Lib.hid (And.intro hlt hhi)
  have HNB : Hid (∀ w', Fr (fun _ => False) w1 w' → Calls Tryz.prog 102 #[.pointer (some ⟨o, 0, none⟩), .int .i64 (x0 : Int), .int .i64 (n0 : Int), .bool true] w' fun e w'' => NumP w' w'' e r c A B (addN x0 (InM.numR n0 bs))) := Lib.hid (fun w' hf => by rw [HBS.out]; exact number_any (HO1.out.fr0 hf) x0 n0 hx40 hn13)
  clear hx0 hn0 hlt hhi HLO hn13 hx40 h256
  cases hN : InM.numR n0 bs with
  | error k =>
    have HX : Hid (RES = .error k) := Lib.hid (HM.out.trans (match_err HL0.out.2 hN))
    have HNB3 : Hid (∀ w', Fr (fun _ => False) w1 w' → Calls Tryz.prog 102 #[.pointer (some ⟨o, 0, none⟩), .int .i64 (x0 : Int), .int .i64 (n0 : Int), .bool true] w' fun e w'' => e = .returned (.tuple #[.int .i64 0, .int .i64 (k : Int)]) ∧ Fr (fun k => k = r) w' w'') := Lib.hid (fun w' hf => by have h := HNB.out w' hf; rw [hN] at h; exact h)
    have HK : Hid (k ≠ 0) := Lib.hid (by
      unfold InM.numR at hN
      split at hN
      · injection hN with hN; omega
      · cases hN)
    have tk : ((k : Int) != 0) = true := by have := HK.out; simp; omega
    clear hN HNB
    go_enter Tryz.func96, Tryz.ntmps96
    go_upto_region 1 with fail
    rw [← hw1, ← hg]
    clear hw1 hg
    go_wp2_with fail
    refine HLO2.out.mono ?_
    rintro e w2 ⟨rfl, hf2⟩
    have HR2 := Lib.hid (HR1.out.fr hf2 (fun h => h))
    have HF2 : Hid (Fr (fun k => k = r) w w2) := Lib.hid (HF1.out.trans hf2 (fun _ _ h => h.elim))
    have HNB4 := Lib.hid (HNB3.out w2 hf2)
    clear hf2 HLO2 HNB3
    go_wp2_with fail
    refine HNB4.out.mono ?_
    rintro e w3 ⟨rfl, hf3⟩
    have HR3 := Lib.hid (HR2.out.fr hf3 HGR.out.1)
    have HF3 := Lib.hid (HF2.out.trans hf3 (fun _ _ h => h))
    clear hf3 HNB4
    go_upto_region 5 with fail
    go_wp2_with (refine store_st tokSz rfl (.tmp 6) (.tmp 28) rfl g (by rfl) [Value.int .u8 0, .int .i64 0, .int .i64 0] (by rfl) _ _ HR3.out rfl rfl (tok_one _ _ _) ?_)
    intro w9 hr9 hf9
    have d0 : w9.cell? ⟨g, 0, none⟩ = some (Value.int .u8 0) := hr9.cell rfl
    have d1 : w9.cell? ⟨g, 1, none⟩ = some (.int .i64 0) := hr9.cell rfl
    have d2 : w9.cell? ⟨g, 2, none⟩ = some (.int .i64 0) := hr9.cell rfl
    have HF9 : Hid (Fr (fun k => k = r) w w9) := Lib.hid (HF3.out.trans hf9 (fun b hb h => by have := HGR.out.2; omega))
    have HG9 := Lib.hid hf9
    clear hr9 hf9
    go_wp2_with fail
    exact bodyPost_ret (v := .tuple #[.agg #[.int .u8 0, .int .i64 0, .int .i64 0], .int .i64 (k : Int)]) (by simp [results, Tryz.results96, go_sem, d0, d1, d2]) rfl (by rw [HX.out]; exact ⟨rfl, HF9.out⟩)
  | ok xr =>
    obtain ⟨x, r1⟩ := xr
    obtain ⟨xx, hxx⟩ : ∃ xx, xx = x0 + x := ⟨_, rfl⟩
    have HNB3 : Hid (∀ w', Fr (fun _ => False) w1 w' → Calls Tryz.prog 102 #[.pointer (some ⟨o, 0, none⟩), .int .i64 (x0 : Int), .int .i64 (n0 : Int), .bool true] w' fun e w'' => ∃ p', e = .returned (.tuple #[.int .i64 (xx : Int), .int .i64 0]) ∧ Re w'' r A c B p' ∧ r1 = (bitsOf B).drop p' ∧ Fr (fun k => k = r) w' w'') := Lib.hid (fun w' hf => by have h := HNB.out w' hf; rw [hN] at h; rw [hxx]; exact h)
    have HM2 : Hid (RES = if InM.noneB b = true then .error 3 else match InM.symR (ints b) r1 with
      | .error e => .error e
      | .ok (d, r) => match InM.distR d r with
        | .error e => .error e
        | .ok (y, r) => .ok (mat xx y, r)) := Lib.hid (HM.out.trans (match_ok HL0.out.1 HL0.out.2 hxx hN))
    clear hN HNB HM hxx
    rcases HD1.out with ⟨hnb, rfl⟩ | ⟨hnb, da, rfl, -, hrb⟩
    · have HX : Hid (RES = .error 3) := Lib.hid (by rw [HM2.out, if_pos hnb])
      clear hnb
      go_enter Tryz.func96, Tryz.ntmps96
      go_upto_region 1 with fail
      rw [← hw1, ← hg]
      clear hw1 hg
      go_wp2_with fail
      refine HLO2.out.mono ?_
      rintro e w2 ⟨rfl, hf2⟩
      have HR2 := Lib.hid (HR1.out.fr hf2 (fun h => h))
      have HF2 : Hid (Fr (fun k => k = r) w w2) := Lib.hid (HF1.out.trans hf2 (fun _ _ h => h.elim))
      have HNB4 := Lib.hid (HNB3.out w2 hf2)
      have HO2 := Lib.hid (HO1.out.fr0 hf2)
      have HD2 := Lib.hid (HD1.out.fr0 hf2)
      clear hf2 HLO2 HNB3
      go_wp2_with fail
      refine HNB4.out.mono ?_
      rintro e w3 ⟨p3, rfl, hre3, hr1, hf3⟩
      have HR3 := Lib.hid (HR2.out.fr hf3 HGR.out.1)
      have HF3 := Lib.hid (HF2.out.trans hf3 (fun _ _ h => h))
      have HO3 := Lib.hid (HO2.out.read hf3 hre3)
      have HR1E := Lib.hid hr1
      have HD3 := Lib.hid (HD2.out.fo HO2.out (to_fo hf3))
      clear hf3 HNB4 hre3 hr1
      go_upto_region 7 with fail
      go_wp2_with (refine store_st tokSz rfl (.tmp 6) (.tmp 32) rfl g (by rfl) [Value.int .u8 0, .int .i64 0, .int .i64 0] (by rfl) _ _ HR3.out rfl rfl (tok_one _ _ _) ?_)
      intro w9 hr9 hf9
      have d0 : w9.cell? ⟨g, 0, none⟩ = some (Value.int .u8 0) := hr9.cell rfl
      have d1 : w9.cell? ⟨g, 1, none⟩ = some (.int .i64 0) := hr9.cell rfl
      have d2 : w9.cell? ⟨g, 2, none⟩ = some (.int .i64 0) := hr9.cell rfl
      have HF9 : Hid (Fr (fun k => k = r) w w9) := Lib.hid (HF3.out.trans hf9 (fun b hb h => by have := HGR.out.2; omega))
      have HG9 := Lib.hid hf9
      clear hr9 hf9
      go_wp2_with fail
      exact bodyPost_ret (v := .tuple #[.agg #[.int .u8 0, .int .i64 0, .int .i64 0], .int .i64 3]) (by simp [results, Tryz.results96, go_sem, d0, d1, d2]) rfl (by rw [HX.out]; exact ⟨rfl, HF9.out⟩)
    · have HM3 : Hid (RES = match InM.symR (ints b) r1 with
        | .error e => .error e
        | .ok (d, r) => match InM.distR d r with
          | .error e => .error e
          | .ok (y, r) => .ok (mat xx y, r)) := Lib.hid (by rw [HM2.out, if_neg (by rw [hnb]; simp)])
      have HRB := Lib.hid hrb
      have HNN := Lib.hid hnb
      clear hnb hrb HM2
      cases hS : InM.symR (ints b) r1 with
      | error k =>
        have HX : Hid (RES = .error k) := Lib.hid (by rw [HM3.out, hS])
        have HK : Hid (k ≠ 0) := Lib.hid (by
          unfold InM.symR at hS
          split at hS
          · injection hS with hS; split at hS <;> omega
          · cases hS)
        have tk : ((k : Int) != 0) = true := by have := HK.out; simp; omega
        have HSY := Lib.hid hS
        clear hS HM3
        go_enter Tryz.func96, Tryz.ntmps96
        go_upto_region 1 with fail
        rw [← hw1, ← hg]
        clear hw1 hg
        go_wp2_with fail
        refine HLO2.out.mono ?_
        rintro e w2 ⟨rfl, hf2⟩
        have HR2 := Lib.hid (HR1.out.fr hf2 (fun h => h))
        have HF2 : Hid (Fr (fun k => k = r) w w2) := Lib.hid (HF1.out.trans hf2 (fun _ _ h => h.elim))
        have HNB4 := Lib.hid (HNB3.out w2 hf2)
        have HO2 := Lib.hid (HO1.out.fr0 hf2)
        have HD2 := Lib.hid (HD1.out.fr0 hf2)
        clear hf2 HLO2 HNB3
        go_wp2_with fail
        refine HNB4.out.mono ?_
        rintro e w3 ⟨p3, rfl, hre3, hr1, hf3⟩
        have HR3 := Lib.hid (HR2.out.fr hf3 HGR.out.1)
        have HF3 := Lib.hid (HF2.out.trans hf3 (fun _ _ h => h))
        have HO3 := Lib.hid (HO2.out.read hf3 hre3)
        have HR1E := Lib.hid hr1
        have HD3 := Lib.hid (HD2.out.fo HO2.out (to_fo hf3))
        clear hf3 HNB4 hre3 hr1
        have HCB : Hid (CB w3 (fun _ => True) da (ints b)) := Lib.hid (by
          rcases HD3.out with ⟨h, _⟩ | ⟨_, da2, h1, h2, _⟩
          · rw [HNN.out] at h; cases h
          · injection h1 with h1; rw [h1]; exact h2)
        have HSC : Hid (Calls Tryz.prog 95 #[.pointer (some ⟨o, 0, none⟩), .pointer (some da)] w3 fun e w' => e = .returned (.tuple #[.int .i64 0, .int .i64 (k : Int)]) ∧ Fr (fun k => k = r) w3 w') := Lib.hid (by have h := osym_any HO3.out HCB.out HRB.out; rw [← HR1E.out, HSY.out] at h; exact h)
        go_wp2_with fail
        refine HSC.out.mono ?_
        rintro e w4 ⟨rfl, hf4⟩
        have HR4 := Lib.hid (HR3.out.fr hf4 HGR.out.1)
        have HF4 := Lib.hid (HF3.out.trans hf4 (fun _ _ h => h))
        clear hf4 HSC
        go_upto_region 10 with fail
        go_wp2_with (refine store_st tokSz rfl (.tmp 6) (.tmp 41) rfl g (by rfl) [Value.int .u8 0, .int .i64 0, .int .i64 0] (by rfl) _ _ HR4.out rfl rfl (tok_one _ _ _) ?_)
        intro w9 hr9 hf9
        have d0 : w9.cell? ⟨g, 0, none⟩ = some (Value.int .u8 0) := hr9.cell rfl
        have d1 : w9.cell? ⟨g, 1, none⟩ = some (.int .i64 0) := hr9.cell rfl
        have d2 : w9.cell? ⟨g, 2, none⟩ = some (.int .i64 0) := hr9.cell rfl
        have HF9 : Hid (Fr (fun k => k = r) w w9) := Lib.hid (HF4.out.trans hf9 (fun b hb h => by have := HGR.out.2; omega))
        have HG9 := Lib.hid hf9
        clear hr9 hf9
        go_wp2_with fail
        exact bodyPost_ret (v := .tuple #[.agg #[.int .u8 0, .int .i64 0, .int .i64 0], .int .i64 (k : Int)]) (by simp [results, Tryz.results96, go_sem, d0, d1, d2]) rfl (by rw [HX.out]; exact ⟨rfl, HF9.out⟩)
      | ok dr =>
        obtain ⟨d, r2⟩ := dr
        have HM4 : Hid (RES = match InM.distR d r2 with
          | .error e => .error e
          | .ok (y, r) => .ok (mat xx y, r)) := Lib.hid (by rw [HM3.out, hS])
        have hd5 : d ≤ 1000 := by have := sym_in hS; omega
        have HSY := Lib.hid hS
        clear hS HM3
        by_cases h29 : 29 < d
        · have HX : Hid (RES = .error 3) := Lib.hid (by rw [HM4.out, InM.distR, if_pos h29])
          have HD29 := Lib.hid h29
          clear h29
          go_enter Tryz.func96, Tryz.ntmps96
          go_upto_region 1 with fail
          rw [← hw1, ← hg]
          clear hw1 hg
          go_wp2_with fail
          refine HLO2.out.mono ?_
          rintro e w2 ⟨rfl, hf2⟩
          have HR2 := Lib.hid (HR1.out.fr hf2 (fun h => h))
          have HF2 : Hid (Fr (fun k => k = r) w w2) := Lib.hid (HF1.out.trans hf2 (fun _ _ h => h.elim))
          have HNB4 := Lib.hid (HNB3.out w2 hf2)
          have HO2 := Lib.hid (HO1.out.fr0 hf2)
          have HD2 := Lib.hid (HD1.out.fr0 hf2)
          clear hf2 HLO2 HNB3
          go_wp2_with fail
          refine HNB4.out.mono ?_
          rintro e w3 ⟨p3, rfl, hre3, hr1, hf3⟩
          have HR3 := Lib.hid (HR2.out.fr hf3 HGR.out.1)
          have HF3 := Lib.hid (HF2.out.trans hf3 (fun _ _ h => h))
          have HO3 := Lib.hid (HO2.out.read hf3 hre3)
          have HR1E := Lib.hid hr1
          have HD3 := Lib.hid (HD2.out.fo HO2.out (to_fo hf3))
          clear hf3 HNB4 hre3 hr1
          have HCB : Hid (CB w3 (fun _ => True) da (ints b)) := Lib.hid (by
            rcases HD3.out with ⟨h, _⟩ | ⟨_, da2, h1, h2, _⟩
            · rw [HNN.out] at h; cases h
            · injection h1 with h1; rw [h1]; exact h2)
          have HSC : Hid (Calls Tryz.prog 95 #[.pointer (some ⟨o, 0, none⟩), .pointer (some da)] w3 fun e w' => ∃ p', e = .returned (.tuple #[.int .i64 (d : Int), .int .i64 0]) ∧ Re w' r A c B p' ∧ r2 = (bitsOf B).drop p' ∧ Fr (fun k => k = r) w3 w') := Lib.hid (by have h := osym_any HO3.out HCB.out HRB.out; rw [← HR1E.out, HSY.out] at h; exact h)
          go_wp2_with fail
          refine HSC.out.mono ?_
          rintro e w4 ⟨p4, rfl, hre4, hr2, hf4⟩
          have HR4 := Lib.hid (HR3.out.fr hf4 HGR.out.1)
          have HF4 := Lib.hid (HF3.out.trans hf4 (fun _ _ h => h))
          have HO4 := Lib.hid (HO3.out.read hf4 hre4)
          have HR2E := Lib.hid hr2
          clear hf4 HSC hre4 hr2
          have HDO := Lib.hid (distanceOf_any (d : Int) w4 HO4.out.gl.1 (by unfold inI; omega))
          have HDO2 : Hid (Calls Tryz.prog 104 #[.int .i64 (d : Int)] w4 fun e w' => e = .returned (.tuple #[.int .i64 0, .int .i64 0, .bool false]) ∧ Fr (fun _ => False) w4 w') := Lib.hid (by
            have h := HDO.out
            rw [show distOfV (d : Int) = (0, 0, false) by unfold distOfV; rw [if_neg (by have := HD29.out; omega)]] at h
            exact h)
          clear HDO
          go_wp2_with fail
          refine HDO2.out.mono ?_
          rintro e w5 ⟨rfl, hf5⟩
          have HR5 := Lib.hid (HR4.out.fr hf5 (fun h => h))
          have HF5 : Hid (Fr (fun k => k = r) w w5) := Lib.hid (HF4.out.trans hf5 (fun _ _ h => h.elim))
          clear hf5 HDO2
          go_wp2_with fail
          refine (number_no 0 0 w5 _).mono ?_
          rintro e w6 ⟨rfl, rfl⟩
          go_upto_region 13 with fail
          go_wp2_with (refine store_st tokSz rfl (.tmp 6) (.tmp 55) rfl g (by rfl) [Value.int .u8 0, .int .i64 0, .int .i64 0] (by rfl) _ _ HR5.out rfl rfl (tok_one _ _ _) ?_)
          intro w9 hr9 hf9
          have d0 : w9.cell? ⟨g, 0, none⟩ = some (Value.int .u8 0) := hr9.cell rfl
          have d1 : w9.cell? ⟨g, 1, none⟩ = some (.int .i64 0) := hr9.cell rfl
          have d2 : w9.cell? ⟨g, 2, none⟩ = some (.int .i64 0) := hr9.cell rfl
          have HF9 : Hid (Fr (fun k => k = r) w w9) := Lib.hid (HF5.out.trans hf9 (fun b hb h => by have := HGR.out.2; omega))
          have HG9 := Lib.hid hf9
          clear hr9 hf9
          go_wp2_with fail
          exact bodyPost_ret (v := .tuple #[.agg #[.int .u8 0, .int .i64 0, .int .i64 0], .int .i64 3]) (by simp [results, Tryz.results96, go_sem, d0, d1, d2]) rfl (by rw [HX.out]; exact ⟨rfl, HF9.out⟩)
        obtain ⟨y0, hy0⟩ : ∃ y0, y0 = SyM.least SyM.dists d := ⟨_, rfl⟩
        obtain ⟨m0, hm0⟩ : ∃ m0, m0 = SyM.wid SyM.dists d := ⟨_, rfl⟩
        have hm13 : m0 ≤ 13 := by rw [hm0]; exact SyM.dists_wid _
        have hy40 : y0 ≤ 40000 := by rw [hy0]; exact distsLeast _
        have HDV : Hid (distOfV (d : Int) = (y0, m0, true)) := Lib.hid (by unfold distOfV; rw [if_pos (by omega), hy0, hm0, Int.toNat_natCast])
        have HM5 : Hid (RES = match addN y0 (InM.numR m0 r2) with
          | .error e => .error e
          | .ok (y, r) => .ok (mat xx y, r)) := Lib.hid (by
          rw [HM4.out, InM.distR, if_neg h29, hy0, hm0]
          cases InM.numR (SyM.wid SyM.dists d) r2 <;> rfl)
        have H29 := Lib.hid (And.intro hm13 hy40)
        clear h29 hy0 hm0 hm13 hy40 HM4
        cases hN : InM.numR m0 r2 with
        | error k =>
          have HX : Hid (RES = .error k) := Lib.hid (by rw [HM5.out, hN]; rfl)
          have HK : Hid (k ≠ 0) := Lib.hid (by
            unfold InM.numR at hN
            split at hN
            · injection hN with hN; omega
            · cases hN)
          have tk : ((k : Int) != 0) = true := by have := HK.out; simp; omega
          have HNY := Lib.hid hN
          clear hN HM5
          go_enter Tryz.func96, Tryz.ntmps96
          go_upto_region 1 with fail
          rw [← hw1, ← hg]
          clear hw1 hg
          go_wp2_with fail
          refine HLO2.out.mono ?_
          rintro e w2 ⟨rfl, hf2⟩
          have HR2 := Lib.hid (HR1.out.fr hf2 (fun h => h))
          have HF2 : Hid (Fr (fun k => k = r) w w2) := Lib.hid (HF1.out.trans hf2 (fun _ _ h => h.elim))
          have HNB4 := Lib.hid (HNB3.out w2 hf2)
          have HO2 := Lib.hid (HO1.out.fr0 hf2)
          have HD2 := Lib.hid (HD1.out.fr0 hf2)
          clear hf2 HLO2 HNB3
          go_wp2_with fail
          refine HNB4.out.mono ?_
          rintro e w3 ⟨p3, rfl, hre3, hr1, hf3⟩
          have HR3 := Lib.hid (HR2.out.fr hf3 HGR.out.1)
          have HF3 := Lib.hid (HF2.out.trans hf3 (fun _ _ h => h))
          have HO3 := Lib.hid (HO2.out.read hf3 hre3)
          have HR1E := Lib.hid hr1
          have HD3 := Lib.hid (HD2.out.fo HO2.out (to_fo hf3))
          clear hf3 HNB4 hre3 hr1
          have HCB : Hid (CB w3 (fun _ => True) da (ints b)) := Lib.hid (by
            rcases HD3.out with ⟨h, _⟩ | ⟨_, da2, h1, h2, _⟩
            · rw [HNN.out] at h; cases h
            · injection h1 with h1; rw [h1]; exact h2)
          have HSC : Hid (Calls Tryz.prog 95 #[.pointer (some ⟨o, 0, none⟩), .pointer (some da)] w3 fun e w' => ∃ p', e = .returned (.tuple #[.int .i64 (d : Int), .int .i64 0]) ∧ Re w' r A c B p' ∧ r2 = (bitsOf B).drop p' ∧ Fr (fun k => k = r) w3 w') := Lib.hid (by have h := osym_any HO3.out HCB.out HRB.out; rw [← HR1E.out, HSY.out] at h; exact h)
          go_wp2_with fail
          refine HSC.out.mono ?_
          rintro e w4 ⟨p4, rfl, hre4, hr2, hf4⟩
          have HR4 := Lib.hid (HR3.out.fr hf4 HGR.out.1)
          have HF4 := Lib.hid (HF3.out.trans hf4 (fun _ _ h => h))
          have HO4 := Lib.hid (HO3.out.read hf4 hre4)
          have HR2E := Lib.hid hr2
          clear hf4 HSC hre4 hr2
          have HDO := Lib.hid (distanceOf_any (d : Int) w4 HO4.out.gl.1 (by unfold inI; omega))
          have HDO2 : Hid (Calls Tryz.prog 104 #[.int .i64 (d : Int)] w4 fun e w' => e = .returned (.tuple #[.int .i64 (y0 : Int), .int .i64 (m0 : Int), .bool true]) ∧ Fr (fun _ => False) w4 w') := Lib.hid (by
            have h := HDO.out
            rw [HDV.out] at h
            exact h)
          clear HDO
          go_wp2_with fail
          refine HDO2.out.mono ?_
          rintro e w5 ⟨rfl, hf5⟩
          have HR5 := Lib.hid (HR4.out.fr hf5 (fun h => h))
          have HF5 : Hid (Fr (fun k => k = r) w w5) := Lib.hid (HF4.out.trans hf5 (fun _ _ h => h.elim))
          have HO5 := Lib.hid (HO4.out.fr0 hf5)
          clear hf5 HDO2
          have hnb := number_any HO5.out y0 m0 H29.out.2 H29.out.1
          rw [← HR2E.out, HNY.out] at hnb
          have HNC : Hid (Calls Tryz.prog 102 #[.pointer (some ⟨o, 0, none⟩), .int .i64 (y0 : Int), .int .i64 (m0 : Int), .bool true] w5 fun e w'' => e = .returned (.tuple #[.int .i64 0, .int .i64 (k : Int)]) ∧ Fr (fun k => k = r) w5 w'') := Lib.hid hnb
          clear hnb
          go_wp2_with fail
          refine HNC.out.mono ?_
          rintro e w6 ⟨rfl, hf6⟩
          have HR6 := Lib.hid (HR5.out.fr hf6 HGR.out.1)
          have HF6 := Lib.hid (HF5.out.trans hf6 (fun _ _ h => h))
          clear hf6 HNC
          go_upto_region 13 with fail
          go_wp2_with (refine store_st tokSz rfl (.tmp 6) (.tmp 55) rfl g (by rfl) [Value.int .u8 0, .int .i64 0, .int .i64 0] (by rfl) _ _ HR6.out rfl rfl (tok_one _ _ _) ?_)
          intro w9 hr9 hf9
          have d0 : w9.cell? ⟨g, 0, none⟩ = some (Value.int .u8 0) := hr9.cell rfl
          have d1 : w9.cell? ⟨g, 1, none⟩ = some (.int .i64 0) := hr9.cell rfl
          have d2 : w9.cell? ⟨g, 2, none⟩ = some (.int .i64 0) := hr9.cell rfl
          have HF9 : Hid (Fr (fun k => k = r) w w9) := Lib.hid (HF6.out.trans hf9 (fun b hb h => by have := HGR.out.2; omega))
          have HG9 := Lib.hid hf9
          clear hr9 hf9
          go_wp2_with fail
          exact bodyPost_ret (v := .tuple #[.agg #[.int .u8 0, .int .i64 0, .int .i64 0], .int .i64 (k : Int)]) (by simp [results, Tryz.results96, go_sem, d0, d1, d2]) rfl (by rw [HX.out]; exact ⟨rfl, HF9.out⟩)
        | ok yr =>
          obtain ⟨y, r3⟩ := yr
          obtain ⟨yy, hyy⟩ : ∃ yy, yy = y0 + y := ⟨_, rfl⟩
          have HX : Hid (RES = .ok (mat xx yy, r3)) := Lib.hid (by rw [HM5.out, hN, hyy]; rfl)
          have HNY := Lib.hid hN
          have HYY := Lib.hid hyy
          clear hN HM5 hyy
          go_enter Tryz.func96, Tryz.ntmps96
          go_upto_region 1 with fail
          rw [← hw1, ← hg]
          clear hw1 hg
          go_wp2_with fail
          refine HLO2.out.mono ?_
          rintro e w2 ⟨rfl, hf2⟩
          have HR2 := Lib.hid (HR1.out.fr hf2 (fun h => h))
          have HF2 : Hid (Fr (fun k => k = r) w w2) := Lib.hid (HF1.out.trans hf2 (fun _ _ h => h.elim))
          have HNB4 := Lib.hid (HNB3.out w2 hf2)
          have HO2 := Lib.hid (HO1.out.fr0 hf2)
          have HD2 := Lib.hid (HD1.out.fr0 hf2)
          clear hf2 HLO2 HNB3
          go_wp2_with fail
          refine HNB4.out.mono ?_
          rintro e w3 ⟨p3, rfl, hre3, hr1, hf3⟩
          have HR3 := Lib.hid (HR2.out.fr hf3 HGR.out.1)
          have HF3 := Lib.hid (HF2.out.trans hf3 (fun _ _ h => h))
          have HO3 := Lib.hid (HO2.out.read hf3 hre3)
          have HR1E := Lib.hid hr1
          have HD3 := Lib.hid (HD2.out.fo HO2.out (to_fo hf3))
          clear hf3 HNB4 hre3 hr1
          have HCB : Hid (CB w3 (fun _ => True) da (ints b)) := Lib.hid (by
            rcases HD3.out with ⟨h, _⟩ | ⟨_, da2, h1, h2, _⟩
            · rw [HNN.out] at h; cases h
            · injection h1 with h1; rw [h1]; exact h2)
          have HSC : Hid (Calls Tryz.prog 95 #[.pointer (some ⟨o, 0, none⟩), .pointer (some da)] w3 fun e w' => ∃ p', e = .returned (.tuple #[.int .i64 (d : Int), .int .i64 0]) ∧ Re w' r A c B p' ∧ r2 = (bitsOf B).drop p' ∧ Fr (fun k => k = r) w3 w') := Lib.hid (by have h := osym_any HO3.out HCB.out HRB.out; rw [← HR1E.out, HSY.out] at h; exact h)
          go_wp2_with fail
          refine HSC.out.mono ?_
          rintro e w4 ⟨p4, rfl, hre4, hr2, hf4⟩
          have HR4 := Lib.hid (HR3.out.fr hf4 HGR.out.1)
          have HF4 := Lib.hid (HF3.out.trans hf4 (fun _ _ h => h))
          have HO4 := Lib.hid (HO3.out.read hf4 hre4)
          have HR2E := Lib.hid hr2
          clear hf4 HSC hre4 hr2
          have HDO := Lib.hid (distanceOf_any (d : Int) w4 HO4.out.gl.1 (by unfold inI; omega))
          have HDO2 : Hid (Calls Tryz.prog 104 #[.int .i64 (d : Int)] w4 fun e w' => e = .returned (.tuple #[.int .i64 (y0 : Int), .int .i64 (m0 : Int), .bool true]) ∧ Fr (fun _ => False) w4 w') := Lib.hid (by
            have h := HDO.out
            rw [HDV.out] at h
            exact h)
          clear HDO
          go_wp2_with fail
          refine HDO2.out.mono ?_
          rintro e w5 ⟨rfl, hf5⟩
          have HR5 := Lib.hid (HR4.out.fr hf5 (fun h => h))
          have HF5 : Hid (Fr (fun k => k = r) w w5) := Lib.hid (HF4.out.trans hf5 (fun _ _ h => h.elim))
          have HO5 := Lib.hid (HO4.out.fr0 hf5)
          clear hf5 HDO2
          have hnb := number_any HO5.out y0 m0 H29.out.2 H29.out.1
          rw [← HR2E.out, HNY.out] at hnb
          have HNC : Hid (Calls Tryz.prog 102 #[.pointer (some ⟨o, 0, none⟩), .int .i64 (y0 : Int), .int .i64 (m0 : Int), .bool true] w5 fun e w'' => ∃ p', e = .returned (.tuple #[.int .i64 (yy : Int), .int .i64 0]) ∧ Re w'' r A c B p' ∧ r3 = (bitsOf B).drop p' ∧ Fr (fun k => k = r) w5 w'') := Lib.hid (by rw [HYY.out]; exact hnb)
          clear hnb
          go_wp2_with fail
          refine HNC.out.mono ?_
          rintro e w6 ⟨p6, rfl, hre6, hr3, hf6⟩
          have HR6 := Lib.hid (HR5.out.fr hf6 HGR.out.1)
          have HF6 := Lib.hid (HF5.out.trans hf6 (fun _ _ h => h))
          have HO6 := Lib.hid (HO5.out.read hf6 hre6)
          have HR3E := Lib.hid hr3
          clear hf6 HNC hre6 hr3
          go_wp2_with (refine store_st tokSz rfl (.tmp 6) (.tmp 59) rfl g (by rfl) [Value.int .u8 0, .int .i64 (xx : Int), .int .i64 (yy : Int)] (by rfl) _ _ HR6.out rfl rfl (tok_one _ _ _) ?_)
          intro w9 hr9 hf9
          have d0 : w9.cell? ⟨g, 0, none⟩ = some (Value.int .u8 0) := hr9.cell rfl
          have d1 : w9.cell? ⟨g, 1, none⟩ = some (.int .i64 (xx : Int)) := hr9.cell rfl
          have d2 : w9.cell? ⟨g, 2, none⟩ = some (.int .i64 (yy : Int)) := hr9.cell rfl
          have HF9 : Hid (Fr (fun k => k = r) w w9) := Lib.hid (HF6.out.trans hf9 (fun b hb h => by have := HGR.out.2; omega))
          have HG9 := Lib.hid hf9
          clear hr9 hf9
          go_wp2_with fail
          exact bodyPost_ret (v := .tuple #[.agg #[.int .u8 0, .int .i64 (xx : Int), .int .i64 (yy : Int)], .int .i64 0]) (by simp [results, Tryz.results96, go_sem, d0, d1, d2]) rfl (by
            rw [HX.out]
            exact ⟨p6, rfl, (HO6.out.re).fr HG9.out HGR.out.1.symm (fun k hk h => HAG.out (h ▸ hk)), HR3E.out, HF9.out⟩)
end
end Go.Proofs.YtgpkiijmembggaaGreatDoor
namespace Go.Proofs.YtgpkiijmembggaaGreatDoor
open Go.RowKit LzM Mem Go.Lib
set_option linter.unusedVariables false

theorem wide_max {t : Tok} {n : Nat} (h : rightT t (n : Nat) = true) : max t.l 1 = (wide t : Int) ∧ wide t ≤ 258 ∧ 1 ≤ wide t := by
  rcases right_cases h with ⟨b, rfl⟩ | ⟨L, D, rfl, h1, h2, _⟩
  · exact ⟨rfl, (show 1 ≤ 258 by omega), Nat.le_refl 1⟩
  · have hw : wide ⟨0, (L : Int), (D : Int)⟩ = L := by unfold wide; rw [if_neg (by simp only; omega)]; simp
    rw [hw]
    exact ⟨by show max (L : Int) 1 = L; omega, h2, by omega⟩
theorem addT_length {t : Tok} {B : List UInt8} (h : rightT t (B.length : Nat) = true) : (addT B t).length = B.length + wide t := by
  rcases right_cases h with ⟨b, rfl⟩ | ⟨L, D, rfl, h1, h2, _⟩
  · rw [addT, if_pos rfl]; simp [wide]
  · have hw : wide ⟨0, (L : Int), (D : Int)⟩ = L := by unfold wide; rw [if_neg (by simp only; omega)]; simp
    rw [hw]
    unfold addT
    rw [if_neg (by simp only; omega), copy_length]
    simp

end Go.Proofs.YtgpkiijmembggaaGreatDoor
