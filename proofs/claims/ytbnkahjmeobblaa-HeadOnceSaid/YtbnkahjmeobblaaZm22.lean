/-
  Layer 20: hashes in memory; two slices of bytes, compared.
  Layer 20, the program: rightNumber, rising.
-/
import Derived.Test.YtbnkahjmeobblaaHeM
import Derived.Test.YtbnkahjmeobblaaZm21
import Derived.Lib.Bytealg
import Derived.Stop.BytesEq
import Derived.Deep.MidRow
import Derived.Test.YtbnkahjmeobblaaZm11
import Derived.BigQuiet
namespace Go.Proofs.Ytbnkahjmeobblaa
open Go.RowKit Mem Go.Lib LebM UtfM VaM OpM AcM HeM
attribute [local go_sem ↓] Go.wp_at_zero Go.wp_at_succ
set_option linter.unusedVariables false

def hls (h : Tx) : List Value := (List.range 32).map (fun i => bytec (h.getD i 0))
theorem hls_len (h : Tx) : (hls h).length = 32 := by unfold hls; simp
theorem hls_eq {h : Tx} (hl : h.length = 32) : hls h = h.map bytec := by
  refine List.ext_getElem (by rw [hls_len, List.length_map, hl]) fun i h1 h2 => ?_
  rw [List.length_map] at h2
  simp only [hls, List.getElem_map, List.getElem_range]
  rw [List.getD_eq_getElem?_getD, List.getElem?_eq_getElem h2]
  rfl
/-- a slice reads as these hashes -/
def Hsh (w : World) (A : Option Addr) (n : Nat) (L : List Tx) : Prop := L.length = n ∧ (∀ h ∈ L, h.length = 32) ∧ ∀ k h, L[k]? = some h → ∃ g o, A = some ⟨g, o, none⟩ ∧ g < w.heap.size ∧ w.rangeAt g (o + k * 32) (h.map bytec)
theorem Hsh.nil (w : World) (A : Option Addr) : Hsh w A 0 [] := ⟨rfl, (fun h hh => by cases hh), fun k h hk => by simp at hk⟩
theorem range_fr {S : Nat → Prop} {w w' : World} {g o : Nat} {L : List Value} (h : w.rangeAt g o L) (hf : Fr S w w') (hS : ¬ S g) : w'.rangeAt g o L := fun j v hv => hf.cell (h j v hv) hS
theorem Hsh.frS {S : Nat → Prop} {w w' : World} {A : Option Addr} {n : Nat} {L : List Tx} (h : Hsh w A n L) (hf : Fr S w w') (hS : ∀ ad, A = some ad → ¬ S ad.block) : Hsh w' A n L :=
  ⟨h.1, h.2.1, fun k x hk => by
    obtain ⟨g, o, e, hg, hr⟩ := h.2.2 k x hk
    exact ⟨g, o, e, Nat.lt_of_lt_of_le hg hf.size, range_fr hr hf (hS ⟨g, o, none⟩ e)⟩⟩
theorem Hsh.fr {w w' : World} {A : Option Addr} {n : Nat} {L : List Tx} (h : Hsh w A n L) (hf : Fr (fun _ => False) w w') : Hsh w' A n L := h.frS hf (fun _ _ h => h)
/-- one hash of them, as bytes -/
theorem range_rd {w : World} {g o : Nat} {h : Tx} (hr : w.rangeAt g o (h.map bytec)) : Rd w (some ⟨g, o, none⟩) h.length (h.map bytec) := by
  refine ⟨by simp, fun _ => ⟨_, rfl, fun j x hx => ?_⟩⟩
  rw [Addr.add_mid]
  exact hr j x hx
/-- a row of one's own -/
def OwnH (w : World) (base : Nat) (A : Option Addr) (c : Nat) (L : List Tx) : Prop := w.ownsRow base 60 32 (.slice A L.length c) L.length (L.flatMap hls)
theorem OwnH.nil (w : World) (base : Nat) : OwnH w base none 0 [] := World.ownsRow_nil _ _ _ _
theorem OwnH.hsh {w : World} {base c : Nat} {A : Option Addr} {L : List Tx} (h : OwnH w base A c L) (h32 : ∀ h ∈ L, h.length = 32) : Hsh w A L.length L := by
  refine ⟨rfl, h32, fun k t ht => ?_⟩
  have hk := (List.getElem?_eq_some_iff.1 ht).1
  rcases h.2 with ⟨hv, h0⟩ | ⟨g, cap, cur, hv, _⟩
  · injection hv with _ h1 h2
    omega
  · have hA : A = some ⟨g, 0, none⟩ := by injection hv
    subst hA
    have hc := h.cells (g := g) rfl
    have hadd : ∀ j, (⟨g, 0, none⟩ : Addr).add j = ⟨g, j, none⟩ := fun j => by unfold Addr.add; split <;> simp_all
    refine ⟨g, 0, rfl, (h.lt g rfl).2, fun j v hv => ?_⟩
    rw [← hls_eq (h32 t (List.mem_of_getElem? ht))] at hv
    have hj : j < 32 := by have := (List.getElem?_eq_some_iff.1 hv).1; rwa [hls_len] at this
    rw [Nat.zero_add, ← hadd]
    exact hc _ _ ((flat_k hls 32 hls_len L k t ht j hj).trans hv)
theorem OwnH.fr {w w' : World} {base c : Nat} {A : Option Addr} {L : List Tx} (h : OwnH w base A c L) (hf : Fr (fun _ => False) w w') : OwnH w' base A c L := hf.own h (fun _ _ h => h)
theorem OwnH.frS {S : Nat → Prop} {w w' : World} {base c : Nat} {A : Option Addr} {L : List Tx} (h : OwnH w base A c L) (hf : Fr S w w') (hS : ∀ k, base ≤ k → ¬ S k) : OwnH w' base A c L := hf.own h (fun k hk => hS k (h.lt k hk).1)
theorem OwnH.base {w : World} {b b' c : Nat} {A : Option Addr} {L : List Tx} (h : OwnH w b A c L) (hb : b' ≤ b) : OwnH w b' A c L := own_base h hb
theorem OwnH.snoc {w : World} {base c : Nat} {A : Option Addr} {L : List Tx} {t : Tx} {N : Nat} (hN : N = L.length + 1) (h : w.ownsRow base 60 32 (.slice A N c) N (L.flatMap hls ++ hls t)) : OwnH w base A c (L ++ [t]) := by
  unfold OwnH
  rw [List.flatMap_append, List.flatMap_singleton, List.length_append, List.length_singleton, ← hN]
  exact h
theorem hls_one (h : Tx) : ∀ u ∈ hls h, u.oneCell' = true := by
  intro u hu
  obtain ⟨i, _, rfl⟩ := List.mem_map.1 hu
  rfl
theorem hb_one (h : Tx) : ∀ u ∈ h.map bytec, u.oneCell' = true := by
  intro u hu
  obtain ⟨i, _, rfl⟩ := List.mem_map.1 hu
  rfl
theorem hashT20 : RowTy Try.prog 60 32 := ⟨⟨_, _, Try.underlying60⟩, by kernel_rfl⟩
theorem hsz20 : (Try.prog.info? 60).map (·.size) = some 32 := by kernel_rfl
/-- hashes by == and != -/
theorem h_neq {x y : Tx} (hx : x.length = 32) (hy : y.length = 32) : (∀ (a b : Operand) (w : World), (eqGuard .neq 60 a b (.agg (x.map bytec).toArray) (.agg (y.map bytec).toArray)).run Try.prog w = .ok () w) ∧ (∀ w : World, (binOp .neq 60 (.agg (x.map bytec).toArray) (.agg (y.map bytec).toArray)).run Try.prog w = .ok (.bool (!(x == y))) w) := by
  refine ⟨fun a b w => run_eqGuard_agg w .neq _ a b _ _ (by kernel_rfl), fun w => ?_⟩
  have h := run_equalIn_bytes (P := Try.prog) w 9998 60 5 32 Try.underlying60 Try.underlying5 (fun w => by kernel_rfl) x y hx hy
  change (binOp .neq 60 (.agg (x.map Extern.Stop.cell).toArray) (.agg (y.map Extern.Stop.cell).toArray)).run Try.prog w = _
  rw [run_neq_struct, h]
  rfl

theorem run_loadBytes {P : Program} (w : World) : ∀ (B : List UInt8) (acc : ByteArray) (a : Addr), (∀ j b, B[j]? = some b → w.cell? (a.add j) = some (bytec b)) →
    (Extern.Bytes.loadBytes a B.length acc).run P w = .ok ⟨acc.data ++ B.toArray⟩ w
  | [], acc, a, _ => by
    simp [Extern.Bytes.loadBytes]
  | b :: B, acc, a, h => by
    have h0 := h 0 b rfl
    have ha0 : a.add 0 = a := by unfold Addr.add; split <;> simp_all
    rw [ha0] at h0
    have ih := run_loadBytes (P := P) w B (acc.push b) (a.add 1) (fun j c hc => by rw [add_add, Nat.add_comm]; exact h (j + 1) c hc)
    have e : (bytec b) = Value.int .u8 (b.toNat : Int) := rfl
    show (Extern.Bytes.loadBytes a (B.length + 1) acc).run P w = _
    unfold Extern.Bytes.loadBytes
    rw [Sem.run_bind]
    rw [show (Go.load a).run P w = .ok (bytec b) w from by simp [h0]]
    simp only [Result.andThen]
    rw [e]
    simp only [Int.toNat_natCast, Nat.toUInt8_eq, UInt8.ofNat_toNat]
    rw [ih]
    simp [ByteArray.push]
theorem run_bytesOf {P : Program} {w : World} {A : Option Addr} {n : Nat} (c : Nat) {B : List UInt8} (h : Rd w A n (B.map bytec)) : (Extern.Bytes.bytesOf (.slice A n c)).run P w = .ok (txt B) w := by
  have hl : B.length = n := by simpa using h.1
  cases A with
  | none =>
    have hn : n = 0 := by
      rcases Nat.eq_zero_or_pos n with h0 | h0
      · exact h0
      · obtain ⟨ad, e, _⟩ := h.2 h0
        cases e
    obtain rfl : B = [] := List.length_eq_zero_iff.1 (by omega)
    rfl
  | some a =>
    rcases Nat.eq_zero_or_pos n with h0 | h0
    · subst h0
      obtain rfl : B = [] := List.length_eq_zero_iff.1 hl
      rfl
    · obtain ⟨ad, e, hc⟩ := h.2 h0
      injection e with e
      subst e
      have hr := run_loadBytes (P := P) w B .empty a (fun j b hb => hc j _ (by rw [List.getElem?_map, hb]; rfl))
      rw [hl] at hr
      unfold Extern.Bytes.bytesOf
      rw [hr]
      congr 1
      simp [txt, ByteArray.empty, ByteArray.emptyWithCapacity]
      rfl
theorem run_compareBytes {P : Program} {w : World} {A A' : Option Addr} {n n' : Nat} (c c' : Nat) {B C : List UInt8} (h : Rd w A n (B.map bytec)) (h' : Rd w A' n' (C.map bytec)) :
    (Extern.BytealgCompare.compare #[.slice A n c, .slice A' n' c']).run P w = .ok (.int .i64 (compareBytes B C)) w := by
  change Sem.run P (do pure (goInt (Extern.BytealgCompare.cmp (← Extern.Bytes.bytesOf (.slice A n c)) (← Extern.Bytes.bytesOf (.slice A' n' c'))))) w = _
  rw [Sem.run_bind, run_bytesOf c h]
  simp only [Result.andThen]
  rw [Sem.run_bind, run_bytesOf c' h']
  simp only [Result.andThen, Sem.run_pure]
  rw [cmp_eq]
  rfl
theorem compare_ge : ∀ B C : List UInt8, decide (0 ≤ compareBytes B C) = !Op.bytesLess B C
  | [], [] => by simp [compareBytes, Op.bytesLess]
  | [], _ :: _ => by simp [compareBytes, Op.bytesLess]
  | _ :: _, [] => by simp [compareBytes, Op.bytesLess]
  | a :: B, b :: C => by
    unfold compareBytes Op.bytesLess
    have ih := compare_ge B C
    by_cases h1 : a < b
    · simp [h1]
    · by_cases h2 : b < a
      · have h3 : ¬ a = b := fun e => by subst e; exact UInt8.lt_irrefl _ h2
        simp [h1, h2, h3]
      · have h3 : a = b := UInt8.le_antisymm (UInt8.not_lt.1 h2) (UInt8.not_lt.1 h1)
        subst h3
        simp [h1, ih]
set_option maxRecDepth 100000 in
theorem compare_any (A : Option Addr) (n c : Nat) (B : List UInt8) (A' : Option Addr) (n' c' : Nat) (C : List UInt8) (w : World) (h : Rd w A n (B.map bytec)) (h' : Rd w A' n' (C.map bytec)) :
    Calls Try.prog 48 #[.slice A n c, .slice A' n' c'] w fun e w' => e = .returned (.int .i64 (compareBytes B C)) ∧ w = w' := by
  have H := Lib.hid (run_compareBytes (P := Try.prog) c c' h h')
  clear h h'
  go_enter Try.func48, Try.ntmps48
  go_wp2
  rw [run_callFunc_extern Try.func66 (by kernel_rfl) (by kernel_rfl) (by kernel_rfl) (e := Extern.BytealgCompare.compare) (by kernel_rfl), H.out]
  simp only [Result.andThen]
  rw [Oper.upon_value]
  go_wp2
  go_ret
  exact ⟨rfl, rfl⟩
end Go.Proofs.Ytbnkahjmeobblaa
namespace Go.Proofs.Ytbnkahjmeobblaa
open Go.RowKit Mem Go.Lib LebM UtfM VaM OpM AcM HeM
attribute [local go_sem ↓] Go.wp_at_zero Go.wp_at_succ
set_option linter.unusedVariables false

theorem sw20 {F : FuncId} {args : Array Value} {w : World} {v : Value} (h : Calls Try.prog F args w fun e w' => e = .returned v ∧ w = w') : Calls Try.prog F args w fun e w' => e = .returned v ∧ w' = w := h.mono (fun _ _ g => ⟨g.1, g.2.symm⟩)
set_option maxRecDepth 100000 in
theorem rightN_any (n : Int) (w : World) : Calls Try.prog 22 #[.int .i64 n] w fun e w' => e = .returned (.bool (rightN n)) ∧ w = w' := by
  obtain ⟨a, ha⟩ : ∃ a, decide (1 ≤ n) = a := ⟨_, rfl⟩
  obtain ⟨b, hb⟩ : ∃ b, decide (n ≤ 9007199254740991) = b := ⟨_, rfl⟩
  have e : rightN n = (a && b) := by unfold rightN; rw [ha, hb]
  rw [e]
  clear e
  cases a with
  | false =>
    go_enter Try.func22, Try.ntmps22
    go_wp2_with fail
    go_ret
    exact ⟨rfl, rfl⟩
  | true =>
    go_enter Try.func22, Try.ntmps22
    go_wp2_with fail
    go_ret
    exact ⟨rfl, rfl⟩
set_option maxRecDepth 100000 in
set_option maxHeartbeats 3200000 in
theorem rising_any (A : Option Addr) (n c : Nat) (L : List Tx) (w : World) (hL : Hsh w A n L) (hn : n ≤ 1000000) :
    Calls Try.prog 24 #[.slice A n c] w fun e w' => e = .returned (.bool (rises L)) ∧ Fr (fun _ => False) w w' := by
  have HL := Lib.hid hL
  have HLN := Lib.hid hL.1
  obtain ⟨r, hr⟩ : ∃ r, rises L = r := ⟨_, rfl⟩
  have HI := Lib.hid (rises_iff L)
  rw [hr] at HI ⊢
  clear hL hr
  go_enter Try.func24, Try.ntmps24
  go_wp2_with fail
  go_loopw [3] (fun v wr => ∃ i : Nat, 1 ≤ i ∧ (i ≤ n ∨ i = 1) ∧ v = .int .i64 (i : Int) ∧ Hid (∀ j, j + 1 < i → Op.bytesLess (L.getD j []) (L.getD (j + 1) []) = true) ∧ Hid (Fr (fun _ => False) w wr)) (fun v _ => n - (intOf v).toNat)
  case atStart => exact ⟨1, Nat.le_refl _, .inr rfl, rfl, Lib.hid (fun j hj => by omega), Lib.hid (Fr.refl _ _)⟩
  case round =>
    obtain ⟨i, hi1, hin, rfl, HE, HF⟩ := hrel
    rename World => wr
    by_cases hlt : i < n
    · obtain ⟨k, hk⟩ : ∃ k, i = k + 1 := ⟨i - 1, by omega⟩
      obtain ⟨x, hx⟩ : ∃ x, L[k]? = some x := ⟨_, List.getElem?_eq_getElem (by have := HLN.out; omega)⟩
      obtain ⟨y, hy⟩ : ∃ y, L[i]? = some y := ⟨_, List.getElem?_eq_getElem (by have := HLN.out; omega)⟩
      have hLr := HL.out.fr HF.out
      obtain ⟨g, o, rfl, _, hrx⟩ := hLr.2.2 k x hx
      obtain ⟨g', o', e', _, hry⟩ := hLr.2.2 i y hy
      injection e' with e'
      injection e' with e1 e2
      subst e1 e2
      have hx32 := HL.out.2.1 x (List.mem_of_getElem? hx)
      have hy32 := HL.out.2.1 y (List.mem_of_getElem? hy)
      have hrx' := range_rd hrx
      have hry' := range_rd hry
      rw [hx32] at hrx'
      rw [hy32] at hry'
      have hcm := sw20 (compare_any _ 32 32 x _ 32 32 y wr.drew hrx'.drew hry'.drew)
      have hge := compare_ge x y
      obtain ⟨d, hd⟩ : ∃ d, compareBytes x y = d := ⟨_, rfl⟩
      obtain ⟨b, hb⟩ : ∃ b, Op.bytesLess x y = b := ⟨_, rfl⟩
      rw [hd] at hcm hge
      rw [hb] at hge
      have HB : Hid (Op.bytesLess (L.getD k []) (L.getD (k + 1) []) = b) := Lib.hid (by rw [← hb, ← hk, List.getD_eq_getElem?_getD, List.getD_eq_getElem?_getD, hx, hy]; rfl)
      have HCM := Lib.hid hcm
      have HK := Lib.hid hk
      have e1 : IntKind.i64.wrap ((i : Int) - 1) = (k : Int) := by rw [IntKind.wrap_i64]; omega
      have hkn : k < n := by omega
      have t1 : decide ((i : Int) < (n : Int)) = true := decide_eq_true (by omega)
      clear hcm hrx hry hrx' hry' hx32 hy32 hLr hx hy hd hb hk
      cases b with
      | true =>
        have hge' : decide (0 ≤ d) = false := hge
        clear hge
        go_wp2_with fail
        refine wp_region_still_lit (by kernel_rfl) (by kernel_rfl) ?_
        repeat still_step
        still_call HCM.out
        repeat still_step
        refine wpStill_nil ?_
        go_wp2_with fail
        exact ⟨⟨i + 1, by omega, .inl (by omega), by congr 1, Lib.hid (fun j hj => by
          by_cases hj2 : j + 1 < i
          · exact HE.out j hj2
          · obtain rfl : j = k := by have := HK.out; omega
            exact HB.out), Lib.hid HF.out.drew⟩, by show n - ((i : Int) + 1).toNat < n - (i : Int).toNat; omega⟩
      | false =>
        have hge' : decide (0 ≤ d) = true := hge
        have HR : Hid (r = false) := Lib.hid (by
          cases r with
          | false => rfl
          | true =>
            have h := HI.out.1 rfl k (by have := HLN.out; have := HK.out; omega)
            rw [HB.out] at h
            cases h)
        have hrt := HR.out
        subst hrt
        clear hge
        go_wp2_with fail
        refine wp_region_still_lit (by kernel_rfl) (by kernel_rfl) ?_
        repeat still_step
        still_call HCM.out
        repeat still_step
        refine wpStill_nil ?_
        go_wp2_with fail
        go_ret
        exact ⟨rfl, HF.out.drew⟩
    · have t1 : decide ((i : Int) < (n : Int)) = false := decide_eq_false (by omega)
      have HR : Hid (r = true) := Lib.hid (HI.out.2 (fun j hj => HE.out j (by have := HLN.out; omega)))
      have hrt := HR.out
      subst hrt
      go_wp2_with fail
      go_ret
      exact ⟨rfl, HF.out⟩
end Go.Proofs.Ytbnkahjmeobblaa
