/-
  More words for layer 1's laws: append within a region that draws; Raw of whatever slice of no bytes.
-/
import Derived.Test.YtgoijbolokdbmaaF
namespace Go.Proofs.Ytgoijbolokdbmaa
open Go Go.RowKit BitsM Mem

section
variable {P : Program}
/-- append within a region that draws: the operation alone, and the step -/
theorem wp_appN {t e : TypeId} {z : Value} {bytes : Nat} (hT : ElemTy P t e z bytes) {o : Oper} {a : Act} {K : Act → World → Prop} {Q : Exit → Act → World → Prop} (w : World) (s x : Operand)
    (ho : o.op = .call { callee := .builtin .append, args := #[s, x], argTypes := #[t, t] })
    (base : Nat) (v : Value) (n : Nat) (xs : List Value) (hs : a.eval s = v) (hown : w.ownsRow base e 1 v n xs)
    (A : Option Addr) (m c : Nat) (news : List Value) (hx : a.eval x = .slice A m c) (hr : Rd w A m news) (h1 : ∀ u ∈ news, u.oneCell' = true)
    (N : Nat) (hN : N = n + m) (h63 : N ≤ maxLen) (hbytes : N * bytes ≤ 140737488355328) (hbase : base ≤ w.heap.size)
    (h : ∀ A' c' w', N ≤ c' → c' ≤ maxLen → w'.ownsRow base e 1 (.slice A' N c') N (xs ++ news) → Fr (fun k => v.ownBlock = some k) w w' →
      ((Value.slice A' N c').ownBlock = v.ownBlock ∨ (Value.slice A' N c').ownBlock = some w.heap.size) → K (a.put o.dst (.slice A' N c')) w') : o.wp P a w K Q := by
  subst hN
  obtain ⟨v', w', hrun, h2, h3, h4⟩ := run_app hT o.type w base v n xs hown A m c news hr h1 h63 hbytes hbase
  obtain ⟨A', c', rfl, hc1, hc2⟩ := own_form h2
  unfold Oper.wp execOp
  simp only [ho, resolve, invoke, builtin, Sem.run_bind, Sem.run_pure, Result.andThen_ok, List.map_toArray, List.map_cons, List.map_nil, hs, hx, hrun]
  exact h A' c' w' hc1 hc2 h2 h3 h4
theorem step_appN {t e : TypeId} {z : Value} {bytes : Nat} (hT : ElemTy P t e z bytes) {ops : Array Oper} {o : Oper} {a : Act} {K : Act → World → Prop} {Q : Exit → Act → World → Prop} {E : Prop} (w : World) (hgd : o.guard = none) (s x : Operand)
    (ho : o.op = .call { callee := .builtin .append, args := #[s, x], argTypes := #[t, t] })
    (base : Nat) (v : Value) (n : Nat) (xs : List Value) (hs : a.eval s = v) (hown : w.ownsRow base e 1 v n xs)
    (A : Option Addr) (m c : Nat) (news : List Value) (hx : a.eval x = .slice A m c) (hr : Rd w A m news) (h1 : ∀ u ∈ news, u.oneCell' = true)
    (N : Nat) (hN : N = n + m) (h63 : N ≤ maxLen) (hbytes : N * bytes ≤ 140737488355328) (hbase : base ≤ w.heap.size)
    (h : ∀ A' c' w', N ≤ c' → c' ≤ maxLen → w'.ownsRow base e 1 (.slice A' N c') N (xs ++ news) → Fr (fun k => v.ownBlock = some k) w w' →
      ((Value.slice A' N c').ownBlock = v.ownBlock ∨ (Value.slice A' N c').ownBlock = some w.heap.size) → K (a.put o.dst (.slice A' N c')) w') :
    if Region.wanted o (yielded ops a.tmps) = true then Oper.wp P o a w K Q else E := by
  rw [if_pos (by simp [Region.wanted, hgd])]
  exact wp_appN hT w s x ho base v n xs hs hown A m c news hx hr h1 N hN h63 hbytes hbase h
end

theorem Rd.fr' {S : Nat → Prop} {w w' : World} {A : Option Addr} {n : Nat} {xs : List Value} (h : Rd w A n xs) (hf : Fr S w w') (hp : 0 < n → ∀ ad, A = some ad → ¬ S ad.block) : Rd w' A n xs :=
  ⟨h.1, fun hn => by
    obtain ⟨ad, e, hc⟩ := h.2 hn
    exact ⟨ad, e, fun j u hu => hf.cell (hc j u hu) (by rw [add_block]; exact hp hn ad e)⟩⟩

set_option maxHeartbeats 800000 in
theorem wraw_any' (g c : Nat) (A A2 : Option Addr) (k c2 : Nat) (bs : List Bool) (B : List UInt8) (w : World) (hw : Wr w g A c bs) (hb : bs.length + 8 * k ≤ 1099511627776) (hr : Rd w A2 k (B.map bytec))
    (hA : 0 < k → ∀ ad, A2 = some ad → ¬ Ft g A ad.block) :
    Calls Try.prog 16 #[.pointer (some ⟨g, 0, none⟩), .slice A2 k c2] w fun e w' => e = .returned (.tuple #[]) ∧ ∃ A' c', Wr w' g A' c' (full bs ++ bitsOf B) ∧ Fr (Ft g A) w w' ∧ Nx w A A' := by
  have hBk : B.length = k := by simpa using hr.1
  subst hBk
  have hlk := lack_lt bs.length
  go_enter Try.func16, Try.ntmps16
  go_wp2_with fail
  refine (walign_any g c A bs w hw (by omega)).mono ?_
  rintro e w1 ⟨rfl, hw1, hfr1⟩
  have hr1 := Rd.fr' hr hfr1 hA
  have hfl : (full bs).length ≤ bs.length + 8 := by rw [full_length]; omega
  have hfm := full_mod bs
  obtain ⟨hg, hown⟩ := hw1
  obtain ⟨F, hF⟩ : ∃ F, F = full bs := ⟨_, rfl⟩
  rw [← hF] at hfl hfm hg hown
  have HF := Lib.hid hF
  have hsz := hfr1.size
  have hc0 : w1.cell? ⟨g, 0, none⟩ = some (.slice A ((F.length + 7) / 8) c) := cell_of hg 0
  obtain ⟨m, hm⟩ : ∃ m, m = (F.length + 7) / 8 + B.length := ⟨_, rfl⟩
  have hm40 : m ≤ 1099511627777 := by omega
  have HM := Lib.hid hm
  have HG := Lib.hid hg
  have HFM := Lib.hid hfm
  clear hF hw hr hA hm hg hfm
  go_wp2_with (at_builtin; refine wpList_appN u8T _ rfl _ _ rfl 0 _ _ _ rfl hown _ _ _ _ rfl hr1 (bytec_one _) m HM.out (by unfold maxLen; omega) (by omega) (Nat.zero_le _) ?_)
  intro A' c' w2 _ _ hown' hfr' hnx
  rw [bl_own, bl_own] at hnx
  rw [bl_own] at hfr'
  have hne := own_ne hown HG.out (by decide)
  rw [bl_own] at hne
  have hg2 := hfr'.blk HG.out hne
  obtain ⟨F1, F2, F3, F4, F5, F6, F7⟩ := wr_raw hg2 HFM.out HM.out hown' hfr' hnx
  have H1 := Lib.hid F1
  clear F1 hown' hown hc0 hg2
  go_wp2_with fail
  go_end0
  rw [← HF.out]
  exact ⟨rfl, A', c', H1.out, Fr.next hfr1 (Nx.refl _ _) F2, (Nx.refl _ _).trans F3 hsz⟩
end Go.Proofs.Ytgoijbolokdbmaa
