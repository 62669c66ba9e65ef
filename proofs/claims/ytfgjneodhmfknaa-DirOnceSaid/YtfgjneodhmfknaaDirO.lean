/-
  Layer 16's law DirOnce (written by gen_laws16.py).
-/
import Derived.Test.YtfgjneodhmfknaaDirK
import Derived.Test.YtfgjneodhmfknaaReg
import Derived.Deep.DeepCutAuto
import Derived.Deep.CutRange
namespace Go.Proofs.Ytfgjneodhmfknaa
open Go.RowKit Mem Go.Lib LebM DirM
attribute [local go_sem ↓] Go.wp_at_zero Go.wp_at_succ
set_option linter.unusedVariables false

theorem ok_lt : ∀ {l : List Col} {last : Int} {k : Nat} {x : Col}, Ok last l → l[k]? = some x → last < (x.1 : Int)
  | [], _, _, _, _, h => by simp at h
  | c :: l, last, 0, x, ho, h => by
    simp at h
    subst h
    exact ho.1
  | c :: l, last, k + 1, x, ho, h => by
    have h1 := ok_lt (l := l) (k := k) ho.2.2.2.2 (by simpa using h)
    have h2 := ho.1
    omega
theorem find_self : ∀ {l : List Col} {last : Int} {k : Nat} {x : Col}, Ok last l → l[k]? = some x → findC l (x.1 : Int) = x.2
  | [], _, _, _, _, h => by simp at h
  | c :: l, last, 0, x, ho, h => by
    simp at h
    subst h
    show (if (c.1 : Int) = (c.1 : Int) then c.2 else _) = _
    rw [if_pos rfl]
  | c :: l, last, k + 1, x, ho, h => by
    have h1 := ok_lt (l := l) (k := k) ho.2.2.2.2 (by simpa using h)
    show (if (c.1 : Int) = (x.1 : Int) then c.2 else findC l (x.1 : Int)) = _
    rw [if_neg (by omega)]
    exact find_self ho.2.2.2.2 (by simpa using h)
theorem ok_rise : ∀ {l : List Col} {last : Int} {k : Nat} {x y : Col}, Ok last l → l[k]? = some x → l[k + 1]? = some y → x.1 < y.1
  | [], _, _, _, _, _, h, _ => by simp at h
  | c :: l, last, 0, x, y, ho, h, h2 => by
    simp at h
    subst h
    have h3 := ok_lt (l := l) (k := 0) ho.2.2.2.2 (by simpa using h2)
    omega
  | c :: l, last, k + 1, x, y, ho, h, h2 => ok_rise (l := l) (k := k) ho.2.2.2.2 (by simpa using h) (by simpa using h2)
theorem ok_mem : ∀ {l : List Col} {last : Int}, Ok last l → ∀ x ∈ l, x.1 ≤ 1048576 ∧ 0 < x.2.length ∧ x.2.length ≤ 1048576
  | [], _, _ => fun x hx => by cases hx
  | c :: l, last, ho => fun x hx => by
    rcases List.mem_cons.1 hx with h | h
    · rw [h]; exact ⟨ho.2.1, ho.2.2.1, ho.2.2.2.1⟩
    · exact ok_mem ho.2.2.2.2 x h
theorem coD_len (l : List Col) : ∀ x ∈ l, x.2.length ≤ (dataC l).length := by
  induction l with
  | nil => intro x hx; cases hx
  | cons c l ih =>
    intro x hx
    show x.2.length ≤ (c.2 ++ dataC l).length
    rw [List.length_append]
    rcases List.mem_cons.1 hx with h | h
    · rw [h]; omega
    · have := ih x h; omega
set_option maxRecDepth 100000 in
set_option maxHeartbeats 12800000 in
theorem once16_law (A : Option Addr) (n c : Nat) (B : List UInt8) (w : World) (hr : Rd w A n (B.map bytec)) (hc : n ≤ c) (hn : n ≤ maxLen) :
    Calls Try.prog 6 #[.slice A n c] w fun e w' => e = .returned (.bool true) ∧ Fr (fun _ => False) w w' := by
  have hn : n ≤ 9223372036854775807 := hn
  have haw := fun w => awake16_any w
  have HAW := Lib.hid haw
  have HRD := Lib.hid hr
  clear haw hr
  by_cases hl : 1500 < n
  · have t1 : decide ((1500 : Int) < (n : Int)) = true := decide_eq_true (by omega)
    have t1' : decide (1500 < n) = true := decide_eq_true hl
    clear hl
    go_enter Try.func6, Try.ntmps6
    go_wp2_with fail
    refine (HAW.out w).mono ?_
    rintro e w1 ⟨rfl, hf1⟩
    have HF1 := Lib.hid hf1
    clear hf1
    go_wp2_with fail
    refine (HAW.out w1).mono ?_
    rintro e w2 ⟨rfl, hf2⟩
    have HF2 := Lib.hid (HF1.out.trans hf2 (fun _ _ h => h))
    clear hf2
    go_wp2_with fail
    go_ret
    exact ⟨rfl, HF2.out⟩
  · have t1 : decide ((1500 : Int) < (n : Int)) = false := decide_eq_false (by omega)
    have t1' : decide (1500 < n) = false := decide_eq_false hl
    have hBn : B.length = n := by have h := HRD.out.1; simpa using h
    obtain ⟨M, hM⟩ : ∃ M, M = (getC B).1 := ⟨_, rfl⟩
    obtain ⟨E, hE⟩ : ∃ E, E = (getC B).2 := ⟨_, rfl⟩
    have hga := fun w h => get_any A n c B w h hc (by omega)
    rw [← hM, ← hE] at hga
    have HGA := Lib.hid hga
    have HM := Lib.hid hM
    have HE := Lib.hid hE
    have HBN := Lib.hid hBn
    clear hga hM hE hBn
    go_enter Try.func6, Try.ntmps6
    go_wp2_with fail
    refine (HAW.out w).mono ?_
    rintro e w1 ⟨rfl, hf1⟩
    have HF1 := Lib.hid hf1
    clear hf1
    go_wp2_with fail
    refine (HGA.out w1 (HRD.out.fr HF1.out (fun _ _ h => h))).mono ?_
    rintro e w2 ⟨A2, c2, L, rfl, hL, hco, hf2⟩
    have HF2 := Lib.hid (HF1.out.trans hf2 (fun _ _ h => h))
    by_cases he : E = 0
    · subst he
      have hpg := put_get (B := B) HE.out.symm
      rw [← HM.out] at hpg
      obtain ⟨hm64, hok, hput⟩ := hpg
      have hln := map_len hL
      have hfl := ok_full hok
      obtain ⟨nL, hnL⟩ : ∃ nL, L.length = nL := ⟨_, rfl⟩
      rw [hnL] at hln hco ⊢
      have hmn : nL ≤ 64 := by omega
      have hbig : ∀ x ∈ M, x.2.length ≤ 1500 := by
        intro x hx
        have h1 := coD_len M x hx
        have h2 : (putC M).length = n := by rw [hput]; exact HBN.out
        unfold putC at h2
        rw [hfl, List.length_append, List.length_append] at h2
        omega
      have HOK := Lib.hid hok
      have HPUT := Lib.hid hput
      have HBIG := Lib.hid hbig
      have HL := Lib.hid hL
      have HCO := Lib.hid hco
      have HNL := Lib.hid hnL
      have hfi : ∀ w (id : Int), Cols w A2 nL L → Calls Try.prog 12 #[.slice A2 nL c2, .int .i64 id] w (Gives w (findC M id)) := by
        intro w id h
        have h2 := find_any A2 nL c2 L id w h (by omega) (fun x hx => by
          have h3 := HBIG.out x.v (by rw [← HL.out]; exact List.mem_map_of_mem hx)
          have h4 : x.v.2 = x.B := rfl
          rw [h4] at h3
          omega)
        rw [HL.out] at h2
        exact h2
      have hpu : ∀ w, Cols w A2 nL L → Calls Try.prog 10 #[.slice A2 nL c2] w (Gives w B) := by
        intro w h
        have h2 := put_any A2 nL c2 L w h (by omega) (fun x hx => by
          have h3 := (ok_mem HOK.out x.v (by rw [← HL.out]; exact List.mem_map_of_mem hx)).1
          have h4 : x.v.1 = x.id := rfl
          rw [h4] at h3
          omega) (fun x hx => by
          have h3 := HBIG.out x.v (by rw [← HL.out]; exact List.mem_map_of_mem hx)
          have h4 : x.v.2 = x.B := rfl
          rw [h4] at h3
          omega)
        rw [HL.out, HPUT.out] at h2
        exact h2
      have HFI := Lib.hid hfi
      have HPU := Lib.hid hpu
      clear hL hco hf2 hm64 hok hput hln hfl hnL hbig hfi hpu
      go_wp2_with fail
      go_loopw [5] (fun i wr => ∃ k : Nat, k ≤ nL ∧ i = .int .i64 (k : Int) ∧ Hid (Fr (fun _ => False) w2 wr)) (fun i _ => nL - (intOf i).toNat)
      case atStart => exact ⟨0, Nat.zero_le _, rfl, Fr.refl _ _⟩
      case round =>
        obtain ⟨k, hk, rfl, HF⟩ := hrel
        rename World => wr
        by_cases hlt : k < nL
        · obtain ⟨x, hx⟩ : ∃ x, L[k]? = some x := ⟨_, List.getElem?_eq_getElem (by have := HNL.out; omega)⟩
          have hmx : M[k]? = some x.v := by rw [← HL.out, List.getElem?_map, hx]; rfl
          have hby := HCO.out.2 x (List.mem_of_getElem? hx)
          have hprs := HCO.out.1.fr HF.out (fun _ _ => fun h => h)
          obtain ⟨gx, ox, hA2, _, h0, h1⟩ := hprs.2 k x hx
          have hxm := ok_mem HOK.out x.v (List.mem_of_getElem? hmx)
          have hfs := find_self HOK.out hmx
          have hv1 : x.v.1 = x.id := rfl
          have hv2 : x.v.2 = x.B := rfl
          rw [hv1, hv2] at hfs
          rw [hv2] at hxm
          simp only [idc, dac] at h0 h1
          obtain ⟨z, hz⟩ : ∃ z, x.B.length = z := ⟨_, rfl⟩
          obtain ⟨id, hid⟩ : ∃ id, x.id = id := ⟨_, rfl⟩
          obtain ⟨X, hX⟩ : ∃ X, x.B = X := ⟨_, rfl⟩
          have hfind := fun w h => HFI.out w (id : Int) h
          rw [hz] at h1 hxm
          rw [hid] at h0 hfs
          rw [hX] at hfs
          rw [hfs] at hfind
          have hrd := hby.1.fr HF.out (fun _ _ h => h)
          rw [hz, hX] at hrd
          have HRX := Lib.hid hrd
          have HFIND := Lib.hid hfind
          have HPRS := Lib.hid hprs
          have HMX := Lib.hid hmx
          have HIDX : Hid (x.v.1 = id) := Lib.hid (by rw [hv1, hid])
          have t0 : ((z : Int) == 0) = false := by simp; omega
          have t0' : (z == 0) = false := by simp; omega
          clear hx hmx hby hprs hfs hv1 hv2 hz hid hX hfind hrd hxm
          subst hA2
          by_cases hk0 : k = 0
          · subst hk0
            simp only [Nat.zero_mul, Nat.add_zero] at h0 h1
            go_upto_region 9 with fail
            refine wp_region_held_drew (S := fun w' => Fr (fun _ => False) wr w') (by kernel_rfl) ?_ (fun hHeld => ?_)
            · exact (Fr.refl _ _).drew
            refine wpAnyH_take (i := 0) (v := ?vz40) rfl (by kernel_rfl) (by kernel_rfl) (by kernel_rfl) (fun _ _ _ h => h) (Or.inl ⟨by rfl, ?hyz40⟩) hHeld ?restz40
            case hyz40 => intro w hSw; (try dsimp only at hSw); go_simp; try (with_reducible rfl)
            (try simp only [Act.put, List.setIfInBounds_toArray, List.set_cons_zero, List.set_cons_succ, List.getElem_toArray, List.getElem_cons_zero])
            refine wpAnyH_take (i := 1) (v := ?vz41) rfl (by kernel_rfl) (by kernel_rfl) (by kernel_rfl) (fun _ _ _ h => h) (Or.inl ⟨by rfl, ?hyz41⟩) hHeld ?restz41
            case hyz41 => intro w hSw; (try dsimp only at hSw); go_simp; try (with_reducible rfl)
            (try simp only [Act.put, List.setIfInBounds_toArray, List.set_cons_zero, List.set_cons_succ, List.getElem_toArray, List.getElem_cons_zero, List.getElem_cons_succ])
            refine wpAnyH_take (i := 2) (v := ?vz42) rfl (by kernel_rfl) (by kernel_rfl) (by kernel_rfl) (fun _ _ _ h => h) (Or.inl ⟨by rfl, ?hyz42⟩) hHeld ?restz42
            case hyz42 => intro w hSw; (try dsimp only at hSw); go_simp; try (with_reducible rfl)
            (try simp only [Act.put, List.setIfInBounds_toArray, List.set_cons_zero, List.set_cons_succ, List.getElem_toArray, List.getElem_cons_zero, List.getElem_cons_succ])
            refine wpAnyH_take (i := 3) (v := ?vz43) rfl (by kernel_rfl) (by kernel_rfl) (by kernel_rfl) (fun _ _ _ h => h) (Or.inl ⟨by rfl, ?hyz43⟩) hHeld ?restz43
            case hyz43 => intro w hSw; (try dsimp only at hSw); go_simp; try (with_reducible rfl)
            (try simp only [Act.put, List.setIfInBounds_toArray, List.set_cons_zero, List.set_cons_succ, List.getElem_toArray, List.getElem_cons_zero, List.getElem_cons_succ])
            refine wpAnyH_take (i := 4) (v := ?vz44) rfl (by kernel_rfl) (by kernel_rfl) (by kernel_rfl) (fun _ _ _ h => h) (Or.inl ⟨by rfl, ?hyz44⟩) hHeld ?restz44
            case hyz44 => intro w hSw; (try dsimp only at hSw); have q1 := hSw.cell h1 (fun h => h); go_simp; try (with_reducible rfl)
            (try simp only [Act.put, List.setIfInBounds_toArray, List.set_cons_zero, List.set_cons_succ, List.getElem_toArray, List.getElem_cons_zero, List.getElem_cons_succ])
            refine wpAnyH_take (i := 5) (v := ?vz45) rfl (by kernel_rfl) (by kernel_rfl) (by kernel_rfl) (fun _ _ _ h => h) (Or.inl ⟨by rfl, ?hyz45⟩) hHeld ?restz45
            case hyz45 => intro w hSw; (try dsimp only at hSw); go_simp; try (with_reducible rfl)
            (try simp only [Act.put, List.setIfInBounds_toArray, List.set_cons_zero, List.set_cons_succ, List.getElem_toArray, List.getElem_cons_zero, List.getElem_cons_succ])
            refine wpAnyH_take (i := 6) (v := ?vz46) rfl (by kernel_rfl) (by kernel_rfl) (by kernel_rfl) (fun _ _ _ h => h) (Or.inl ⟨by rfl, ?hyz46⟩) hHeld ?restz46
            case hyz46 => intro w hSw; (try dsimp only at hSw); go_simp; try (with_reducible rfl)
            (try simp only [Act.put, List.setIfInBounds_toArray, List.set_cons_zero, List.set_cons_succ, List.getElem_toArray, List.getElem_cons_zero, List.getElem_cons_succ])
            refine wpAnyH_take (i := 7) (v := ?vz47) rfl (by kernel_rfl) (by kernel_rfl) (by kernel_rfl) (fun _ _ _ h => h) (Or.inl ⟨by rfl, ?hyz47⟩) hHeld ?restz47
            case hyz47 => intro w hSw; (try dsimp only at hSw); go_simp; try (with_reducible rfl)
            (try simp only [Act.put, List.setIfInBounds_toArray, List.set_cons_zero, List.set_cons_succ, List.getElem_toArray, List.getElem_cons_zero, List.getElem_cons_succ])
            refine wpAnyH_take (i := 8) (v := ?vz48) rfl (by kernel_rfl) (by kernel_rfl) (by kernel_rfl) (fun _ _ _ h => h) (Or.inl ⟨by rfl, ?hyz48⟩) hHeld ?restz48
            case hyz48 => intro w hSw; (try dsimp only at hSw); go_simp; try (with_reducible rfl)
            (try simp only [Act.put, List.setIfInBounds_toArray, List.set_cons_zero, List.set_cons_succ, List.getElem_toArray, List.getElem_cons_zero, List.getElem_cons_succ])
            refine wpAnyH_take (i := 9) (v := ?vz49) rfl (by kernel_rfl) (by kernel_rfl) (by kernel_rfl) (fun _ _ _ h => h) (Or.inl ⟨by rfl, ?hyz49⟩) hHeld ?restz49
            case hyz49 => intro w hSw; (try dsimp only at hSw); go_simp; try (with_reducible rfl)
            (try simp only [Act.put, List.setIfInBounds_toArray, List.set_cons_zero, List.set_cons_succ, List.getElem_toArray, List.getElem_cons_zero, List.getElem_cons_succ])
            refine wpAnyH_take (i := 10) (v := ?vz410) rfl (by kernel_rfl) (by kernel_rfl) (by kernel_rfl) (fun _ _ _ h => h) (Or.inl ⟨by rfl, ?hyz410⟩) hHeld ?restz410
            case hyz410 => intro w hSw; (try dsimp only at hSw); go_simp; try (with_reducible rfl)
            (try simp only [Act.put, List.setIfInBounds_toArray, List.set_cons_zero, List.set_cons_succ, List.getElem_toArray, List.getElem_cons_zero, List.getElem_cons_succ])
            refine wpAnyH_take (i := 11) (v := undef) rfl (by kernel_rfl) (by kernel_rfl) (by kernel_rfl) (fun _ _ _ h => h) (Or.inr ⟨by rfl, rfl⟩) hHeld ?_
            (try simp only [Act.put, List.setIfInBounds_toArray, List.set_cons_zero, List.set_cons_succ, List.getElem_toArray, List.getElem_cons_zero, List.getElem_cons_succ])
            refine wpAnyH_take (i := 12) (v := undef) rfl (by kernel_rfl) (by kernel_rfl) (by kernel_rfl) (fun _ _ _ h => h) (Or.inr ⟨by rfl, rfl⟩) hHeld ?_
            (try simp only [Act.put, List.setIfInBounds_toArray, List.set_cons_zero, List.set_cons_succ, List.getElem_toArray, List.getElem_cons_zero, List.getElem_cons_succ])
            refine wpAnyH_take (i := 13) (v := undef) rfl (by kernel_rfl) (by kernel_rfl) (by kernel_rfl) (fun _ _ _ h => h) (Or.inr ⟨by rfl, rfl⟩) hHeld ?_
            (try simp only [Act.put, List.setIfInBounds_toArray, List.set_cons_zero, List.set_cons_succ, List.getElem_toArray, List.getElem_cons_zero, List.getElem_cons_succ])
            refine wpAnyH_take (i := 14) (v := undef) rfl (by kernel_rfl) (by kernel_rfl) (by kernel_rfl) (fun _ _ _ h => h) (Or.inr ⟨by rfl, rfl⟩) hHeld ?_
            (try simp only [Act.put, List.setIfInBounds_toArray, List.set_cons_zero, List.set_cons_succ, List.getElem_toArray, List.getElem_cons_zero, List.getElem_cons_succ])
            refine wpAnyH_take (i := 15) (v := undef) rfl (by kernel_rfl) (by kernel_rfl) (by kernel_rfl) (fun _ _ _ h => h) (Or.inr ⟨by rfl, rfl⟩) hHeld ?_
            (try simp only [Act.put, List.setIfInBounds_toArray, List.set_cons_zero, List.set_cons_succ, List.getElem_toArray, List.getElem_cons_zero, List.getElem_cons_succ])
            refine wpAnyH_take (i := 16) (v := undef) rfl (by kernel_rfl) (by kernel_rfl) (by kernel_rfl) (fun _ _ _ h => h) (Or.inr ⟨by rfl, rfl⟩) hHeld ?_
            (try simp only [Act.put, List.setIfInBounds_toArray, List.set_cons_zero, List.set_cons_succ, List.getElem_toArray, List.getElem_cons_zero, List.getElem_cons_succ])
            refine wpAnyH_take (i := 17) (v := undef) rfl (by kernel_rfl) (by kernel_rfl) (by kernel_rfl) (fun _ _ _ h => h) (Or.inr ⟨by rfl, rfl⟩) hHeld ?_
            (try simp only [Act.put, List.setIfInBounds_toArray, List.set_cons_zero, List.set_cons_succ, List.getElem_toArray, List.getElem_cons_zero, List.getElem_cons_succ])
            refine wpAnyH_take (i := 18) (v := undef) rfl (by kernel_rfl) (by kernel_rfl) (by kernel_rfl) (fun _ _ _ h => h) (Or.inr ⟨by rfl, rfl⟩) hHeld ?_
            (try simp only [Act.put, List.setIfInBounds_toArray, List.set_cons_zero, List.set_cons_succ, List.getElem_toArray, List.getElem_cons_zero, List.getElem_cons_succ])
            refine wpAnyH_take (i := 19) (v := undef) rfl (by kernel_rfl) (by kernel_rfl) (by kernel_rfl) (fun _ _ _ h => h) (Or.inr ⟨by rfl, rfl⟩) hHeld ?_
            (try simp only [Act.put, List.setIfInBounds_toArray, List.set_cons_zero, List.set_cons_succ, List.getElem_toArray, List.getElem_cons_zero, List.getElem_cons_succ])
            refine wpAnyH_take (i := 20) (v := undef) rfl (by kernel_rfl) (by kernel_rfl) (by kernel_rfl) (fun _ _ _ h => h) (Or.inr ⟨by rfl, rfl⟩) hHeld ?_
            (try simp only [Act.put, List.setIfInBounds_toArray, List.set_cons_zero, List.set_cons_succ, List.getElem_toArray, List.getElem_cons_zero, List.getElem_cons_succ])
            refine wpAnyH_take (i := 21) (v := undef) rfl (by kernel_rfl) (by kernel_rfl) (by kernel_rfl) (fun _ _ _ h => h) (Or.inr ⟨by rfl, rfl⟩) hHeld ?_
            (try simp only [Act.put, List.setIfInBounds_toArray, List.set_cons_zero, List.set_cons_succ, List.getElem_toArray, List.getElem_cons_zero, List.getElem_cons_succ])
            refine wpAnyH_take (i := 22) (v := undef) rfl (by kernel_rfl) (by kernel_rfl) (by kernel_rfl) (fun _ _ _ h => h) (Or.inr ⟨by rfl, rfl⟩) hHeld ?_
            (try simp only [Act.put, List.setIfInBounds_toArray, List.set_cons_zero, List.set_cons_succ, List.getElem_toArray, List.getElem_cons_zero, List.getElem_cons_succ])
            refine wpAnyH_take (i := 23) (v := ?vz423) rfl (by kernel_rfl) (by kernel_rfl) (by kernel_rfl) (fun _ _ _ h => h) (Or.inl ⟨by rfl, ?hyz423⟩) hHeld ?restz423
            case hyz423 => intro w hSw; (try dsimp only at hSw); go_simp; try (with_reducible rfl)
            (try simp only [Act.put, List.setIfInBounds_toArray, List.set_cons_zero, List.set_cons_succ, List.getElem_toArray, List.getElem_cons_zero, List.getElem_cons_succ])
            refine wpAnyH_take (i := 24) (v := ?vz424) rfl (by kernel_rfl) (by kernel_rfl) (by kernel_rfl) (fun _ _ _ h => h) (Or.inl ⟨by rfl, ?hyz424⟩) hHeld ?restz424
            case hyz424 => intro w hSw; (try dsimp only at hSw); go_simp; try (with_reducible rfl)
            (try simp only [Act.put, List.setIfInBounds_toArray, List.set_cons_zero, List.set_cons_succ, List.getElem_toArray, List.getElem_cons_zero, List.getElem_cons_succ])
            refine wpAnyH_take (i := 25) (v := ?vz425) rfl (by kernel_rfl) (by kernel_rfl) (by kernel_rfl) (fun _ _ _ h => h) (Or.inl ⟨by rfl, ?hyz425⟩) hHeld ?restz425
            case hyz425 => intro w hSw; (try dsimp only at hSw); go_simp; try (with_reducible rfl)
            (try simp only [Act.put, List.setIfInBounds_toArray, List.set_cons_zero, List.set_cons_succ, List.getElem_toArray, List.getElem_cons_zero, List.getElem_cons_succ])
            refine wpAnyH_take (i := 26) (v := ?vz426) rfl (by kernel_rfl) (by kernel_rfl) (by kernel_rfl) (fun _ _ _ h => h) (Or.inl ⟨by rfl, ?hyz426⟩) hHeld ?restz426
            case hyz426 => intro w hSw; (try dsimp only at hSw); go_simp; try (with_reducible rfl)
            (try simp only [Act.put, List.setIfInBounds_toArray, List.set_cons_zero, List.set_cons_succ, List.getElem_toArray, List.getElem_cons_zero, List.getElem_cons_succ])
            refine wpAnyH_take (i := 27) (v := ?vz427) rfl (by kernel_rfl) (by kernel_rfl) (by kernel_rfl) (fun _ _ _ h => h) (Or.inl ⟨by rfl, ?hyz427⟩) hHeld ?restz427
            case hyz427 => intro w hSw; (try dsimp only at hSw); go_simp; try (with_reducible rfl)
            (try simp only [Act.put, List.setIfInBounds_toArray, List.set_cons_zero, List.set_cons_succ, List.getElem_toArray, List.getElem_cons_zero, List.getElem_cons_succ])
            refine wpAnyH_take (i := 28) (v := ?vz428) rfl (by kernel_rfl) (by kernel_rfl) (by kernel_rfl) (fun _ _ _ h => h) (Or.inl ⟨by rfl, ?hyz428⟩) hHeld ?restz428
            case hyz428 => intro w hSw; (try dsimp only at hSw); go_simp; try (with_reducible rfl)
            (try simp only [Act.put, List.setIfInBounds_toArray, List.set_cons_zero, List.set_cons_succ, List.getElem_toArray, List.getElem_cons_zero, List.getElem_cons_succ])
            refine wpAnyH_take (i := 29) (v := ?vz429) rfl (by kernel_rfl) (by kernel_rfl) (by kernel_rfl) (fun _ _ _ h => h) (Or.inl ⟨by rfl, ?hyz429⟩) hHeld ?restz429
            case hyz429 => intro w hSw; (try dsimp only at hSw); go_simp; try (with_reducible rfl)
            (try simp only [Act.put, List.setIfInBounds_toArray, List.set_cons_zero, List.set_cons_succ, List.getElem_toArray, List.getElem_cons_zero, List.getElem_cons_succ])
            refine wpAnyH_take (i := 30) (v := ?vz430) rfl (by kernel_rfl) (by kernel_rfl) (by kernel_rfl) (fun _ _ _ h => h) (Or.inl ⟨by rfl, ?hyz430⟩) hHeld ?restz430
            case hyz430 => intro w hSw; (try dsimp only at hSw); go_simp; try (with_reducible rfl)
            (try simp only [Act.put, List.setIfInBounds_toArray, List.set_cons_zero, List.set_cons_succ, List.getElem_toArray, List.getElem_cons_zero, List.getElem_cons_succ])
            refine wpAnyH_take (i := 31) (v := ?vz431) rfl (by kernel_rfl) (by kernel_rfl) (by kernel_rfl) (fun _ _ _ h => h) (Or.inl ⟨by rfl, ?hyz431⟩) hHeld ?restz431
            case hyz431 => intro w hSw; (try dsimp only at hSw); have q0 := hSw.cell h0 (fun h => h); go_simp; try (with_reducible rfl)
            (try simp only [Act.put, List.setIfInBounds_toArray, List.set_cons_zero, List.set_cons_succ, List.getElem_toArray, List.getElem_cons_zero, List.getElem_cons_succ])
            refine wpAnyH_take (i := 34) (v := ?vz434) rfl (by kernel_rfl) (by kernel_rfl) (by kernel_rfl) (fun _ _ _ h => h) (Or.inl ⟨by rfl, ?hyz434⟩) hHeld ?restz434
            case hyz434 => intro w hSw; (try dsimp only at hSw); go_simp; try (with_reducible rfl)
            (try simp only [Act.put, List.setIfInBounds_toArray, List.set_cons_zero, List.set_cons_succ, List.getElem_toArray, List.getElem_cons_zero, List.getElem_cons_succ])
            refine wpAnyH_take (i := 35) (v := ?vz435) rfl (by kernel_rfl) (by kernel_rfl) (by kernel_rfl) (fun _ _ _ h => h) (Or.inl ⟨by rfl, ?hyz435⟩) hHeld ?restz435
            case hyz435 => intro w hSw; (try dsimp only at hSw); go_simp; try (with_reducible rfl)
            (try simp only [Act.put, List.setIfInBounds_toArray, List.set_cons_zero, List.set_cons_succ, List.getElem_toArray, List.getElem_cons_zero, List.getElem_cons_succ])
            refine wpAnyH_take (i := 36) (v := ?vz436) rfl (by kernel_rfl) (by kernel_rfl) (by kernel_rfl) (fun _ _ _ h => h) (Or.inl ⟨by rfl, ?hyz436⟩) hHeld ?restz436
            case hyz436 => intro w hSw; (try dsimp only at hSw); go_simp; try (with_reducible rfl)
            (try simp only [Act.put, List.setIfInBounds_toArray, List.set_cons_zero, List.set_cons_succ, List.getElem_toArray, List.getElem_cons_zero, List.getElem_cons_succ])
            refine wpAnyH_take (i := 37) (v := ?vz437) rfl (by kernel_rfl) (by kernel_rfl) (by kernel_rfl) (fun _ _ _ h => h) (Or.inl ⟨by rfl, ?hyz437⟩) hHeld ?restz437
            case hyz437 => intro w hSw; (try dsimp only at hSw); go_simp; try (with_reducible rfl)
            (try simp only [Act.put, List.setIfInBounds_toArray, List.set_cons_zero, List.set_cons_succ, List.getElem_toArray, List.getElem_cons_zero, List.getElem_cons_succ])
            refine wpAnyH_take (i := 38) (v := ?vz438) rfl (by kernel_rfl) (by kernel_rfl) (by kernel_rfl) (fun _ _ _ h => h) (Or.inl ⟨by rfl, ?hyz438⟩) hHeld ?restz438
            case hyz438 => intro w hSw; (try dsimp only at hSw); have q1 := hSw.cell h1 (fun h => h); go_simp; try (with_reducible rfl)
            (try simp only [Act.put, List.setIfInBounds_toArray, List.set_cons_zero, List.set_cons_succ, List.getElem_toArray, List.getElem_cons_zero, List.getElem_cons_succ])
            refine wpAnyH_take (i := 39) (v := ?vz439) rfl (by kernel_rfl) (by kernel_rfl) (by kernel_rfl) (fun _ _ _ h => h) (Or.inl ⟨by rfl, ?hyz439⟩) hHeld ?restz439
            case hyz439 => intro w hSw; (try dsimp only at hSw); have hcv := str_rd (HRX.out.fr hSw (fun _ _ h => h)) x.c; go_simp; try (with_reducible rfl)
            (try simp only [Act.put, List.setIfInBounds_toArray, List.set_cons_zero, List.set_cons_succ, List.getElem_toArray, List.getElem_cons_zero, List.getElem_cons_succ])
            refine wpAnyH_ready (rs := [32]) (by kernel_rfl) (by simp) ?_
            refine AllReadyH.cons rfl (fun Kx hKx => ?_) AllReadyH.nil
            go_simp
            have hcon := HFIND.out wr.drew ((HCO.out.fr HF.out).fr (Fr.refl _ _).drew)
            with_reducible refine hcon.mono ?_
            clear hcon
            rintro e' wq ⟨A5, c5, rfl, ho5, hff⟩
            have HFwq : Hid (Fr (fun _ => False) wr wq) := Lib.hid ((Fr.refl _ _).drew.trans hff (fun _ _ h => h))
            have HO5 := Lib.hid ho5
            clear ho5
            refine hKx.out _ _ ?_ (fun hHeld => ?_)
            · exact HFwq.out
            clear hKx Kx hff
            (try simp only [Act.put, List.setIfInBounds_toArray, List.set_cons_zero, List.set_cons_succ, List.getElem_toArray, List.getElem_cons_zero, List.getElem_cons_succ])
            refine wpAnyH_more (fun w' => Fr (fun _ => False) wq w') (fun _ h => HFwq.out.trans h (fun _ _ h => h)) ?_ (fun hHeld => ?_)
            · exact Fr.refl _ _
            refine wpAnyH_take (i := 33) (v := ?vz433) rfl (by kernel_rfl) (by kernel_rfl) (by kernel_rfl) (fun _ _ _ h => h) (Or.inl ⟨by rfl, ?hyz433⟩) hHeld ?restz433
            case hyz433 => intro w hSw; (try dsimp only at hSw); have hcv := (HO5.out.fr hSw).str; go_simp; try (with_reducible rfl)
            (try simp only [Act.put, List.setIfInBounds_toArray, List.set_cons_zero, List.set_cons_succ, List.getElem_toArray, List.getElem_cons_zero, List.getElem_cons_succ])
            refine wpAnyH_take (i := 40) (v := ?vz440) rfl (by kernel_rfl) (by kernel_rfl) (by kernel_rfl) (fun _ _ _ h => h) (Or.inl ⟨by rfl, ?hyz440⟩) hHeld ?restz440
            case hyz440 => intro w hSw; (try dsimp only at hSw); go_simp; try (with_reducible rfl)
            (try simp only [Act.put, List.setIfInBounds_toArray, List.set_cons_zero, List.set_cons_succ, List.getElem_toArray, List.getElem_cons_zero, List.getElem_cons_succ])
            refine wpAnyH_take (i := 41) (v := ?vz441) rfl (by kernel_rfl) (by kernel_rfl) (by kernel_rfl) (fun _ _ _ h => h) (Or.inl ⟨by rfl, ?hyz441⟩) hHeld ?restz441
            case hyz441 => intro w hSw; (try dsimp only at hSw); go_simp; try (with_reducible rfl)
            (try simp only [Act.put, List.setIfInBounds_toArray, List.set_cons_zero, List.set_cons_succ, List.getElem_toArray, List.getElem_cons_zero, List.getElem_cons_succ])
            refine wpAnyH_done (by kernel_rfl) ?_ _
            go_wp2_with fail
            go_roundw
            case rel => exact ⟨0 + 1, by omega, by go_num, HF.out.trans HFwq.out (fun _ _ h => h)⟩
            case measure => simp [intOf] <;> omega
          · obtain ⟨j, hj⟩ : ∃ j, k = j + 1 := ⟨k - 1, by omega⟩
            have hjn : j < nL := by omega
            obtain ⟨y, hy⟩ : ∃ y, L[j]? = some y := ⟨_, List.getElem?_eq_getElem (by have := HNL.out; omega)⟩
            have hmy : M[j]? = some y.v := by rw [← HL.out, List.getElem?_map, hy]; rfl
            obtain ⟨gy, oy, e, _, p0, _⟩ := HPRS.out.2 j y hy
            injection e with e
            injection e with e1 e2
            subst e1 e2
            have hrise := ok_rise HOK.out hmy (by rw [← hj]; exact HMX.out)
            rw [HIDX.out] at hrise
            obtain ⟨idp, hidp⟩ : ∃ idp, y.id = idp := ⟨_, rfl⟩
            have hvy : y.v.1 = y.id := rfl
            rw [hvy, hidp] at hrise
            simp only [idc] at p0
            rw [hidp] at p0
            have t2 : decide ((0 : Int) < (k : Int)) = true := decide_eq_true (by omega)
            have t2' : decide (0 < k) = true := decide_eq_true (by omega)
            have t3 : decide ((id : Int) ≤ (idp : Int)) = false := decide_eq_false (by omega)
            have t3' : decide (id ≤ idp) = false := decide_eq_false (by omega)
            have r1 : IntKind.i64.wrap ((k : Int) - 1) = (j : Int) := by rw [IntKind.wrap_i64]; omega
            have HJ := Lib.hid hj
            clear hy hmy hrise hidp hvy hk0 hj
            go_upto_region 9 with fail
            refine wp_region_held_drew (S := fun w' => Fr (fun _ => False) wr w') (by kernel_rfl) ?_ (fun hHeld => ?_)
            · exact (Fr.refl _ _).drew
            refine wpAnyH_take (i := 0) (v := ?vz50) rfl (by kernel_rfl) (by kernel_rfl) (by kernel_rfl) (fun _ _ _ h => h) (Or.inl ⟨by rfl, ?hyz50⟩) hHeld ?restz50
            case hyz50 => intro w hSw; (try dsimp only at hSw); go_simp; try (with_reducible rfl)
            (try simp only [Act.put, List.setIfInBounds_toArray, List.set_cons_zero, List.set_cons_succ, List.getElem_toArray, List.getElem_cons_zero])
            refine wpAnyH_take (i := 1) (v := ?vz51) rfl (by kernel_rfl) (by kernel_rfl) (by kernel_rfl) (fun _ _ _ h => h) (Or.inl ⟨by rfl, ?hyz51⟩) hHeld ?restz51
            case hyz51 => intro w hSw; (try dsimp only at hSw); go_simp; try (with_reducible rfl)
            (try simp only [Act.put, List.setIfInBounds_toArray, List.set_cons_zero, List.set_cons_succ, List.getElem_toArray, List.getElem_cons_zero, List.getElem_cons_succ])
            refine wpAnyH_take (i := 2) (v := ?vz52) rfl (by kernel_rfl) (by kernel_rfl) (by kernel_rfl) (fun _ _ _ h => h) (Or.inl ⟨by rfl, ?hyz52⟩) hHeld ?restz52
            case hyz52 => intro w hSw; (try dsimp only at hSw); go_simp; try (with_reducible rfl)
            (try simp only [Act.put, List.setIfInBounds_toArray, List.set_cons_zero, List.set_cons_succ, List.getElem_toArray, List.getElem_cons_zero, List.getElem_cons_succ])
            refine wpAnyH_take (i := 3) (v := ?vz53) rfl (by kernel_rfl) (by kernel_rfl) (by kernel_rfl) (fun _ _ _ h => h) (Or.inl ⟨by rfl, ?hyz53⟩) hHeld ?restz53
            case hyz53 => intro w hSw; (try dsimp only at hSw); go_simp; try (with_reducible rfl)
            (try simp only [Act.put, List.setIfInBounds_toArray, List.set_cons_zero, List.set_cons_succ, List.getElem_toArray, List.getElem_cons_zero, List.getElem_cons_succ])
            refine wpAnyH_take (i := 4) (v := ?vz54) rfl (by kernel_rfl) (by kernel_rfl) (by kernel_rfl) (fun _ _ _ h => h) (Or.inl ⟨by rfl, ?hyz54⟩) hHeld ?restz54
            case hyz54 => intro w hSw; (try dsimp only at hSw); have q1 := hSw.cell h1 (fun h => h); go_simp; try (with_reducible rfl)
            (try simp only [Act.put, List.setIfInBounds_toArray, List.set_cons_zero, List.set_cons_succ, List.getElem_toArray, List.getElem_cons_zero, List.getElem_cons_succ])
            refine wpAnyH_take (i := 5) (v := ?vz55) rfl (by kernel_rfl) (by kernel_rfl) (by kernel_rfl) (fun _ _ _ h => h) (Or.inl ⟨by rfl, ?hyz55⟩) hHeld ?restz55
            case hyz55 => intro w hSw; (try dsimp only at hSw); go_simp; try (with_reducible rfl)
            (try simp only [Act.put, List.setIfInBounds_toArray, List.set_cons_zero, List.set_cons_succ, List.getElem_toArray, List.getElem_cons_zero, List.getElem_cons_succ])
            refine wpAnyH_take (i := 6) (v := ?vz56) rfl (by kernel_rfl) (by kernel_rfl) (by kernel_rfl) (fun _ _ _ h => h) (Or.inl ⟨by rfl, ?hyz56⟩) hHeld ?restz56
            case hyz56 => intro w hSw; (try dsimp only at hSw); go_simp; try (with_reducible rfl)
            (try simp only [Act.put, List.setIfInBounds_toArray, List.set_cons_zero, List.set_cons_succ, List.getElem_toArray, List.getElem_cons_zero, List.getElem_cons_succ])
            refine wpAnyH_take (i := 7) (v := ?vz57) rfl (by kernel_rfl) (by kernel_rfl) (by kernel_rfl) (fun _ _ _ h => h) (Or.inl ⟨by rfl, ?hyz57⟩) hHeld ?restz57
            case hyz57 => intro w hSw; (try dsimp only at hSw); go_simp; try (with_reducible rfl)
            (try simp only [Act.put, List.setIfInBounds_toArray, List.set_cons_zero, List.set_cons_succ, List.getElem_toArray, List.getElem_cons_zero, List.getElem_cons_succ])
            refine wpAnyH_take (i := 8) (v := ?vz58) rfl (by kernel_rfl) (by kernel_rfl) (by kernel_rfl) (fun _ _ _ h => h) (Or.inl ⟨by rfl, ?hyz58⟩) hHeld ?restz58
            case hyz58 => intro w hSw; (try dsimp only at hSw); go_simp; try (with_reducible rfl)
            (try simp only [Act.put, List.setIfInBounds_toArray, List.set_cons_zero, List.set_cons_succ, List.getElem_toArray, List.getElem_cons_zero, List.getElem_cons_succ])
            refine wpAnyH_take (i := 9) (v := ?vz59) rfl (by kernel_rfl) (by kernel_rfl) (by kernel_rfl) (fun _ _ _ h => h) (Or.inl ⟨by rfl, ?hyz59⟩) hHeld ?restz59
            case hyz59 => intro w hSw; (try dsimp only at hSw); go_simp; try (with_reducible rfl)
            (try simp only [Act.put, List.setIfInBounds_toArray, List.set_cons_zero, List.set_cons_succ, List.getElem_toArray, List.getElem_cons_zero, List.getElem_cons_succ])
            refine wpAnyH_take (i := 10) (v := ?vz510) rfl (by kernel_rfl) (by kernel_rfl) (by kernel_rfl) (fun _ _ _ h => h) (Or.inl ⟨by rfl, ?hyz510⟩) hHeld ?restz510
            case hyz510 => intro w hSw; (try dsimp only at hSw); go_simp; try (with_reducible rfl)
            (try simp only [Act.put, List.setIfInBounds_toArray, List.set_cons_zero, List.set_cons_succ, List.getElem_toArray, List.getElem_cons_zero, List.getElem_cons_succ])
            refine wpAnyH_take (i := 11) (v := ?vz511) rfl (by kernel_rfl) (by kernel_rfl) (by kernel_rfl) (fun _ _ _ h => h) (Or.inl ⟨by rfl, ?hyz511⟩) hHeld ?restz511
            case hyz511 => intro w hSw; (try dsimp only at hSw); go_simp; try (with_reducible rfl)
            (try simp only [Act.put, List.setIfInBounds_toArray, List.set_cons_zero, List.set_cons_succ, List.getElem_toArray, List.getElem_cons_zero, List.getElem_cons_succ])
            refine wpAnyH_take (i := 12) (v := ?vz512) rfl (by kernel_rfl) (by kernel_rfl) (by kernel_rfl) (fun _ _ _ h => h) (Or.inl ⟨by rfl, ?hyz512⟩) hHeld ?restz512
            case hyz512 => intro w hSw; (try dsimp only at hSw); go_simp; try (with_reducible rfl)
            (try simp only [Act.put, List.setIfInBounds_toArray, List.set_cons_zero, List.set_cons_succ, List.getElem_toArray, List.getElem_cons_zero, List.getElem_cons_succ])
            refine wpAnyH_take (i := 13) (v := ?vz513) rfl (by kernel_rfl) (by kernel_rfl) (by kernel_rfl) (fun _ _ _ h => h) (Or.inl ⟨by rfl, ?hyz513⟩) hHeld ?restz513
            case hyz513 => intro w hSw; (try dsimp only at hSw); go_simp; try (with_reducible rfl)
            (try simp only [Act.put, List.setIfInBounds_toArray, List.set_cons_zero, List.set_cons_succ, List.getElem_toArray, List.getElem_cons_zero, List.getElem_cons_succ])
            refine wpAnyH_take (i := 14) (v := ?vz514) rfl (by kernel_rfl) (by kernel_rfl) (by kernel_rfl) (fun _ _ _ h => h) (Or.inl ⟨by rfl, ?hyz514⟩) hHeld ?restz514
            case hyz514 => intro w hSw; (try dsimp only at hSw); go_simp; try (with_reducible rfl)
            (try simp only [Act.put, List.setIfInBounds_toArray, List.set_cons_zero, List.set_cons_succ, List.getElem_toArray, List.getElem_cons_zero, List.getElem_cons_succ])
            refine wpAnyH_take (i := 15) (v := ?vz515) rfl (by kernel_rfl) (by kernel_rfl) (by kernel_rfl) (fun _ _ _ h => h) (Or.inl ⟨by rfl, ?hyz515⟩) hHeld ?restz515
            case hyz515 => intro w hSw; (try dsimp only at hSw); have q0 := hSw.cell h0 (fun h => h); go_simp; try (with_reducible rfl)
            (try simp only [Act.put, List.setIfInBounds_toArray, List.set_cons_zero, List.set_cons_succ, List.getElem_toArray, List.getElem_cons_zero, List.getElem_cons_succ])
            refine wpAnyH_take (i := 16) (v := ?vz516) rfl (by kernel_rfl) (by kernel_rfl) (by kernel_rfl) (fun _ _ _ h => h) (Or.inl ⟨by rfl, ?hyz516⟩) hHeld ?restz516
            case hyz516 => intro w hSw; (try dsimp only at hSw); go_simp; try (with_reducible rfl)
            (try simp only [Act.put, List.setIfInBounds_toArray, List.set_cons_zero, List.set_cons_succ, List.getElem_toArray, List.getElem_cons_zero, List.getElem_cons_succ])
            refine wpAnyH_take (i := 17) (v := ?vz517) rfl (by kernel_rfl) (by kernel_rfl) (by kernel_rfl) (fun _ _ _ h => h) (Or.inl ⟨by rfl, ?hyz517⟩) hHeld ?restz517
            case hyz517 => intro w hSw; (try dsimp only at hSw); go_simp; try (with_reducible rfl)
            (try simp only [Act.put, List.setIfInBounds_toArray, List.set_cons_zero, List.set_cons_succ, List.getElem_toArray, List.getElem_cons_zero, List.getElem_cons_succ])
            refine wpAnyH_take (i := 18) (v := ?vz518) rfl (by kernel_rfl) (by kernel_rfl) (by kernel_rfl) (fun _ _ _ h => h) (Or.inl ⟨by rfl, ?hyz518⟩) hHeld ?restz518
            case hyz518 => intro w hSw; (try dsimp only at hSw); go_simp; try (with_reducible rfl)
            (try simp only [Act.put, List.setIfInBounds_toArray, List.set_cons_zero, List.set_cons_succ, List.getElem_toArray, List.getElem_cons_zero, List.getElem_cons_succ])
            refine wpAnyH_take (i := 19) (v := ?vz519) rfl (by kernel_rfl) (by kernel_rfl) (by kernel_rfl) (fun _ _ _ h => h) (Or.inl ⟨by rfl, ?hyz519⟩) hHeld ?restz519
            case hyz519 => intro w hSw; (try dsimp only at hSw); go_simp; try (with_reducible rfl)
            (try simp only [Act.put, List.setIfInBounds_toArray, List.set_cons_zero, List.set_cons_succ, List.getElem_toArray, List.getElem_cons_zero, List.getElem_cons_succ])
            refine wpAnyH_take (i := 20) (v := ?vz520) rfl (by kernel_rfl) (by kernel_rfl) (by kernel_rfl) (fun _ _ _ h => h) (Or.inl ⟨by rfl, ?hyz520⟩) hHeld ?restz520
            case hyz520 => intro w hSw; (try dsimp only at hSw); go_simp; try (with_reducible rfl)
            (try simp only [Act.put, List.setIfInBounds_toArray, List.set_cons_zero, List.set_cons_succ, List.getElem_toArray, List.getElem_cons_zero, List.getElem_cons_succ])
            refine wpAnyH_take (i := 21) (v := ?vz521) rfl (by kernel_rfl) (by kernel_rfl) (by kernel_rfl) (fun _ _ _ h => h) (Or.inl ⟨by rfl, ?hyz521⟩) hHeld ?restz521
            case hyz521 => intro w hSw; (try dsimp only at hSw); have qp := hSw.cell p0 (fun h => h); go_simp; try (with_reducible rfl)
            (try simp only [Act.put, List.setIfInBounds_toArray, List.set_cons_zero, List.set_cons_succ, List.getElem_toArray, List.getElem_cons_zero, List.getElem_cons_succ])
            refine wpAnyH_take (i := 22) (v := ?vz522) rfl (by kernel_rfl) (by kernel_rfl) (by kernel_rfl) (fun _ _ _ h => h) (Or.inl ⟨by rfl, ?hyz522⟩) hHeld ?restz522
            case hyz522 => intro w hSw; (try dsimp only at hSw); go_simp; try (with_reducible rfl)
            (try simp only [Act.put, List.setIfInBounds_toArray, List.set_cons_zero, List.set_cons_succ, List.getElem_toArray, List.getElem_cons_zero, List.getElem_cons_succ])
            refine wpAnyH_take (i := 23) (v := ?vz523) rfl (by kernel_rfl) (by kernel_rfl) (by kernel_rfl) (fun _ _ _ h => h) (Or.inl ⟨by rfl, ?hyz523⟩) hHeld ?restz523
            case hyz523 => intro w hSw; (try dsimp only at hSw); go_simp; try (with_reducible rfl)
            (try simp only [Act.put, List.setIfInBounds_toArray, List.set_cons_zero, List.set_cons_succ, List.getElem_toArray, List.getElem_cons_zero, List.getElem_cons_succ])
            refine wpAnyH_take (i := 24) (v := ?vz524) rfl (by kernel_rfl) (by kernel_rfl) (by kernel_rfl) (fun _ _ _ h => h) (Or.inl ⟨by rfl, ?hyz524⟩) hHeld ?restz524
            case hyz524 => intro w hSw; (try dsimp only at hSw); go_simp; try (with_reducible rfl)
            (try simp only [Act.put, List.setIfInBounds_toArray, List.set_cons_zero, List.set_cons_succ, List.getElem_toArray, List.getElem_cons_zero, List.getElem_cons_succ])
            refine wpAnyH_take (i := 25) (v := ?vz525) rfl (by kernel_rfl) (by kernel_rfl) (by kernel_rfl) (fun _ _ _ h => h) (Or.inl ⟨by rfl, ?hyz525⟩) hHeld ?restz525
            case hyz525 => intro w hSw; (try dsimp only at hSw); go_simp; try (with_reducible rfl)
            (try simp only [Act.put, List.setIfInBounds_toArray, List.set_cons_zero, List.set_cons_succ, List.getElem_toArray, List.getElem_cons_zero, List.getElem_cons_succ])
            refine wpAnyH_take (i := 26) (v := ?vz526) rfl (by kernel_rfl) (by kernel_rfl) (by kernel_rfl) (fun _ _ _ h => h) (Or.inl ⟨by rfl, ?hyz526⟩) hHeld ?restz526
            case hyz526 => intro w hSw; (try dsimp only at hSw); go_simp; try (with_reducible rfl)
            (try simp only [Act.put, List.setIfInBounds_toArray, List.set_cons_zero, List.set_cons_succ, List.getElem_toArray, List.getElem_cons_zero, List.getElem_cons_succ])
            refine wpAnyH_take (i := 27) (v := ?vz527) rfl (by kernel_rfl) (by kernel_rfl) (by kernel_rfl) (fun _ _ _ h => h) (Or.inl ⟨by rfl, ?hyz527⟩) hHeld ?restz527
            case hyz527 => intro w hSw; (try dsimp only at hSw); go_simp; try (with_reducible rfl)
            (try simp only [Act.put, List.setIfInBounds_toArray, List.set_cons_zero, List.set_cons_succ, List.getElem_toArray, List.getElem_cons_zero, List.getElem_cons_succ])
            refine wpAnyH_take (i := 28) (v := ?vz528) rfl (by kernel_rfl) (by kernel_rfl) (by kernel_rfl) (fun _ _ _ h => h) (Or.inl ⟨by rfl, ?hyz528⟩) hHeld ?restz528
            case hyz528 => intro w hSw; (try dsimp only at hSw); go_simp; try (with_reducible rfl)
            (try simp only [Act.put, List.setIfInBounds_toArray, List.set_cons_zero, List.set_cons_succ, List.getElem_toArray, List.getElem_cons_zero, List.getElem_cons_succ])
            refine wpAnyH_take (i := 29) (v := ?vz529) rfl (by kernel_rfl) (by kernel_rfl) (by kernel_rfl) (fun _ _ _ h => h) (Or.inl ⟨by rfl, ?hyz529⟩) hHeld ?restz529
            case hyz529 => intro w hSw; (try dsimp only at hSw); go_simp; try (with_reducible rfl)
            (try simp only [Act.put, List.setIfInBounds_toArray, List.set_cons_zero, List.set_cons_succ, List.getElem_toArray, List.getElem_cons_zero, List.getElem_cons_succ])
            refine wpAnyH_take (i := 30) (v := ?vz530) rfl (by kernel_rfl) (by kernel_rfl) (by kernel_rfl) (fun _ _ _ h => h) (Or.inl ⟨by rfl, ?hyz530⟩) hHeld ?restz530
            case hyz530 => intro w hSw; (try dsimp only at hSw); go_simp; try (with_reducible rfl)
            (try simp only [Act.put, List.setIfInBounds_toArray, List.set_cons_zero, List.set_cons_succ, List.getElem_toArray, List.getElem_cons_zero, List.getElem_cons_succ])
            refine wpAnyH_take (i := 31) (v := ?vz531) rfl (by kernel_rfl) (by kernel_rfl) (by kernel_rfl) (fun _ _ _ h => h) (Or.inl ⟨by rfl, ?hyz531⟩) hHeld ?restz531
            case hyz531 => intro w hSw; (try dsimp only at hSw); have q0 := hSw.cell h0 (fun h => h); go_simp; try (with_reducible rfl)
            (try simp only [Act.put, List.setIfInBounds_toArray, List.set_cons_zero, List.set_cons_succ, List.getElem_toArray, List.getElem_cons_zero, List.getElem_cons_succ])
            refine wpAnyH_take (i := 34) (v := ?vz534) rfl (by kernel_rfl) (by kernel_rfl) (by kernel_rfl) (fun _ _ _ h => h) (Or.inl ⟨by rfl, ?hyz534⟩) hHeld ?restz534
            case hyz534 => intro w hSw; (try dsimp only at hSw); go_simp; try (with_reducible rfl)
            (try simp only [Act.put, List.setIfInBounds_toArray, List.set_cons_zero, List.set_cons_succ, List.getElem_toArray, List.getElem_cons_zero, List.getElem_cons_succ])
            refine wpAnyH_take (i := 35) (v := ?vz535) rfl (by kernel_rfl) (by kernel_rfl) (by kernel_rfl) (fun _ _ _ h => h) (Or.inl ⟨by rfl, ?hyz535⟩) hHeld ?restz535
            case hyz535 => intro w hSw; (try dsimp only at hSw); go_simp; try (with_reducible rfl)
            (try simp only [Act.put, List.setIfInBounds_toArray, List.set_cons_zero, List.set_cons_succ, List.getElem_toArray, List.getElem_cons_zero, List.getElem_cons_succ])
            refine wpAnyH_take (i := 36) (v := ?vz536) rfl (by kernel_rfl) (by kernel_rfl) (by kernel_rfl) (fun _ _ _ h => h) (Or.inl ⟨by rfl, ?hyz536⟩) hHeld ?restz536
            case hyz536 => intro w hSw; (try dsimp only at hSw); go_simp; try (with_reducible rfl)
            (try simp only [Act.put, List.setIfInBounds_toArray, List.set_cons_zero, List.set_cons_succ, List.getElem_toArray, List.getElem_cons_zero, List.getElem_cons_succ])
            refine wpAnyH_take (i := 37) (v := ?vz537) rfl (by kernel_rfl) (by kernel_rfl) (by kernel_rfl) (fun _ _ _ h => h) (Or.inl ⟨by rfl, ?hyz537⟩) hHeld ?restz537
            case hyz537 => intro w hSw; (try dsimp only at hSw); go_simp; try (with_reducible rfl)
            (try simp only [Act.put, List.setIfInBounds_toArray, List.set_cons_zero, List.set_cons_succ, List.getElem_toArray, List.getElem_cons_zero, List.getElem_cons_succ])
            refine wpAnyH_take (i := 38) (v := ?vz538) rfl (by kernel_rfl) (by kernel_rfl) (by kernel_rfl) (fun _ _ _ h => h) (Or.inl ⟨by rfl, ?hyz538⟩) hHeld ?restz538
            case hyz538 => intro w hSw; (try dsimp only at hSw); have q1 := hSw.cell h1 (fun h => h); go_simp; try (with_reducible rfl)
            (try simp only [Act.put, List.setIfInBounds_toArray, List.set_cons_zero, List.set_cons_succ, List.getElem_toArray, List.getElem_cons_zero, List.getElem_cons_succ])
            refine wpAnyH_take (i := 39) (v := ?vz539) rfl (by kernel_rfl) (by kernel_rfl) (by kernel_rfl) (fun _ _ _ h => h) (Or.inl ⟨by rfl, ?hyz539⟩) hHeld ?restz539
            case hyz539 => intro w hSw; (try dsimp only at hSw); have hcv := str_rd (HRX.out.fr hSw (fun _ _ h => h)) x.c; go_simp; try (with_reducible rfl)
            (try simp only [Act.put, List.setIfInBounds_toArray, List.set_cons_zero, List.set_cons_succ, List.getElem_toArray, List.getElem_cons_zero, List.getElem_cons_succ])
            refine wpAnyH_ready (rs := [32]) (by kernel_rfl) (by simp) ?_
            refine AllReadyH.cons rfl (fun Kx hKx => ?_) AllReadyH.nil
            go_simp
            have hcon := HFIND.out wr.drew ((HCO.out.fr HF.out).fr (Fr.refl _ _).drew)
            with_reducible refine hcon.mono ?_
            clear hcon
            rintro e' wq ⟨A5, c5, rfl, ho5, hff⟩
            have HFwq : Hid (Fr (fun _ => False) wr wq) := Lib.hid ((Fr.refl _ _).drew.trans hff (fun _ _ h => h))
            have HO5 := Lib.hid ho5
            clear ho5
            refine hKx.out _ _ ?_ (fun hHeld => ?_)
            · exact HFwq.out
            clear hKx Kx hff
            (try simp only [Act.put, List.setIfInBounds_toArray, List.set_cons_zero, List.set_cons_succ, List.getElem_toArray, List.getElem_cons_zero, List.getElem_cons_succ])
            refine wpAnyH_more (fun w' => Fr (fun _ => False) wq w') (fun _ h => HFwq.out.trans h (fun _ _ h => h)) ?_ (fun hHeld => ?_)
            · exact Fr.refl _ _
            refine wpAnyH_take (i := 33) (v := ?vz533) rfl (by kernel_rfl) (by kernel_rfl) (by kernel_rfl) (fun _ _ _ h => h) (Or.inl ⟨by rfl, ?hyz533⟩) hHeld ?restz533
            case hyz533 => intro w hSw; (try dsimp only at hSw); have hcv := (HO5.out.fr hSw).str; go_simp; try (with_reducible rfl)
            (try simp only [Act.put, List.setIfInBounds_toArray, List.set_cons_zero, List.set_cons_succ, List.getElem_toArray, List.getElem_cons_zero, List.getElem_cons_succ])
            refine wpAnyH_take (i := 40) (v := ?vz540) rfl (by kernel_rfl) (by kernel_rfl) (by kernel_rfl) (fun _ _ _ h => h) (Or.inl ⟨by rfl, ?hyz540⟩) hHeld ?restz540
            case hyz540 => intro w hSw; (try dsimp only at hSw); go_simp; try (with_reducible rfl)
            (try simp only [Act.put, List.setIfInBounds_toArray, List.set_cons_zero, List.set_cons_succ, List.getElem_toArray, List.getElem_cons_zero, List.getElem_cons_succ])
            refine wpAnyH_take (i := 41) (v := ?vz541) rfl (by kernel_rfl) (by kernel_rfl) (by kernel_rfl) (fun _ _ _ h => h) (Or.inl ⟨by rfl, ?hyz541⟩) hHeld ?restz541
            case hyz541 => intro w hSw; (try dsimp only at hSw); go_simp; try (with_reducible rfl)
            (try simp only [Act.put, List.setIfInBounds_toArray, List.set_cons_zero, List.set_cons_succ, List.getElem_toArray, List.getElem_cons_zero, List.getElem_cons_succ])
            refine wpAnyH_done (by kernel_rfl) ?_ _
            go_wp2_with fail
            go_roundw
            case rel => exact ⟨k + 1, by omega, by go_num, HF.out.trans HFwq.out (fun _ _ h => h)⟩
            case measure => simp [intOf] <;> omega
        · obtain rfl : k = nL := by omega
          have HRDR := Lib.hid ((HRD.out.fr HF2.out (fun _ _ h => h)).fr HF.out (fun _ _ h => h))
          have HCOR := Lib.hid (HCO.out.fr HF.out)
          go_upto_region 11 with fail
          refine wp_region_held_drew (S := fun w' => Fr (fun _ => False) wr w') (by kernel_rfl) ?_ (fun hHeld => ?_)
          · exact (Fr.refl _ _).drew
          refine wpAnyH_take (i := 0) (v := ?vz30) rfl (by kernel_rfl) (by kernel_rfl) (by kernel_rfl) (fun _ _ _ h => h) (Or.inl ⟨by rfl, ?hyz30⟩) hHeld ?restz30
          case hyz30 => intro w hSw; (try dsimp only at hSw); go_simp; try (with_reducible rfl)
          (try simp only [Act.put, List.setIfInBounds_toArray, List.set_cons_zero, List.set_cons_succ, List.getElem_toArray, List.getElem_cons_zero])
          refine wpAnyH_take (i := 3) (v := ?vz33) rfl (by kernel_rfl) (by kernel_rfl) (by kernel_rfl) (fun _ _ _ h => h) (Or.inl ⟨by rfl, ?hyz33⟩) hHeld ?restz33
          case hyz33 => intro w hSw; (try dsimp only at hSw); go_simp; try (with_reducible rfl)
          (try simp only [Act.put, List.setIfInBounds_toArray, List.set_cons_zero, List.set_cons_succ, List.getElem_toArray, List.getElem_cons_zero, List.getElem_cons_succ])
          refine wpAnyH_take (i := 4) (v := ?vz34) rfl (by kernel_rfl) (by kernel_rfl) (by kernel_rfl) (fun _ _ _ h => h) (Or.inl ⟨by rfl, ?hyz34⟩) hHeld ?restz34
          case hyz34 => intro w hSw; (try dsimp only at hSw); have hcv := str_rd (HRDR.out.fr hSw (fun _ _ h => h)) c; go_simp; try (with_reducible rfl)
          (try simp only [Act.put, List.setIfInBounds_toArray, List.set_cons_zero, List.set_cons_succ, List.getElem_toArray, List.getElem_cons_zero, List.getElem_cons_succ])
          refine wpAnyH_ready (rs := [1]) (by kernel_rfl) (by simp) ?_
          refine AllReadyH.cons rfl (fun Kx hKx => ?_) AllReadyH.nil
          go_simp
          have hcon := HPU.out wr.drew (HCOR.out.fr (Fr.refl _ _).drew)
          with_reducible refine hcon.mono ?_
          clear hcon
          rintro e' wq ⟨A5, c5, rfl, ho5, hff⟩
          have HFwq : Hid (Fr (fun _ => False) wr wq) := Lib.hid ((Fr.refl _ _).drew.trans hff (fun _ _ h => h))
          have HO5 := Lib.hid ho5
          clear ho5
          refine hKx.out _ _ ?_ (fun hHeld => ?_)
          · exact HFwq.out
          clear hKx Kx hff
          (try simp only [Act.put, List.setIfInBounds_toArray, List.set_cons_zero, List.set_cons_succ, List.getElem_toArray, List.getElem_cons_zero, List.getElem_cons_succ])
          refine wpAnyH_more (fun w' => Fr (fun _ => False) wq w') (fun _ h => HFwq.out.trans h (fun _ _ h => h)) ?_ (fun hHeld => ?_)
          · exact Fr.refl _ _
          refine wpAnyH_take (i := 2) (v := ?vz32) rfl (by kernel_rfl) (by kernel_rfl) (by kernel_rfl) (fun _ _ _ h => h) (Or.inl ⟨by rfl, ?hyz32⟩) hHeld ?restz32
          case hyz32 => intro w hSw; (try dsimp only at hSw); have hcv := (HO5.out.fr hSw).str; go_simp; try (with_reducible rfl)
          (try simp only [Act.put, List.setIfInBounds_toArray, List.set_cons_zero, List.set_cons_succ, List.getElem_toArray, List.getElem_cons_zero, List.getElem_cons_succ])
          refine wpAnyH_take (i := 5) (v := ?vz35) rfl (by kernel_rfl) (by kernel_rfl) (by kernel_rfl) (fun _ _ _ h => h) (Or.inl ⟨by rfl, ?hyz35⟩) hHeld ?restz35
          case hyz35 => intro w hSw; (try dsimp only at hSw); go_simp; try (with_reducible rfl)
          (try simp only [Act.put, List.setIfInBounds_toArray, List.set_cons_zero, List.set_cons_succ, List.getElem_toArray, List.getElem_cons_zero, List.getElem_cons_succ])
          refine wpAnyH_take (i := 6) (v := ?vz36) rfl (by kernel_rfl) (by kernel_rfl) (by kernel_rfl) (fun _ _ _ h => h) (Or.inl ⟨by rfl, ?hyz36⟩) hHeld ?restz36
          case hyz36 => intro w hSw; (try dsimp only at hSw); go_simp; try (with_reducible rfl)
          (try simp only [Act.put, List.setIfInBounds_toArray, List.set_cons_zero, List.set_cons_succ, List.getElem_toArray, List.getElem_cons_zero, List.getElem_cons_succ])
          refine wpAnyH_done (by kernel_rfl) ?_ _
          go_wp2_with fail
          go_ret
          exact ⟨rfl, (HF2.out.trans HF.out (fun _ _ h => h)).trans HFwq.out (fun _ _ h => h)⟩
    · have t2 : ((E : Int) != 0) = true := by simp; omega
      have t2' : (E != 0) = true := by simp; omega
      have hn0 : M = [] := by rw [HM.out]; exact get_nil (by rw [← HE.out]; exact he)
      rw [hn0] at hL
      obtain rfl : L = [] := List.map_eq_nil_iff.1 hL
      clear hL hco hf2 he hn0
      go_wp2_with fail
      go_ret
      exact ⟨rfl, HF2.out⟩
end Go.Proofs.Ytfgjneodhmfknaa
