/-
  Layer 8's reference: the loops of Get (written by gen_get.py).
  Layer 8's reference: the main loop of Get (written by gen_get.py).
-/
import Derived.Test.YtjghcacepneipaaDoorZm26
import Derived.Test.YtjghcacepneipaaDoorZm25
import Derived.Test.YtjghcacepneipaaDoorZm27
import Derived.Test.YtjghcacepneipaaDoorZm04
import Derived.Test.YtjghcacepneipaaDoorZm05
import Derived.Test.YtjghcacepneipaaDoorZm15
import Derived.Test.YtjghcacepneipaaDoorZm23
import Derived.Test.YtjghcacepneipaaDoorZm02
import Derived.Test.YtjghcacepneipaaDoorZm01
import Derived.Deep.DrawnRows
import Derived.StillTailTactics
import Derived.Deep.RegionHeld3
namespace Go.Proofs.YtjghcacepneipaaDoor
open Go.RowKit CoM HuffM BitsM Mem Go.Lib
attribute [local go_sem ↓] Go.wp_at_zero Go.wp_at_succ
set_option linter.unusedVariables false

theorem conv_int8 (e : Nat) (he : e ≤ 1000000) (w : World) : (convert 30 3 (.int .u64 (e : Int))).run Tryd.prog w = .ok (.int .i64 (e : Int)) w := by
  go_simp
  rw [IntKind.wrap_i64]
  omega
theorem num3_lt (bs : List Bool) (f n : Nat) (hn : n ≤ 7) : num ((bs.drop f).take n) ≤ 127 := by
  have := num_lt ((bs.drop f).take n)
  have h2 : 2 ^ ((bs.drop f).take n).length ≤ 2 ^ 7 := Nat.pow_le_pow_right (by omega) (by rw [List.length_take]; omega)
  omega

set_option maxRecDepth 1000000 in
noncomputable def getABody : Code := ((Tryd.f21.body.bind (loopAt 13)).getD .skip)

set_option maxRecDepth 1000000 in
set_option maxHeartbeats 3200000 in
theorem getA_loop (Q0 : Exit → Act → World → Prop) (s1 s2 s3 s4 s5 s6 s7 s11 s12 s13 s14 s15 s16 s17 s18 s19 s20 s21 s22 s23 s24 s25 s26 s27 s28 s29 s30 s31 s32 s33 s34 s35 s36 s37 s38 s39 s40 s41 s42 s43 s44 s45 s46 s47 s48 s49 s50 s51 s52 s53 s54 s55 s56 s57 s58 s59 s60 s61 s62 s63 s64 s65 s66 s67 s68 s69 s70 s71 s72 s73 s74 s75 s76 s77 s78 s79 s80 s81 s82 s83 s84 s85 s86 s87 s88 s89 s90 s91 s92 s93 s94 s95 s96 s97 s98 s99 s100 s101 s102 s103 s104 s105 s106 s107 s108 s109 s110 s111 s112 s113 s114 s115 s116 s117 s118 s119 s120 s121 s122 s123 s124 s125 s126 s127 s128 s129 s130 s131 s132 s133 s134 s135 s136 s137 s138 s139 s140 s141 s142 s143 s144 s145 s146 s147 s148 s149 s150 s151 s152 s153 s154 s155 s156 s157 s158 s159 : Value) (A : Option Addr) (n c m gl : Nat) (bs : List Bool) (wb wc : World)
    (HR : Hid (Rd wb A n (bs.map bitc))) (hc : n ≤ c) (hn : n ≤ 1000000) (hm : m ≤ 19) (h3m : 3 * m ≤ n) (HL : Hid (NR wc gl zeros19)) (HF : Hid (Fr (fun _ => False) wb wc)) (HG : Hid (wb.heap.size ≤ gl))
    (hexit : ∀ (w'' : World) (r53 r54 r55 r56 r57 r58 r59 r60 r61 r62 r63 r64 r65 r66 r67 r68 r69 r70 r71 r72 : Value), NR w'' gl (lens19 bs m) → Fr (fun _ => False) wb w'' → Q0 (.exit 0) ⟨List.toArray (.slice A n c :: s1 :: s2 :: s3 :: s4 :: s5 :: s6 :: s7 :: .int .i64 (m : Int) :: .slice (some ⟨gl, 0, none⟩) 19 19 :: .int .i64 (m : Int) :: s11 :: s12 :: s13 :: s14 :: s15 :: s16 :: s17 :: s18 :: s19 :: s20 :: s21 :: s22 :: s23 :: s24 :: s25 :: s26 :: s27 :: s28 :: s29 :: s30 :: s31 :: s32 :: s33 :: s34 :: s35 :: s36 :: s37 :: s38 :: s39 :: s40 :: s41 :: s42 :: s43 :: s44 :: s45 :: s46 :: s47 :: s48 :: s49 :: s50 :: s51 :: s52 :: r53 :: r54 :: r55 :: r56 :: r57 :: r58 :: r59 :: r60 :: r61 :: r62 :: r63 :: r64 :: r65 :: r66 :: r67 :: r68 :: r69 :: r70 :: r71 :: r72 :: s73 :: s74 :: s75 :: s76 :: s77 :: s78 :: s79 :: s80 :: s81 :: s82 :: s83 :: s84 :: s85 :: s86 :: s87 :: s88 :: s89 :: s90 :: s91 :: s92 :: s93 :: s94 :: s95 :: s96 :: s97 :: s98 :: s99 :: s100 :: s101 :: s102 :: s103 :: s104 :: s105 :: s106 :: s107 :: s108 :: s109 :: s110 :: s111 :: s112 :: s113 :: s114 :: s115 :: s116 :: s117 :: s118 :: s119 :: s120 :: s121 :: s122 :: s123 :: s124 :: s125 :: s126 :: s127 :: s128 :: s129 :: s130 :: s131 :: s132 :: s133 :: s134 :: s135 :: s136 :: s137 :: s138 :: s139 :: s140 :: s141 :: s142 :: s143 :: s144 :: s145 :: s146 :: s147 :: s148 :: s149 :: s150 :: s151 :: s152 :: s153 :: s154 :: s155 :: s156 :: s157 :: s158 :: s159 :: []), []⟩ w'') :
    Code.wp Tryd.prog (Code.loop getABody) Q0 ⟨List.toArray (.slice A n c :: s1 :: s2 :: s3 :: s4 :: s5 :: s6 :: s7 :: .int .i64 (m : Int) :: .slice (some ⟨gl, 0, none⟩) 19 19 :: .int .i64 0 :: s11 :: s12 :: s13 :: s14 :: s15 :: s16 :: s17 :: s18 :: s19 :: s20 :: s21 :: s22 :: s23 :: s24 :: s25 :: s26 :: s27 :: s28 :: s29 :: s30 :: s31 :: s32 :: s33 :: s34 :: s35 :: s36 :: s37 :: s38 :: s39 :: s40 :: s41 :: s42 :: s43 :: s44 :: s45 :: s46 :: s47 :: s48 :: s49 :: s50 :: s51 :: s52 :: s53 :: s54 :: s55 :: s56 :: s57 :: s58 :: s59 :: s60 :: s61 :: s62 :: s63 :: s64 :: s65 :: s66 :: s67 :: s68 :: s69 :: s70 :: s71 :: s72 :: s73 :: s74 :: s75 :: s76 :: s77 :: s78 :: s79 :: s80 :: s81 :: s82 :: s83 :: s84 :: s85 :: s86 :: s87 :: s88 :: s89 :: s90 :: s91 :: s92 :: s93 :: s94 :: s95 :: s96 :: s97 :: s98 :: s99 :: s100 :: s101 :: s102 :: s103 :: s104 :: s105 :: s106 :: s107 :: s108 :: s109 :: s110 :: s111 :: s112 :: s113 :: s114 :: s115 :: s116 :: s117 :: s118 :: s119 :: s120 :: s121 :: s122 :: s123 :: s124 :: s125 :: s126 :: s127 :: s128 :: s129 :: s130 :: s131 :: s132 :: s133 :: s134 :: s135 :: s136 :: s137 :: s138 :: s139 :: s140 :: s141 :: s142 :: s143 :: s144 :: s145 :: s146 :: s147 :: s148 :: s149 :: s150 :: s151 :: s152 :: s153 :: s154 :: s155 :: s156 :: s157 :: s158 :: s159 :: []), []⟩ wc := by
  have HEX := Lib.hid hexit
  have hbl : bs.length = n := by simpa using HR.out.1
  have HBL := Lib.hid hbl
  clear hexit hbl
  refine Code.wp_mono (onExit_imp (n := 0)) ?_
  conv => arg 2; arg 1; whnf
  go_loopw [10] (fun x wx => ∃ i : Nat, i ≤ m ∧ x = .int .i64 (i : Int) ∧ Hid (NR wx gl (lens19 bs i)) ∧ Hid (Fr (fun b => b = gl) wc wx)) (fun x _ => m - (intOf x).toNat)
  case atStart => exact ⟨0, by omega, rfl, HL.out, Fr.refl _ _⟩
  case round =>
    obtain ⟨i, hi, rfl, HN, HFr⟩ := hrel
    rename World => wr
    have hfb : Fr (fun _ => False) wb wr := HF.out.trans HFr.out (fun b hb h => by have := HG.out; omega)
    have HFB := Lib.hid hfb
    clear hfb
    by_cases him : i < m
    · obtain ⟨o, ho⟩ : ∃ o, o = ord[i]! := ⟨_, rfl⟩
      have ho19 : o < 19 := by rw [ho]; exact ord_le18 i (by omega)
      obtain ⟨x, hx⟩ : ∃ x, x = num ((bs.drop (3 * i)).take 3) := ⟨_, rfl⟩
      have hx127 : x ≤ 1000000 := by rw [hx]; have := num3_lt bs (3 * i) 3 (by omega); omega
      obtain ⟨A2, hA2⟩ : ∃ A2, A2 = cutAt A c (3 * i) := ⟨_, rfl⟩
      obtain ⟨c2, hc2⟩ : ∃ c2, c2 = c - 3 * i := ⟨_, rfl⟩
      have hcut : ∀ w' : World, (Instr.sliceAt 22 (.slice A n c) (some (.int .i64 (3 * (i : Int)))) (some (.int .i64 (3 * (i : Int) + 3))) none).run Tryd.prog w' = .ok (.slice A2 3 c2) w' := by
        intro w'
        have h := run_cutB A n c (3 * i) (3 * i + 3) (by omega) (by omega) hc (3 * (i : Int)) (3 * (i : Int) + 3) (by omega) (by omega) w'
        rwa [show 3 * i + 3 - 3 * i = 3 by omega, ← hA2, ← hc2] at h
      have hnum : ∀ w', Fr (fun _ => False) wb w' → Calls Tryd.prog 41 #[.slice A2 3 c2] w' fun e w2 => e = .returned (.int .u64 (x : Int)) ∧ w' = w2 := by
        intro w' hf
        have h := rd_cut (HR.out.fr hf (fun _ _ h => h)) (f := 3 * i) (y := 3 * i + 3) (by omega) (by omega) hc
        rw [show 3 * i + 3 - 3 * i = 3 by omega, ← hA2, ← List.map_take, ← List.map_drop, List.drop_take, show 3 * i + 3 - 3 * i = 3 by omega] at h
        have h2 := num_any A2 3 c2 _ w' h (by omega)
        rwa [← hx] at h2
      have hcv := conv_int8 x hx127
      have HNUM := Lib.hid hnum
      have HOX := Lib.hid (And.intro ho hx)
      have hib : i < 19 := by omega
      have hii : (i : Int) < 19 := by omega
      have hoo : (o : Int) < 19 := by omega
      have e1 : IntKind.i64.wrap (3 * (i : Int)) = 3 * (i : Int) := by rw [IntKind.wrap_i64]; omega
      have e2 : IntKind.i64.wrap (3 * (i : Int) + 3) = 3 * (i : Int) + 3 := by rw [IntKind.wrap_i64]; omega
      clear ho hx hA2 hc2 hnum
      go_wp2_with fail
      refine wp_region_held_drew (S := fun _ => True) (by kernel_rfl) ?_ (fun hHeld => ?_)
      · exact trivial
      refine wpAnyH_take (i := 0) (v := ?va0) rfl (by kernel_rfl) (by kernel_rfl) (by kernel_rfl) (fun _ _ _ h => h) (Or.inl ⟨by rfl, ?hya0⟩) hHeld ?resta0
      case hya0 => intro w hSw; (try dsimp only at hSw); go_simp; try (with_reducible rfl)
      (try simp only [Act.put, List.setIfInBounds_toArray, List.set_cons_zero, List.set_cons_succ, List.getElem_toArray, List.getElem_cons_zero])
      refine wpAnyH_take (i := 2) (v := ?va2) rfl (by kernel_rfl) (by kernel_rfl) (by kernel_rfl) (fun _ _ _ h => h) (Or.inl ⟨by rfl, ?hya2⟩) hHeld ?resta2
      case hya2 => intro w hSw; (try dsimp only at hSw); go_simp; try (with_reducible rfl)
      (try simp only [Act.put, List.setIfInBounds_toArray, List.set_cons_zero, List.set_cons_succ, List.getElem_toArray, List.getElem_cons_zero, List.getElem_cons_succ])
      refine wpAnyH_take (i := 5) (v := ?va5) rfl (by kernel_rfl) (by kernel_rfl) (by kernel_rfl) (fun _ _ _ h => h) (Or.inl ⟨by rfl, ?hya5⟩) hHeld ?resta5
      case hya5 => intro w hSw; (try dsimp only at hSw); go_simp; try (with_reducible rfl)
      (try simp only [Act.put, List.setIfInBounds_toArray, List.set_cons_zero, List.set_cons_succ, List.getElem_toArray, List.getElem_cons_zero, List.getElem_cons_succ])
      refine wpAnyH_take (i := 6) (v := ?va6) rfl (by kernel_rfl) (by kernel_rfl) (by kernel_rfl) (fun _ _ _ h => h) (Or.inl ⟨by rfl, ?hya6⟩) hHeld ?resta6
      case hya6 => intro w hSw; (try dsimp only at hSw); go_simp; try (with_reducible rfl)
      (try simp only [Act.put, List.setIfInBounds_toArray, List.set_cons_zero, List.set_cons_succ, List.getElem_toArray, List.getElem_cons_zero, List.getElem_cons_succ])
      refine wpAnyH_take (i := 7) (v := ?va7) rfl (by kernel_rfl) (by kernel_rfl) (by kernel_rfl) (fun _ _ _ h => h) (Or.inl ⟨by rfl, ?hya7⟩) hHeld ?resta7
      case hya7 => intro w hSw; (try dsimp only at hSw); go_simp; try (with_reducible rfl)
      (try simp only [Act.put, List.setIfInBounds_toArray, List.set_cons_zero, List.set_cons_succ, List.getElem_toArray, List.getElem_cons_zero, List.getElem_cons_succ])
      refine wpAnyH_take (i := 8) (v := ?va8) rfl (by kernel_rfl) (by kernel_rfl) (by kernel_rfl) (fun _ _ _ h => h) (Or.inl ⟨by rfl, ?hya8⟩) hHeld ?resta8
      case hya8 => intro w hSw; (try dsimp only at hSw); go_simp; try (with_reducible rfl)
      (try simp only [Act.put, List.setIfInBounds_toArray, List.set_cons_zero, List.set_cons_succ, List.getElem_toArray, List.getElem_cons_zero, List.getElem_cons_succ])
      refine wpAnyH_take (i := 9) (v := ?va9) rfl (by kernel_rfl) (by kernel_rfl) (by kernel_rfl) (fun _ _ _ h => h) (Or.inl ⟨by rfl, ?hya9⟩) hHeld ?resta9
      case hya9 => intro w hSw; (try dsimp only at hSw); go_simp; try (with_reducible rfl)
      (try simp only [Act.put, List.setIfInBounds_toArray, List.set_cons_zero, List.set_cons_succ, List.getElem_toArray, List.getElem_cons_zero, List.getElem_cons_succ])
      refine wpAnyH_take (i := 10) (v := ?va10) rfl (by kernel_rfl) (by kernel_rfl) (by kernel_rfl) (fun _ _ _ h => h) (Or.inl ⟨by rfl, ?hya10⟩) hHeld ?resta10
      case hya10 => intro w hSw; (try dsimp only at hSw); go_simp; try (with_reducible rfl)
      (try simp only [Act.put, List.setIfInBounds_toArray, List.set_cons_zero, List.set_cons_succ, List.getElem_toArray, List.getElem_cons_zero, List.getElem_cons_succ])
      refine wpAnyH_take (i := 11) (v := ?va11) rfl (by kernel_rfl) (by kernel_rfl) (by kernel_rfl) (fun _ _ _ h => h) (Or.inl ⟨by rfl, ?hya11⟩) hHeld ?resta11
      case hya11 => intro w hSw; (try dsimp only at hSw); go_simp; try (with_reducible rfl)
      (try simp only [Act.put, List.setIfInBounds_toArray, List.set_cons_zero, List.set_cons_succ, List.getElem_toArray, List.getElem_cons_zero, List.getElem_cons_succ])
      refine wpAnyH_ready (rs := [1]) (by kernel_rfl) (by simp) ?_
      refine AllReadyH.cons rfl (fun Kx hKx => ?_) AllReadyH.nil
      go_simp
      refine (rOrder_new _).mono ?_
      rintro e w2 ⟨g3, c3, rfl, hg3, hO3, hf3⟩
      obtain ⟨ad3, hA3, hld⟩ := nat_cell hO3 hib
      injection hA3 with hA3
      subst hA3
      rw [← HOX.out.1, addr_add] at hld
      have HLD := Lib.hid hld
      have HF3 : Hid (Fr (fun _ => False) wr w2) := Lib.hid ((Fr.refl (fun _ => False) wr).drew.trans hf3 (fun _ _ h => h))
      have HFB3 := Lib.hid (HFB.out.trans HF3.out (fun _ _ h => h))
      have hn3 : NR w2 gl (lens19 bs i) := Row.fr HN.out HF3.out (fun h => h)
      have hfz : w2.frozen? ⟨gl, o, none⟩ = false := Row.free hn3 o
      have hcl := hn3.at_ (i := o) (by rw [lens19_len]; exact ho19)
      have HGL3 : Hid (¬ gl = g3) := Lib.hid (by have h1 := Row.lt HN.out; have h2 : wr.heap.size ≤ g3 := hg3; omega)
      have HN3 := Lib.hid hn3
      clear hO3 hf3 hn3 hld hg3
      refine hKx.out _ _ ?_ (fun hHeld => ?_)
      · exact trivial
      clear hKx Kx
      (try simp only [Act.put, List.setIfInBounds_toArray, List.set_cons_zero, List.set_cons_succ, List.getElem_toArray, List.getElem_cons_zero, List.getElem_cons_succ])
      refine wpAnyH_more (fun w' => w'.cell? ⟨g3, i, none⟩ = some (.int .i64 (o : Int))) (fun _ h => trivial) ?_ (fun hHeld => ?_)
      · exact HLD.out
      refine wpAnyH_take (i := 3) (v := ?va3) rfl (by kernel_rfl) (by kernel_rfl) (by kernel_rfl) (fun _ _ _ h => h) (Or.inl ⟨by rfl, ?hya3⟩) hHeld ?resta3
      case hya3 => intro w hSw; (try dsimp only at hSw); go_simp; try (with_reducible rfl)
      (try simp only [Act.put, List.setIfInBounds_toArray, List.set_cons_zero, List.set_cons_succ, List.getElem_toArray, List.getElem_cons_zero, List.getElem_cons_succ])
      refine wpAnyH_take (i := 4) (v := ?va4) rfl (by kernel_rfl) (by kernel_rfl) (by kernel_rfl) (fun _ _ _ h => h) (Or.inl ⟨by rfl, ?hya4⟩) hHeld ?resta4
      case hya4 => intro w hSw; (try dsimp only at hSw); go_simp; try (with_reducible rfl)
      (try simp only [Act.put, List.setIfInBounds_toArray, List.set_cons_zero, List.set_cons_succ, List.getElem_toArray, List.getElem_cons_zero, List.getElem_cons_succ])
      refine wpAnyH_ready (rs := [12]) (by kernel_rfl) (by simp) ?_
      refine AllReadyH.cons rfl (fun Kx hKx => ?_) AllReadyH.nil
      go_simp
      refine (HNUM.out w2 HFB3.out).mono ?_
      rintro e w5 ⟨rfl, rfl⟩
      refine hKx.out _ _ ?_ (fun hHeld => ?_)
      · exact HLD.out
      clear hKx Kx
      (try simp only [Act.put, List.setIfInBounds_toArray, List.set_cons_zero, List.set_cons_succ, List.getElem_toArray, List.getElem_cons_zero, List.getElem_cons_succ])
      refine wpAnyH_take (i := 13) (v := ?va13) rfl (by kernel_rfl) (by kernel_rfl) (by kernel_rfl) (fun _ _ _ h => h) (Or.inl ⟨by rfl, ?hya13⟩) hHeld ?resta13
      case hya13 => intro w hSw; (try dsimp only at hSw); go_simp; try (with_reducible rfl)
      (try simp only [Act.put, List.setIfInBounds_toArray, List.set_cons_zero, List.set_cons_succ, List.getElem_toArray, List.getElem_cons_zero, List.getElem_cons_succ])
      refine wpAnyH_take (i := 14) (v := ?va14) rfl (by kernel_rfl) (by kernel_rfl) (by kernel_rfl) (fun _ _ _ h => h) (Or.inl ⟨by rfl, ?hya14⟩) hHeld ?resta14
      case hya14 => intro w hSw; (try dsimp only at hSw); go_simp; try (with_reducible rfl)
      (try simp only [Act.put, List.setIfInBounds_toArray, List.set_cons_zero, List.set_cons_succ, List.getElem_toArray, List.getElem_cons_zero, List.getElem_cons_succ])
      refine wpAnyH_ready (rs := [15]) (by kernel_rfl) (by simp) ?_
      refine AllReadyH.cons rfl (fun Kx hKx => ?_) AllReadyH.nil
      go_simp
      refine hKx.out _ _ ?_ (fun hHeld => ?_)
      · exact (Fr.set1 w2 gl o _).cell HLD.out (fun h => HGL3.out h.symm)
      clear hKx Kx
      (try simp only [Act.put, List.setIfInBounds_toArray, List.set_cons_zero, List.set_cons_succ, List.getElem_toArray, List.getElem_cons_zero, List.getElem_cons_succ])
      refine wpAnyH_done (by kernel_rfl) ?_ _
      obtain ⟨w6, hw6⟩ : ∃ w6, w6 = w2.setCell ⟨gl, o, none⟩ (.int .i64 (x : Int)) := ⟨_, rfl⟩
      rw [← hw6]
      have hn6 : NR w6 gl (lens19 bs (i + 1)) := by
        rw [lens19, ← HOX.out.1, ← HOX.out.2, hw6]
        exact HN3.out.set o x
      have HN6 := Lib.hid hn6
      have HFr6 : Hid (Fr (fun b => b = gl) wc w6) := Lib.hid ((HFr.out.trans HF3.out (fun _ _ h => h.elim)).trans (by rw [hw6]; exact Fr.set1 w2 gl o _) (fun _ _ h => h))
      clear hw6 hn6 hfz hcl hcut hcv
      go_wp2_with fail
      exact ⟨⟨i + 1, by omega, by go_num, HN6.out, HFr6.out⟩, by simp [intOf]; omega⟩
    · obtain rfl : i = m := by omega
      go_wp2_with fail
      exact ⟨rfl, HEX.out _ _ _ _ _ _ _ _ _ _ _ _ _ _ _ _ _ _ _ _ _ HN.out HFB.out⟩

set_option maxRecDepth 1000000 in
noncomputable def getCBody : Code := ((Tryd.f21.body.bind (loopAt 43)).getD .skip)

set_option maxRecDepth 1000000 in
set_option maxHeartbeats 3200000 in
theorem getC_loop (Q0 : Exit → Act → World → Prop) (s0 s1 s2 s3 s4 s5 s6 s7 s8 s9 s10 s12 s13 s14 s15 s19 s20 s21 s22 s23 s24 s25 s26 s27 s28 s29 s30 s31 s32 s33 s34 s35 s36 s37 s38 s39 s40 s41 s42 s43 s44 s45 s46 s47 s48 s49 s50 s51 s52 s53 s54 s55 s56 s57 s58 s59 s60 s61 s62 s63 s64 s65 s66 s67 s68 s69 s70 s71 s72 s73 s74 s75 s76 s77 s78 s79 s80 s81 s82 s83 s84 s85 s86 s87 s88 s89 s90 s91 s92 s93 s94 s95 s96 s97 s98 s99 s100 s101 s102 s103 s104 s105 s106 s107 s108 s109 s110 s111 s112 s113 s114 s115 s116 s117 s118 s119 s120 s121 s122 s123 s124 s125 s126 s127 s128 s129 s130 s131 s132 s133 s134 s135 s136 s137 s138 s139 s140 s141 s142 s143 s144 s145 s146 s147 s148 s149 s150 s151 s152 s153 s154 s155 s156 s157 s158 s159 : Value) (Al : Option Addr) (q cl v many base q2 : Nat) (l : List Nat) (wc : World)
    (HO : Hid (wc.ownsRow base 3 1 (.slice Al q cl) q (l.map natc))) (hq : q ≤ 1000000) (hm : many ≤ 1000000) (HB : Hid (base ≤ wc.heap.size)) (hq2 : q2 = q + many) (vi : Int) (hv : vi = (v : Int))
    (hexit : ∀ (w'' : World) (Al2 : Option Addr) (cl2 : Nat) (r140 r141 r142 r143 r144 r145 r146 r147 r148 : Value), w''.ownsRow base 3 1 (.slice Al2 q2 cl2) q2 ((l ++ List.replicate many v).map natc) → Fr (fun b => base ≤ b) wc w'' → Q0 (.exit 4) ⟨List.toArray (s0 :: s1 :: s2 :: s3 :: s4 :: s5 :: s6 :: s7 :: s8 :: s9 :: s10 :: .slice Al2 q2 cl2 :: s12 :: s13 :: s14 :: s15 :: .int .i64 vi :: .int .i64 (many : Int) :: .int .i64 (many : Int) :: s19 :: s20 :: s21 :: s22 :: s23 :: s24 :: s25 :: s26 :: s27 :: s28 :: s29 :: s30 :: s31 :: s32 :: s33 :: s34 :: s35 :: s36 :: s37 :: s38 :: s39 :: s40 :: s41 :: s42 :: s43 :: s44 :: s45 :: s46 :: s47 :: s48 :: s49 :: s50 :: s51 :: s52 :: s53 :: s54 :: s55 :: s56 :: s57 :: s58 :: s59 :: s60 :: s61 :: s62 :: s63 :: s64 :: s65 :: s66 :: s67 :: s68 :: s69 :: s70 :: s71 :: s72 :: s73 :: s74 :: s75 :: s76 :: s77 :: s78 :: s79 :: s80 :: s81 :: s82 :: s83 :: s84 :: s85 :: s86 :: s87 :: s88 :: s89 :: s90 :: s91 :: s92 :: s93 :: s94 :: s95 :: s96 :: s97 :: s98 :: s99 :: s100 :: s101 :: s102 :: s103 :: s104 :: s105 :: s106 :: s107 :: s108 :: s109 :: s110 :: s111 :: s112 :: s113 :: s114 :: s115 :: s116 :: s117 :: s118 :: s119 :: s120 :: s121 :: s122 :: s123 :: s124 :: s125 :: s126 :: s127 :: s128 :: s129 :: s130 :: s131 :: s132 :: s133 :: s134 :: s135 :: s136 :: s137 :: s138 :: s139 :: r140 :: r141 :: r142 :: r143 :: r144 :: r145 :: r146 :: r147 :: r148 :: s149 :: s150 :: s151 :: s152 :: s153 :: s154 :: s155 :: s156 :: s157 :: s158 :: s159 :: []), []⟩ w'') :
    Code.wp Tryd.prog (Code.loop getCBody) Q0 ⟨List.toArray (s0 :: s1 :: s2 :: s3 :: s4 :: s5 :: s6 :: s7 :: s8 :: s9 :: s10 :: .slice Al q cl :: s12 :: s13 :: s14 :: s15 :: .int .i64 vi :: .int .i64 (many : Int) :: .int .i64 0 :: s19 :: s20 :: s21 :: s22 :: s23 :: s24 :: s25 :: s26 :: s27 :: s28 :: s29 :: s30 :: s31 :: s32 :: s33 :: s34 :: s35 :: s36 :: s37 :: s38 :: s39 :: s40 :: s41 :: s42 :: s43 :: s44 :: s45 :: s46 :: s47 :: s48 :: s49 :: s50 :: s51 :: s52 :: s53 :: s54 :: s55 :: s56 :: s57 :: s58 :: s59 :: s60 :: s61 :: s62 :: s63 :: s64 :: s65 :: s66 :: s67 :: s68 :: s69 :: s70 :: s71 :: s72 :: s73 :: s74 :: s75 :: s76 :: s77 :: s78 :: s79 :: s80 :: s81 :: s82 :: s83 :: s84 :: s85 :: s86 :: s87 :: s88 :: s89 :: s90 :: s91 :: s92 :: s93 :: s94 :: s95 :: s96 :: s97 :: s98 :: s99 :: s100 :: s101 :: s102 :: s103 :: s104 :: s105 :: s106 :: s107 :: s108 :: s109 :: s110 :: s111 :: s112 :: s113 :: s114 :: s115 :: s116 :: s117 :: s118 :: s119 :: s120 :: s121 :: s122 :: s123 :: s124 :: s125 :: s126 :: s127 :: s128 :: s129 :: s130 :: s131 :: s132 :: s133 :: s134 :: s135 :: s136 :: s137 :: s138 :: s139 :: s140 :: s141 :: s142 :: s143 :: s144 :: s145 :: s146 :: s147 :: s148 :: s149 :: s150 :: s151 :: s152 :: s153 :: s154 :: s155 :: s156 :: s157 :: s158 :: s159 :: []), []⟩ wc := by
  subst hv
  have HEX := Lib.hid hexit
  have HQ2 := Lib.hid hq2
  clear hexit hq2
  conv => arg 2; arg 1; whnf
  go_loopw [11, 18] (fun a x wx => ∃ (j p : Nat) (A : Option Addr) (c : Nat), j ≤ many ∧ x = .int .i64 (j : Int) ∧ a = .slice A p c ∧ Hid (p = q + j) ∧ Hid (wx.ownsRow base 3 1 (.slice A p c) p ((l ++ List.replicate j v).map natc)) ∧ Hid (Fr (fun b => base ≤ b) wc wx)) (fun _ x _ => many - (intOf x).toNat)
  case atStart => exact ⟨0, q, Al, cl, by omega, rfl, rfl, Nat.add_zero q, by have h := HO.out; show World.ownsRow _ _ _ _ _ _ _; rw [List.replicate_zero, List.append_nil]; exact h, Fr.refl _ _⟩
  case round =>
    obtain ⟨j, p, A, c, hj, rfl, rfl, HP, HO2, HF⟩ := hrel
    rename World => wr
    by_cases hlt : j < many
    · have HSZ := Lib.hid (show base ≤ wr.heap.size by have h1 := HF.out.size; have h2 := HB.out; omega)
      go_wp2_with (at_builtin; refine wpList_appN int8T _ rfl _ _ rfl base _ _ _ rfl (HO2.out.alloc _) _ _ _ _ rfl (Rd.one _ _ _) (one_one _ _) (p + 1) rfl (by unfold maxLen; have := HP.out; omega) (by have := HP.out; omega) (by have h1 := HSZ.out; simp; omega) ?_)
      intro A3 c3 w3 _ _ hown3 hf3 _
      obtain ⟨p3, hp3⟩ : ∃ p3, p3 = p + 1 := ⟨_, rfl⟩
      have HO3 : Hid (w3.ownsRow base 3 1 (.slice A3 p3 c3) p3 ((l ++ List.replicate (j + 1) v).map natc)) := Lib.hid (by
        rw [hp3]
        refine own_list hown3 ?_
        simp [List.replicate_succ', natc])
      have HF3 : Hid (Fr (fun b => base ≤ b) wc w3) := Lib.hid ((HF.out.alloc _).trans hf3 (fun b hb h => (HO2.out.lt b h).1))
      have HP3 : Hid (p3 = q + (j + 1)) := Lib.hid (by have := HP.out; omega)
      rw [← hp3]
      clear hown3 hf3 hp3
      go_wp2_with fail
      exact ⟨⟨j + 1, p3, A3, c3, by omega, by go_num, rfl, HP3.out, HO3.out, HF3.out⟩, by simp [intOf]; omega⟩
    · obtain rfl : j = many := by omega
      obtain rfl : p = q2 := by have h1 := HP.out; have h2 := HQ2.out; omega
      go_wp2_with fail
      exact HEX.out _ _ _ _ _ _ _ _ _ _ _ _ HO2.out HF.out
end Go.Proofs.YtjghcacepneipaaDoor
namespace Go.Proofs.YtjghcacepneipaaDoor
open Go.RowKit CoM HuffM BitsM Mem Go.Lib
attribute [local go_sem ↓] Go.wp_at_zero Go.wp_at_succ
set_option linter.unusedVariables false

theorem step_none {len : List Nat} {NN : Nat} {l : List Nat} {bs : List Bool} (h : nextS (ints len) (bb bs) = (-1, 0)) : step8 len NN l bs = none := by
  unfold step8
  simp [h]
theorem step_lit {len : List Nat} {NN s k : Nat} {l : List Nat} {bs : List Bool} (h : nextS (ints len) (bb bs) = ((s : Int), (k : Int))) (hs : s < 16) : step8 len NN l bs = some (l ++ [s], bs.drop k) := by
  unfold step8
  simp only [h, Int.toNat_natCast]
  rw [if_neg (by omega), if_pos hs]
theorem step_nil {len : List Nat} {NN k : Nat} {bs : List Bool} (h : nextS (ints len) (bb bs) = (((16 : Nat) : Int), (k : Int))) : step8 len NN [] bs = none := by
  unfold step8
  simp only [h, Int.toNat_natCast]
  rw [if_neg (by omega), if_neg (by omega), if_pos ⟨by simp, by simp⟩]
theorem step_short {len : List Nat} {NN s k : Nat} {l : List Nat} {bs : List Bool} (h : nextS (ints len) (bb bs) = ((s : Int), (k : Int))) (hs : 16 ≤ s) (hr : (bs.drop k).length < sizeOf8 s) : step8 len NN l bs = none := by
  unfold step8
  simp only [h, Int.toNat_natCast]
  rw [if_neg (by omega), if_neg (by omega)]
  split
  · rfl
  · first | rfl | rw [if_pos hr]
theorem step_over {len : List Nat} {NN s k : Nat} {l : List Nat} {bs : List Bool} (h : nextS (ints len) (bb bs) = ((s : Int), (k : Int))) (hs : 16 ≤ s) (ho : NN < l.length + (leastOf8 s + num ((bs.drop k).take (sizeOf8 s)))) : step8 len NN l bs = none := by
  unfold step8
  simp only [h, Int.toNat_natCast]
  rw [if_neg (by omega), if_neg (by omega)]
  split
  · rfl
  · split
    · rfl
    · first | rfl | rw [if_pos ho]
theorem step_go {len : List Nat} {NN s k v : Nat} {l : List Nat} {bs : List Bool} (h : nextS (ints len) (bb bs) = ((s : Int), (k : Int))) (hs : 16 ≤ s) (hl : s = 16 → l ≠ []) (hr : ¬ (bs.drop k).length < sizeOf8 s) (ho : ¬ NN < l.length + (leastOf8 s + num ((bs.drop k).take (sizeOf8 s))))
    (hv : v = if s = 16 then l.getLastD 0 else 0) : step8 len NN l bs = some (l ++ List.replicate (leastOf8 s + num ((bs.drop k).take (sizeOf8 s))) v, (bs.drop k).drop (sizeOf8 s)) := by
  unfold step8
  simp only [h, Int.toNat_natCast]
  rw [if_neg (by omega), if_neg (by omega), if_neg (fun h => hl h.1 h.2), if_neg hr, if_neg ho, hv]
theorem tells_end {len : List Nat} {NN f : Nat} {l : List Nat} {bs : List Bool} (h : NN ≤ l.length) : tells len NN f l bs = some (l, bs) := by
  cases f <;> simp [tells, h]
theorem tells_none {len : List Nat} {NN f : Nat} {l : List Nat} {bs : List Bool} (h : l.length < NN) (hs : step8 len NN l bs = none) : tells len NN (f + 1) l bs = none := by
  rw [tells, if_neg (by omega), hs]
theorem tells_some {len : List Nat} {NN f : Nat} {l l2 : List Nat} {bs b2 : List Bool} (h : l.length < NN) (hs : step8 len NN l bs = some (l2, b2)) : tells len NN (f + 1) l bs = tells len NN f l2 b2 := by
  rw [tells, if_neg (by omega), hs]
theorem ints_cells (l : List Nat) : (ints l).map intc = l.map natc := by
  unfold ints
  rw [List.map_map]
  rfl

def slen : Value → Nat
  | .slice _ n _ => n
  | _ => 0
set_option maxRecDepth 1000000 in
noncomputable def getBBody : Code := ((Tryd.f21.body.bind (loopAt 19)).getD .skip)

set_option maxRecDepth 1000000 in
set_option maxHeartbeats 6400000 in
theorem getB_loop (Q0 : Exit → Act → World → Prop) (s1 s8 s10 s12 s13 s14 s15 s16 s17 s18 s19 s20 s21 s22 s23 s24 s25 s26 s27 s28 s29 s30 s31 s32 s33 s34 s35 s36 s37 s38 s39 s40 s41 s42 s43 s44 s45 s46 s47 s48 s49 s50 s51 s52 s53 s54 s55 s56 s57 s58 s59 s60 s61 s62 s63 s64 s65 s66 s67 s68 s69 s70 s71 s72 s73 s74 s75 s76 s77 s78 s79 s80 s81 s82 s83 s84 s85 s86 s87 s88 s89 s90 s91 s92 s93 s94 s95 s96 s97 s98 s99 s100 s101 s102 s103 s104 s105 s106 s107 s108 s109 s110 s111 s112 s113 s114 s115 s116 s117 s118 s119 s120 s121 s122 s123 s124 s125 s126 s127 s128 s129 s130 s131 s132 s133 s134 s135 s136 s137 s138 s139 s140 s141 s142 s143 s144 s145 s146 s147 s148 s149 s150 s151 s152 s153 s154 s155 s156 s157 s158 s159 : Value) (A0 : Option Addr) (n0 c0 N1 N2 NN gl : Nat) (len : List Nat) (bs0 : List Bool) (RES : Option (List Nat × List Bool)) (wc : World)
    (HL : Hid (NR wc gl len)) (H19 : Hid (len.length = 19 ∧ rightB (ints len) = true)) (HR : Hid (Rd wc A0 n0 (bs0.map bitc))) (hc : n0 ≤ c0) (hn : n0 ≤ 1000000) (HNN : Hid (N1 + N2 = NN)) (hNN : NN ≤ 316) (HRES0 : Hid (tells len NN NN [] bs0 = RES))
    (hexit : ∀ (w'' : World) (l : List Nat) (bs : List Bool) (A1 : Option Addr) (n1 c1 : Nat) (Al : Option Addr) (cl : Nat) (r2 r3 r4 r5 r12 r13 r14 r15 r16 r17 r18 r80 r81 r82 r83 r84 r85 r86 r87 r88 r89 r90 r91 r92 r93 r94 r95 r96 r97 r98 r99 r100 r101 r102 r103 r104 r105 r106 r107 r108 r109 r110 r111 r112 r113 r114 r115 r116 r117 r118 r119 r120 r121 r122 r123 r124 r125 r126 r127 r128 r129 r130 r131 r132 r133 r134 r135 r136 r137 r138 r139 r140 r141 r142 r143 r144 r145 r146 r147 r148 : Value), RES = some (l, bs) → NN = l.length → n1 = bs.length → n1 ≤ c1 → Rd w'' A1 n1 (bs.map bitc) → w''.ownsRow wc.heap.size 3 1 (.slice Al NN cl) NN (l.map natc) → Fr (fun _ => False) wc w'' → Q0 (.exit 2) ⟨List.toArray (.slice A1 n1 c1 :: s1 :: r2 :: r3 :: r4 :: r5 :: .int .i64 (N1 : Int) :: .int .i64 (N2 : Int) :: s8 :: .slice (some ⟨gl, 0, none⟩) 19 19 :: s10 :: .slice Al NN cl :: r12 :: r13 :: r14 :: r15 :: r16 :: r17 :: r18 :: s19 :: s20 :: s21 :: s22 :: s23 :: s24 :: s25 :: s26 :: s27 :: s28 :: s29 :: s30 :: s31 :: s32 :: s33 :: s34 :: s35 :: s36 :: s37 :: s38 :: s39 :: s40 :: s41 :: s42 :: s43 :: s44 :: s45 :: s46 :: s47 :: s48 :: s49 :: s50 :: s51 :: s52 :: s53 :: s54 :: s55 :: s56 :: s57 :: s58 :: s59 :: s60 :: s61 :: s62 :: s63 :: s64 :: s65 :: s66 :: s67 :: s68 :: s69 :: s70 :: s71 :: s72 :: s73 :: s74 :: s75 :: s76 :: s77 :: s78 :: s79 :: r80 :: r81 :: r82 :: r83 :: r84 :: r85 :: r86 :: r87 :: r88 :: r89 :: r90 :: r91 :: r92 :: r93 :: r94 :: r95 :: r96 :: r97 :: r98 :: r99 :: r100 :: r101 :: r102 :: r103 :: r104 :: r105 :: r106 :: r107 :: r108 :: r109 :: r110 :: r111 :: r112 :: r113 :: r114 :: r115 :: r116 :: r117 :: r118 :: r119 :: r120 :: r121 :: r122 :: r123 :: r124 :: r125 :: r126 :: r127 :: r128 :: r129 :: r130 :: r131 :: r132 :: r133 :: r134 :: r135 :: r136 :: r137 :: r138 :: r139 :: r140 :: r141 :: r142 :: r143 :: r144 :: r145 :: r146 :: r147 :: r148 :: s149 :: s150 :: s151 :: s152 :: s153 :: s154 :: s155 :: s156 :: s157 :: s158 :: s159 :: []), []⟩ w'')
    (hret : ∀ (w'' : World) (r0 r11 r12 r13 r14 r15 r16 r17 r18 r80 r81 r82 r83 r84 r85 r86 r87 r88 r89 r90 r91 r92 r93 r94 r95 r96 r97 r98 r99 r100 r101 r102 r103 r104 r105 r106 r107 r108 r109 r110 r111 r112 r113 r114 r115 r116 r117 r118 r119 r120 r121 r122 r123 r124 r125 r126 r127 r128 r129 r130 r131 r132 r133 r134 r135 r136 r137 r138 r139 r140 r141 r142 r143 r144 r145 r146 r147 r148 : Value), RES = none → Fr (fun _ => False) wc w'' → Q0 .ret ⟨List.toArray (r0 :: s1 :: .slice none 0 0 :: .slice none 0 0 :: .slice none 0 0 :: .int .i64 0 :: .int .i64 (N1 : Int) :: .int .i64 (N2 : Int) :: s8 :: .slice (some ⟨gl, 0, none⟩) 19 19 :: s10 :: r11 :: r12 :: r13 :: r14 :: r15 :: r16 :: r17 :: r18 :: s19 :: s20 :: s21 :: s22 :: s23 :: s24 :: s25 :: s26 :: s27 :: s28 :: s29 :: s30 :: s31 :: s32 :: s33 :: s34 :: s35 :: s36 :: s37 :: s38 :: s39 :: s40 :: s41 :: s42 :: s43 :: s44 :: s45 :: s46 :: s47 :: s48 :: s49 :: s50 :: s51 :: s52 :: s53 :: s54 :: s55 :: s56 :: s57 :: s58 :: s59 :: s60 :: s61 :: s62 :: s63 :: s64 :: s65 :: s66 :: s67 :: s68 :: s69 :: s70 :: s71 :: s72 :: s73 :: s74 :: s75 :: s76 :: s77 :: s78 :: s79 :: r80 :: r81 :: r82 :: r83 :: r84 :: r85 :: r86 :: r87 :: r88 :: r89 :: r90 :: r91 :: r92 :: r93 :: r94 :: r95 :: r96 :: r97 :: r98 :: r99 :: r100 :: r101 :: r102 :: r103 :: r104 :: r105 :: r106 :: r107 :: r108 :: r109 :: r110 :: r111 :: r112 :: r113 :: r114 :: r115 :: r116 :: r117 :: r118 :: r119 :: r120 :: r121 :: r122 :: r123 :: r124 :: r125 :: r126 :: r127 :: r128 :: r129 :: r130 :: r131 :: r132 :: r133 :: r134 :: r135 :: r136 :: r137 :: r138 :: r139 :: r140 :: r141 :: r142 :: r143 :: r144 :: r145 :: r146 :: r147 :: r148 :: s149 :: s150 :: s151 :: s152 :: s153 :: s154 :: s155 :: s156 :: s157 :: s158 :: s159 :: []), []⟩ w'') :
    Code.wp Tryd.prog (Code.loop getBBody) Q0 ⟨List.toArray (.slice A0 n0 c0 :: s1 :: .slice none 0 0 :: .slice none 0 0 :: .slice none 0 0 :: .int .i64 0 :: .int .i64 (N1 : Int) :: .int .i64 (N2 : Int) :: s8 :: .slice (some ⟨gl, 0, none⟩) 19 19 :: s10 :: .slice none 0 0 :: s12 :: s13 :: s14 :: s15 :: s16 :: s17 :: s18 :: s19 :: s20 :: s21 :: s22 :: s23 :: s24 :: s25 :: s26 :: s27 :: s28 :: s29 :: s30 :: s31 :: s32 :: s33 :: s34 :: s35 :: s36 :: s37 :: s38 :: s39 :: s40 :: s41 :: s42 :: s43 :: s44 :: s45 :: s46 :: s47 :: s48 :: s49 :: s50 :: s51 :: s52 :: s53 :: s54 :: s55 :: s56 :: s57 :: s58 :: s59 :: s60 :: s61 :: s62 :: s63 :: s64 :: s65 :: s66 :: s67 :: s68 :: s69 :: s70 :: s71 :: s72 :: s73 :: s74 :: s75 :: s76 :: s77 :: s78 :: s79 :: s80 :: s81 :: s82 :: s83 :: s84 :: s85 :: s86 :: s87 :: s88 :: s89 :: s90 :: s91 :: s92 :: s93 :: s94 :: s95 :: s96 :: s97 :: s98 :: s99 :: s100 :: s101 :: s102 :: s103 :: s104 :: s105 :: s106 :: s107 :: s108 :: s109 :: s110 :: s111 :: s112 :: s113 :: s114 :: s115 :: s116 :: s117 :: s118 :: s119 :: s120 :: s121 :: s122 :: s123 :: s124 :: s125 :: s126 :: s127 :: s128 :: s129 :: s130 :: s131 :: s132 :: s133 :: s134 :: s135 :: s136 :: s137 :: s138 :: s139 :: s140 :: s141 :: s142 :: s143 :: s144 :: s145 :: s146 :: s147 :: s148 :: s149 :: s150 :: s151 :: s152 :: s153 :: s154 :: s155 :: s156 :: s157 :: s158 :: s159 :: []), []⟩ wc := by
  have HEX := Lib.hid hexit
  have HRET := Lib.hid hret
  have HLEN0 : Hid (n0 = bs0.length) := Lib.hid (by have := HR.out.1; simp at this; omega)
  clear hexit hret
  conv => arg 2; arg 1; whnf
  go_loopw [0, 11] (fun a b wx => ∃ (f : Nat) (l : List Nat) (bs : List Bool) (n1 q : Nat) (A1 : Option Addr) (c1 : Nat) (Al : Option Addr) (cl : Nat), a = .slice A1 n1 c1 ∧ b = .slice Al q cl ∧ n1 ≤ c1 ∧ n1 ≤ 1000000 ∧ q ≤ NN ∧ NN ≤ q + f ∧ Hid (Rd wc A1 n1 (bs.map bitc)) ∧ Hid (n1 = bs.length) ∧ Hid (q = l.length) ∧
    Hid (wx.ownsRow wc.heap.size 3 1 (.slice Al q cl) q (l.map natc)) ∧ Hid (tells len NN f l bs = RES) ∧ Hid (Fr (fun _ => False) wc wx)) (fun _ b _ => NN - slen b)
  case atStart => exact ⟨NN, [], bs0, n0, 0, A0, c0, none, 0, rfl, rfl, hc, hn, by omega, by omega, HR.out, HLEN0.out, rfl, World.ownsRow_nil _ _ _ _, HRES0.out, Fr.refl _ _⟩
  case round =>
    obtain ⟨f, l, bs, n1, q, A1, c1, Al, cl, rfl, rfl, hc1, hn1, hq, hqf, HRD, HN1, HQ, HO, HT, HF⟩ := hrel
    rename World => wr
    have hnnA : (N1 : Int) + (N2 : Int) = (NN : Int) := by have := HNN.out; omega
    have hnnB : IntKind.i64.wrap ((N1 : Int) + (N2 : Int)) = (NN : Int) := by rw [IntKind.wrap_i64]; have := HNN.out; omega
    by_cases hlt : q < NN
    · obtain ⟨f1, hf1⟩ : ∃ f1, f = f1 + 1 := ⟨f - 1, by omega⟩
      have hinR : ∀ x ∈ ints len, inR x = true := right_in H19.out.2
      have hnc : ∀ w', Fr (fun _ => False) wc w' → Calls Tryd.prog 44 #[.slice (some ⟨gl, 0, none⟩) 19 19, .slice A1 n1 c1] w' fun e w2 => e = .returned (.tuple #[.int .i64 (nextS (ints len) (bb bs)).1, .int .i64 (nextS (ints len) (bb bs)).2]) ∧ Fr (fun _ => False) w' w2 := by
        intro w' hf
        have h1 := (show NR w' gl len from Row.fr HL.out hf (fun h => h)).rd
        rw [H19.out.1, ← ints_cells] at h1
        exact rNext_any _ 19 19 (ints len) A1 n1 c1 (bb bs) w' h1 (by omega) (fun ad e => by
          injection e with e
          subst e
          exact Nat.lt_of_lt_of_le (Row.lt HL.out) hf.size) (by rw [bb_cells]; exact HRD.out.fr hf (fun _ _ h => h)) hinR
      have HNC := Lib.hid hnc
      have tq : decide ((q : Int) < (NN : Int)) = true := decide_eq_true (by omega)
      rcases next_cases (B := bb bs) hinR with hno | ⟨s, k, hsk, hs19, hk, _⟩
      · have HRES : Hid (RES = none) := Lib.hid (by rw [← HT.out, hf1]; exact tells_none (by have := HQ.out; omega) (step_none hno))
        have HNEXT : Hid (∀ w', Fr (fun _ => False) wc w' → Calls Tryd.prog 44 #[.slice (some ⟨gl, 0, none⟩) 19 19, .slice A1 n1 c1] w' fun e w2 => e = .returned (.tuple #[.int .i64 (-1), .int .i64 0]) ∧ Fr (fun _ => False) w' w2) := Lib.hid (fun w' hf => by
          have h := HNC.out w' hf
          rw [hno] at h
          exact h)
        clear hno hnc HNC hinR
        go_wp2_with fail
        refine (HNEXT.out _ HF.out).mono ?_
        rintro e wx ⟨rfl, hfx⟩
        have HFX := Lib.hid (HF.out.trans hfx (fun _ _ h => h))
        clear hfx
        go_wp2_with fail
        exact HRET.out _ _ _ _ _ _ _ _ _ _ _ _ _ _ _ _ _ _ _ _ _ _ _ _ _ _ _ _ _ _ _ _ _ _ _ _ _ _ _ _ _ _ _ _ _ _ _ _ _ _ _ _ _ _ _ _ _ _ _ _ _ _ _ _ _ _ _ _ _ _ _ _ _ _ _ _ _ _ _ HRES.out HFX.out
      rw [ints_len, H19.out.1] at hs19
      rw [bb_len, ← HN1.out] at hk
      clear hnc hinR
      by_cases hs16 : s < 16
      · have HNEXT : Hid (∀ w', Fr (fun _ => False) wc w' → Calls Tryd.prog 44 #[.slice (some ⟨gl, 0, none⟩) 19 19, .slice A1 n1 c1] w' fun e w2 => e = .returned (.tuple #[.int .i64 (s : Int), .int .i64 (k : Int)]) ∧ Fr (fun _ => False) w' w2) := Lib.hid (fun w' hf => by
          have h := HNC.out w' hf
          rw [hsk] at h
          exact h)
        have HNX := Lib.hid hsk
        obtain ⟨A2, hA2⟩ : ∃ A2, A2 = cutAt A1 c1 k := ⟨_, rfl⟩
        obtain ⟨n2, hn2⟩ : ∃ n2, n2 = n1 - k := ⟨_, rfl⟩
        obtain ⟨c2, hc2⟩ : ∃ c2, c2 = c1 - k := ⟨_, rfl⟩
        obtain ⟨b2, hb2⟩ : ∃ b2, b2 = bs.drop k := ⟨_, rfl⟩
        have hfk : ∀ w' : World, (Instr.sliceAt 22 (.slice A1 n1 c1) (some (.int .i64 (k : Int))) none none).run Tryd.prog w' = .ok (.slice A2 n2 c2) w' := fun w' => by
          rw [hA2, hn2, hc2]
          exact run_fromB A1 n1 c1 k hk _ rfl w'
        have HRD2 : Hid (Rd wc A2 n2 (b2.map bitc)) := Lib.hid (by
          rw [hA2, hn2, hb2, List.map_drop]
          exact rd_from HRD.out hk hc1)
        have hc2n : n2 ≤ c2 := by omega
        have hn2b : n2 ≤ 1000000 := by omega
        have HB2 := Lib.hid hb2
        have HN2 : Hid (n2 = b2.length) := Lib.hid (by rw [hb2, List.length_drop, ← HN1.out]; exact hn2)
        clear hA2 hn2 hc2 hb2 hsk
        go_wp2_with fail
        refine (HNEXT.out _ HF.out).mono ?_
        rintro e wx ⟨rfl, hfx⟩
        have HFX := Lib.hid (HF.out.trans hfx (fun _ _ h => h))
        have HOX : Hid (wx.ownsRow wc.heap.size 3 1 (.slice Al q cl) q (l.map natc)) := Lib.hid (hfx.own HO.out (fun _ _ h => h))
        clear hfx
        have HT2 : Hid (tells len NN f1 (l ++ [s]) b2 = RES) := Lib.hid (by
          rw [← HT.out, hf1, HB2.out]
          exact (tells_some (by have := HQ.out; omega) (step_lit HNX.out hs16)).symm)
        obtain ⟨q2, hq2⟩ : ∃ q2, q2 = q + 1 := ⟨_, rfl⟩
        have HQ2 : Hid (q2 = (l ++ [s]).length) := Lib.hid (by rw [List.length_append, ← HQ.out]; exact hq2)
        have ts : decide ((s : Int) < 16) = true := decide_eq_true (by omega)
        have HQE := Lib.hid hq2
        have HBW : Hid (wc.heap.size ≤ wx.heap.size) := Lib.hid HFX.out.size
        clear hs16 hq2
        go_wp2_with (at_builtin; refine wpList_appN int8T _ rfl _ _ rfl wc.heap.size _ _ _ rfl (HOX.out.alloc _) _ _ _ _ rfl (Rd.one _ _ _) (one_one _ _) q2 HQE.out (by unfold maxLen; have := HQE.out; omega) (by have := HQE.out; omega) (by have h1 := HBW.out; simp; omega) ?_)
        intro A9 c9 w9 _ _ hown9 hf9 _
        have HO9 : Hid (w9.ownsRow wc.heap.size 3 1 (.slice A9 q2 c9) q2 ((l ++ [s]).map natc)) := Lib.hid (own_list hown9 (by simp [natc]))
        have HF9 : Hid (Fr (fun _ => False) wc w9) := Lib.hid ((HFX.out.alloc _).trans hf9 (fun b hb h => by have := (HOX.out.lt b h).1; omega))
        clear hown9 hf9
        go_wp2_with fail
        exact ⟨⟨f1, l ++ [s], b2, n2, q2, A2, c2, A9, c9, rfl, rfl, hc2n, hn2b, by have := HQE.out; omega, by have := HQE.out; omega, HRD2.out, HN2.out, HQ2.out, HO9.out, HT2.out, HF9.out⟩, by simp [slen]; have := HQE.out; omega⟩
      by_cases hs16 : s = 16
      · subst hs16
        have HNEXT : Hid (∀ w', Fr (fun _ => False) wc w' → Calls Tryd.prog 44 #[.slice (some ⟨gl, 0, none⟩) 19 19, .slice A1 n1 c1] w' fun e w2 => e = .returned (.tuple #[.int .i64 16, .int .i64 (k : Int)]) ∧ Fr (fun _ => False) w' w2) := Lib.hid (fun w' hf => by
          have h := HNC.out w' hf
          rw [hsk] at h
          exact h)
        have HNX := Lib.hid hsk
        obtain ⟨A2, hA2⟩ : ∃ A2, A2 = cutAt A1 c1 k := ⟨_, rfl⟩
        obtain ⟨n2, hn2⟩ : ∃ n2, n2 = n1 - k := ⟨_, rfl⟩
        obtain ⟨c2, hc2⟩ : ∃ c2, c2 = c1 - k := ⟨_, rfl⟩
        obtain ⟨b2, hb2⟩ : ∃ b2, b2 = bs.drop k := ⟨_, rfl⟩
        have hfk : ∀ w' : World, (Instr.sliceAt 22 (.slice A1 n1 c1) (some (.int .i64 (k : Int))) none none).run Tryd.prog w' = .ok (.slice A2 n2 c2) w' := fun w' => by
          rw [hA2, hn2, hc2]
          exact run_fromB A1 n1 c1 k hk _ rfl w'
        have HRD2 : Hid (Rd wc A2 n2 (b2.map bitc)) := Lib.hid (by
          rw [hA2, hn2, hb2, List.map_drop]
          exact rd_from HRD.out hk hc1)
        have hc2n : n2 ≤ c2 := by omega
        have hn2b : n2 ≤ 1000000 := by omega
        have HB2 := Lib.hid hb2
        have HN2 : Hid (n2 = b2.length) := Lib.hid (by rw [hb2, List.length_drop, ← HN1.out]; exact hn2)
        clear hA2 hn2 hc2 hb2 hsk
        go_wp2_with fail
        refine (HNEXT.out _ HF.out).mono ?_
        rintro e wx ⟨rfl, hfx⟩
        have HFX := Lib.hid (HF.out.trans hfx (fun _ _ h => h))
        have HOX : Hid (wx.ownsRow wc.heap.size 3 1 (.slice Al q cl) q (l.map natc)) := Lib.hid (hfx.own HO.out (fun _ _ h => h))
        clear hfx
        by_cases hq0 : q = 0
        · have hl0 : l = [] := List.eq_nil_of_length_eq_zero (by have := HQ.out; omega)
          have HRES : Hid (RES = none) := Lib.hid (by rw [← HT.out, hf1]; exact tells_none (by have := HQ.out; omega) (by rw [hl0]; exact step_nil HNX.out))
          subst hq0
          clear hl0
          go_wp2_with fail
          exact HRET.out _ _ _ _ _ _ _ _ _ _ _ _ _ _ _ _ _ _ _ _ _ _ _ _ _ _ _ _ _ _ _ _ _ _ _ _ _ _ _ _ _ _ _ _ _ _ _ _ _ _ _ _ _ _ _ _ _ _ _ _ _ _ _ _ _ _ _ _ _ _ _ _ _ _ _ _ _ _ _ HRES.out HFX.out
        obtain ⟨q1, hq1⟩ : ∃ q1, q = q1 + 1 := ⟨q - 1, by omega⟩
        have hlne : l ≠ [] := fun e => by have h := HQ.out; rw [e] at h; simp at h; omega
        obtain ⟨v, hv⟩ : ∃ v, v = l.getLastD 0 := ⟨_, rfl⟩
        obtain ⟨ad, hAl, hcell⟩ := nat_cell (Rd.of_own HOX.out) (k := q1) (by omega)
        have hvq : l[q1]! = v := by
          have h1 := HQ.out
          rw [hv, List.getLastD_eq_getLast?, List.getLast?_eq_getElem?, show l.length - 1 = q1 by omega, List.getElem?_eq_getElem (by omega), getElem!_pos l q1 (by omega)]
          rfl
        rw [hvq] at hcell
        subst hAl
        have HV : Hid (v = if 16 = 16 then l.getLastD 0 else 0) := Lib.hid (by rw [if_pos rfl]; exact hv)
        have HVI : Hid ((v : Int) = (v : Int)) := Lib.hid rfl
        have HLN : Hid (16 = 16 → l ≠ []) := Lib.hid (fun _ => hlne)
        have eq1 : (q : Int) - 1 = (q1 : Int) := by omega
        have eq1w : IntKind.i64.wrap ((q : Int) - 1) = (q1 : Int) := by rw [IntKind.wrap_i64]; omega
        have tq0 : ((q : Int) == 0) = false := by simp; omega
        have hq1q : (q1 : Int) < (q : Int) := by omega
        have HQ1 := Lib.hid hq1
        clear hvq hv hlne hq1 hq0
        have hsz8 : sizeOf8 16 = 2 := rfl
        have hls8 : leastOf8 16 = 3 := rfl
        by_cases hsh : n2 < 2
        · have HRES : Hid (RES = none) := Lib.hid (by rw [← HT.out, hf1]; exact tells_none (by have := HQ.out; omega) (step_short HNX.out (by omega) (by have := HN2.out; rw [hsz8, ← HB2.out]; omega)))
          have tsh : decide ((n2 : Int) < 2) = true := decide_eq_true (by omega)
          clear hsh
          go_wp2_with fail
          exact HRET.out _ _ _ _ _ _ _ _ _ _ _ _ _ _ _ _ _ _ _ _ _ _ _ _ _ _ _ _ _ _ _ _ _ _ _ _ _ _ _ _ _ _ _ _ _ _ _ _ _ _ _ _ _ _ _ _ _ _ _ _ _ _ _ _ _ _ _ _ _ _ _ _ _ _ _ _ _ _ _ HRES.out HFX.out
        obtain ⟨x, hx⟩ : ∃ x, x = num (b2.take 2) := ⟨_, rfl⟩
        have hx127 : x ≤ 127 := by rw [hx]; have := num3_lt b2 0 2 (by omega); rwa [List.drop_zero] at this
        have hto : ∀ w' : World, (Instr.sliceAt 22 (.slice A2 n2 c2) none (some (.int .i64 2)) none).run Tryd.prog w' = .ok (.slice A2 2 c2) w' := fun w' => run_toB A2 n2 c2 2 (by omega) hc2n _ rfl w'
        have hnum : ∀ w', Fr (fun _ => False) wc w' → Calls Tryd.prog 41 #[.slice A2 2 c2] w' fun e w2 => e = .returned (.int .u64 (x : Int)) ∧ w' = w2 := by
          intro w' hf
          have h := rd_to (HRD2.out.fr hf (fun _ _ h => h)) (y := 2) (by omega)
          rw [← List.map_take] at h
          have h2 := num_any A2 2 c2 _ w' h (by omega)
          rwa [← hx] at h2
        have hcv := conv_int8 x (by omega)
        obtain ⟨many, hmany⟩ : ∃ many, many = 3 + x := ⟨_, rfl⟩
        have em : (3 : Int) + (x : Int) = (many : Int) := by omega
        have em2 : IntKind.i64.wrap ((3 : Int) + (x : Int)) = (many : Int) := by rw [IntKind.wrap_i64]; omega
        obtain ⟨A3, hA3⟩ : ∃ A3, A3 = cutAt A2 c2 2 := ⟨_, rfl⟩
        obtain ⟨n3, hn3⟩ : ∃ n3, n3 = n2 - 2 := ⟨_, rfl⟩
        obtain ⟨c3, hc3⟩ : ∃ c3, c3 = c2 - 2 := ⟨_, rfl⟩
        have hfrom : ∀ w' : World, (Instr.sliceAt 22 (.slice A2 n2 c2) (some (.int .i64 2)) none none).run Tryd.prog w' = .ok (.slice A3 n3 c3) w' := fun w' => by
          rw [hA3, hn3, hc3]
          exact run_fromB A2 n2 c2 2 (by omega) _ rfl w'
        have HRD3 : Hid (Rd wc A3 n3 ((b2.drop 2).map bitc)) := Lib.hid (by
          rw [hA3, hn3, List.map_drop]
          exact rd_from HRD2.out (by omega) hc2n)
        have hc3n : n3 ≤ c3 := by omega
        have hn3b : n3 ≤ 1000000 := by omega
        have hm200 : many ≤ 200 := by omega
        have HX := Lib.hid (And.intro hx hmany)
        have HNUM := Lib.hid hnum
        have HN3 : Hid (n3 = (b2.drop 2).length) := Lib.hid (by rw [List.length_drop, ← HN2.out]; exact hn3)
        have tsh : decide ((n2 : Int) < 2) = false := decide_eq_false (by omega)
        clear hx hnum hmany hA3 hc3 hn3
        obtain ⟨q2, hq2⟩ : ∃ q2, q2 = q + many := ⟨_, rfl⟩
        have eq2 : (q : Int) + (many : Int) = (q2 : Int) := by omega
        have eq3 : IntKind.i64.wrap ((q : Int) + (many : Int)) = (q2 : Int) := by rw [IntKind.wrap_i64]; omega
        have hnn : (N1 : Int) + (N2 : Int) = (NN : Int) := by have := HNN.out; omega
        have hnn2 : IntKind.i64.wrap ((N1 : Int) + (N2 : Int)) = (NN : Int) := by rw [IntKind.wrap_i64]; have := HNN.out; omega
        have HQ2 := Lib.hid hq2
        by_cases hov : NN < q2
        · have HRES : Hid (RES = none) := Lib.hid (by rw [← HT.out, hf1]; exact tells_none (by have := HQ.out; omega) (step_over HNX.out (by omega) (by have h1 := HQ.out; have h2 := HX.out; have h3 := HQ2.out; rw [hsz8, hls8, ← HB2.out]; omega)))
          have tov : decide ((q2 : Int) > (NN : Int)) = true := decide_eq_true (by omega)
          have tov2 : decide ((NN : Int) < (q2 : Int)) = true := decide_eq_true (by omega)
          clear hq2 hsz8 hls8
          go_wp2_with (refine (HNUM.out _ HFX.out).mono ?_; rintro e w' ⟨rfl, rfl⟩)
          exact HRET.out _ _ _ _ _ _ _ _ _ _ _ _ _ _ _ _ _ _ _ _ _ _ _ _ _ _ _ _ _ _ _ _ _ _ _ _ _ _ _ _ _ _ _ _ _ _ _ _ _ _ _ _ _ _ _ _ _ _ _ _ _ _ _ _ _ _ _ _ _ _ _ _ _ _ _ _ _ _ _ HRES.out HFX.out
        have tov : decide ((q2 : Int) > (NN : Int)) = false := decide_eq_false (by omega)
        have tov2 : decide ((NN : Int) < (q2 : Int)) = false := decide_eq_false (by omega)
        have HT2 : Hid (tells len NN f1 (l ++ List.replicate many v) (b2.drop 2) = RES) := Lib.hid (by
          rw [← HT.out, hf1]
          refine (tells_some (by have := HQ.out; omega) ?_).symm
          have h := step_go (v := v) (NN := NN) HNX.out (by omega) HLN.out (by have := HN2.out; rw [hsz8, ← HB2.out]; omega) (by have h1 := HQ.out; have h2 := HX.out; have h3 := HQ2.out; rw [hsz8, hls8, ← HB2.out]; omega) HV.out
          rw [h, hsz8, hls8, ← HB2.out, ← HX.out.1, ← HX.out.2])
        have hq2n : q2 ≤ NN := by omega
        have hq2f : NN ≤ q2 + f1 := by have := HX.out.2; omega
        have hqq2 : q < q2 := by have := HX.out.2; omega
        have HBW : Hid (wc.heap.size ≤ wx.heap.size) := Lib.hid HFX.out.size
        clear hq2 hsz8 hls8
        go_wp2_with (refine (HNUM.out _ HFX.out).mono ?_; rintro e w' ⟨rfl, rfl⟩)
        refine getC_loop _ _ _ _ _ _ _ _ _ _ _ _ _ _ _ _ _ _ _ _ _ _ _ _ _ _ _ _ _ _ _ _ _ _ _ _ _ _ _ _ _ _ _ _ _ _ _ _ _ _ _ _ _ _ _ _ _ _ _ _ _ _ _ _ _ _ _ _ _ _ _ _ _ _ _ _ _ _ _ _ _ _ _ _ _ _ _ _ _ _ _ _ _ _ _ _ _ _ _ _ _ _ _ _ _ _ _ _ _ _ _ _ _ _ _ _ _ _ _ _ _ _ _ _ _ _ _ _ _ _ _ _ _ _ _ _ _ _ _ _ _ _ _ _ _ _ _ _ _ _ _ _ _ _ _ _ _ (some ad) q cl v many wc.heap.size q2 l wx HOX (by omega) (by omega) HBW HQ2.out _ (by first | exact HVI.out | rfl) ?_
        intro w9 Al2 cl2 y0 y1 y2 y3 y4 y5 y6 y7 y8 hO9 hf9
        have HO9 := Lib.hid hO9
        have HF9 : Hid (Fr (fun _ => False) wc w9) := Lib.hid (HFX.out.trans hf9 (fun b hb h => by omega))
        have HQ9 : Hid (q2 = (l ++ List.replicate many v).length) := Lib.hid (by rw [List.length_append, List.length_replicate, ← HQ.out]; exact HQ2.out)
        clear hO9 hf9
        go_wp2_with fail
        exact ⟨⟨f1, l ++ List.replicate many v, b2.drop 2, n3, q2, A3, c3, Al2, cl2, rfl, rfl, hc3n, hn3b, hq2n, hq2f, HRD3.out, HN3.out, HQ9.out, HO9.out, HT2.out, HF9.out⟩, by simp [slen]; omega⟩
      by_cases hs17 : s = 17
      · subst hs17
        have HNEXT : Hid (∀ w', Fr (fun _ => False) wc w' → Calls Tryd.prog 44 #[.slice (some ⟨gl, 0, none⟩) 19 19, .slice A1 n1 c1] w' fun e w2 => e = .returned (.tuple #[.int .i64 17, .int .i64 (k : Int)]) ∧ Fr (fun _ => False) w' w2) := Lib.hid (fun w' hf => by
          have h := HNC.out w' hf
          rw [hsk] at h
          exact h)
        have HNX := Lib.hid hsk
        obtain ⟨A2, hA2⟩ : ∃ A2, A2 = cutAt A1 c1 k := ⟨_, rfl⟩
        obtain ⟨n2, hn2⟩ : ∃ n2, n2 = n1 - k := ⟨_, rfl⟩
        obtain ⟨c2, hc2⟩ : ∃ c2, c2 = c1 - k := ⟨_, rfl⟩
        obtain ⟨b2, hb2⟩ : ∃ b2, b2 = bs.drop k := ⟨_, rfl⟩
        have hfk : ∀ w' : World, (Instr.sliceAt 22 (.slice A1 n1 c1) (some (.int .i64 (k : Int))) none none).run Tryd.prog w' = .ok (.slice A2 n2 c2) w' := fun w' => by
          rw [hA2, hn2, hc2]
          exact run_fromB A1 n1 c1 k hk _ rfl w'
        have HRD2 : Hid (Rd wc A2 n2 (b2.map bitc)) := Lib.hid (by
          rw [hA2, hn2, hb2, List.map_drop]
          exact rd_from HRD.out hk hc1)
        have hc2n : n2 ≤ c2 := by omega
        have hn2b : n2 ≤ 1000000 := by omega
        have HB2 := Lib.hid hb2
        have HN2 : Hid (n2 = b2.length) := Lib.hid (by rw [hb2, List.length_drop, ← HN1.out]; exact hn2)
        clear hA2 hn2 hc2 hb2 hsk
        go_wp2_with fail
        refine (HNEXT.out _ HF.out).mono ?_
        rintro e wx ⟨rfl, hfx⟩
        have HFX := Lib.hid (HF.out.trans hfx (fun _ _ h => h))
        have HOX : Hid (wx.ownsRow wc.heap.size 3 1 (.slice Al q cl) q (l.map natc)) := Lib.hid (hfx.own HO.out (fun _ _ h => h))
        clear hfx
        obtain ⟨v, hv⟩ : ∃ v : Nat, v = 0 := ⟨_, rfl⟩
        have HV : Hid (v = if 17 = 16 then l.getLastD 0 else 0) := Lib.hid (by rw [if_neg (by omega)]; exact hv)
        have HVI : Hid ((0 : Int) = (v : Int)) := Lib.hid (by rw [hv]; rfl)
        have HLN : Hid (17 = 16 → l ≠ []) := Lib.hid (fun h => by omega)
        clear hv
        have hsz8 : sizeOf8 17 = 3 := rfl
        have hls8 : leastOf8 17 = 3 := rfl
        by_cases hsh : n2 < 3
        · have HRES : Hid (RES = none) := Lib.hid (by rw [← HT.out, hf1]; exact tells_none (by have := HQ.out; omega) (step_short HNX.out (by omega) (by have := HN2.out; rw [hsz8, ← HB2.out]; omega)))
          have tsh : decide ((n2 : Int) < 3) = true := decide_eq_true (by omega)
          clear hsh
          go_wp2_with fail
          exact HRET.out _ _ _ _ _ _ _ _ _ _ _ _ _ _ _ _ _ _ _ _ _ _ _ _ _ _ _ _ _ _ _ _ _ _ _ _ _ _ _ _ _ _ _ _ _ _ _ _ _ _ _ _ _ _ _ _ _ _ _ _ _ _ _ _ _ _ _ _ _ _ _ _ _ _ _ _ _ _ _ HRES.out HFX.out
        obtain ⟨x, hx⟩ : ∃ x, x = num (b2.take 3) := ⟨_, rfl⟩
        have hx127 : x ≤ 127 := by rw [hx]; have := num3_lt b2 0 3 (by omega); rwa [List.drop_zero] at this
        have hto : ∀ w' : World, (Instr.sliceAt 22 (.slice A2 n2 c2) none (some (.int .i64 3)) none).run Tryd.prog w' = .ok (.slice A2 3 c2) w' := fun w' => run_toB A2 n2 c2 3 (by omega) hc2n _ rfl w'
        have hnum : ∀ w', Fr (fun _ => False) wc w' → Calls Tryd.prog 41 #[.slice A2 3 c2] w' fun e w2 => e = .returned (.int .u64 (x : Int)) ∧ w' = w2 := by
          intro w' hf
          have h := rd_to (HRD2.out.fr hf (fun _ _ h => h)) (y := 3) (by omega)
          rw [← List.map_take] at h
          have h2 := num_any A2 3 c2 _ w' h (by omega)
          rwa [← hx] at h2
        have hcv := conv_int8 x (by omega)
        obtain ⟨many, hmany⟩ : ∃ many, many = 3 + x := ⟨_, rfl⟩
        have em : (3 : Int) + (x : Int) = (many : Int) := by omega
        have em2 : IntKind.i64.wrap ((3 : Int) + (x : Int)) = (many : Int) := by rw [IntKind.wrap_i64]; omega
        obtain ⟨A3, hA3⟩ : ∃ A3, A3 = cutAt A2 c2 3 := ⟨_, rfl⟩
        obtain ⟨n3, hn3⟩ : ∃ n3, n3 = n2 - 3 := ⟨_, rfl⟩
        obtain ⟨c3, hc3⟩ : ∃ c3, c3 = c2 - 3 := ⟨_, rfl⟩
        have hfrom : ∀ w' : World, (Instr.sliceAt 22 (.slice A2 n2 c2) (some (.int .i64 3)) none none).run Tryd.prog w' = .ok (.slice A3 n3 c3) w' := fun w' => by
          rw [hA3, hn3, hc3]
          exact run_fromB A2 n2 c2 3 (by omega) _ rfl w'
        have HRD3 : Hid (Rd wc A3 n3 ((b2.drop 3).map bitc)) := Lib.hid (by
          rw [hA3, hn3, List.map_drop]
          exact rd_from HRD2.out (by omega) hc2n)
        have hc3n : n3 ≤ c3 := by omega
        have hn3b : n3 ≤ 1000000 := by omega
        have hm200 : many ≤ 200 := by omega
        have HX := Lib.hid (And.intro hx hmany)
        have HNUM := Lib.hid hnum
        have HN3 : Hid (n3 = (b2.drop 3).length) := Lib.hid (by rw [List.length_drop, ← HN2.out]; exact hn3)
        have tsh : decide ((n2 : Int) < 3) = false := decide_eq_false (by omega)
        clear hx hnum hmany hA3 hc3 hn3
        obtain ⟨q2, hq2⟩ : ∃ q2, q2 = q + many := ⟨_, rfl⟩
        have eq2 : (q : Int) + (many : Int) = (q2 : Int) := by omega
        have eq3 : IntKind.i64.wrap ((q : Int) + (many : Int)) = (q2 : Int) := by rw [IntKind.wrap_i64]; omega
        have hnn : (N1 : Int) + (N2 : Int) = (NN : Int) := by have := HNN.out; omega
        have hnn2 : IntKind.i64.wrap ((N1 : Int) + (N2 : Int)) = (NN : Int) := by rw [IntKind.wrap_i64]; have := HNN.out; omega
        have HQ2 := Lib.hid hq2
        by_cases hov : NN < q2
        · have HRES : Hid (RES = none) := Lib.hid (by rw [← HT.out, hf1]; exact tells_none (by have := HQ.out; omega) (step_over HNX.out (by omega) (by have h1 := HQ.out; have h2 := HX.out; have h3 := HQ2.out; rw [hsz8, hls8, ← HB2.out]; omega)))
          have tov : decide ((q2 : Int) > (NN : Int)) = true := decide_eq_true (by omega)
          have tov2 : decide ((NN : Int) < (q2 : Int)) = true := decide_eq_true (by omega)
          clear hq2 hsz8 hls8
          go_wp2_with (refine (HNUM.out _ HFX.out).mono ?_; rintro e w' ⟨rfl, rfl⟩)
          exact HRET.out _ _ _ _ _ _ _ _ _ _ _ _ _ _ _ _ _ _ _ _ _ _ _ _ _ _ _ _ _ _ _ _ _ _ _ _ _ _ _ _ _ _ _ _ _ _ _ _ _ _ _ _ _ _ _ _ _ _ _ _ _ _ _ _ _ _ _ _ _ _ _ _ _ _ _ _ _ _ _ HRES.out HFX.out
        have tov : decide ((q2 : Int) > (NN : Int)) = false := decide_eq_false (by omega)
        have tov2 : decide ((NN : Int) < (q2 : Int)) = false := decide_eq_false (by omega)
        have HT2 : Hid (tells len NN f1 (l ++ List.replicate many v) (b2.drop 3) = RES) := Lib.hid (by
          rw [← HT.out, hf1]
          refine (tells_some (by have := HQ.out; omega) ?_).symm
          have h := step_go (v := v) (NN := NN) HNX.out (by omega) HLN.out (by have := HN2.out; rw [hsz8, ← HB2.out]; omega) (by have h1 := HQ.out; have h2 := HX.out; have h3 := HQ2.out; rw [hsz8, hls8, ← HB2.out]; omega) HV.out
          rw [h, hsz8, hls8, ← HB2.out, ← HX.out.1, ← HX.out.2])
        have hq2n : q2 ≤ NN := by omega
        have hq2f : NN ≤ q2 + f1 := by have := HX.out.2; omega
        have hqq2 : q < q2 := by have := HX.out.2; omega
        have HBW : Hid (wc.heap.size ≤ wx.heap.size) := Lib.hid HFX.out.size
        clear hq2 hsz8 hls8
        go_wp2_with (refine (HNUM.out _ HFX.out).mono ?_; rintro e w' ⟨rfl, rfl⟩)
        refine getC_loop _ _ _ _ _ _ _ _ _ _ _ _ _ _ _ _ _ _ _ _ _ _ _ _ _ _ _ _ _ _ _ _ _ _ _ _ _ _ _ _ _ _ _ _ _ _ _ _ _ _ _ _ _ _ _ _ _ _ _ _ _ _ _ _ _ _ _ _ _ _ _ _ _ _ _ _ _ _ _ _ _ _ _ _ _ _ _ _ _ _ _ _ _ _ _ _ _ _ _ _ _ _ _ _ _ _ _ _ _ _ _ _ _ _ _ _ _ _ _ _ _ _ _ _ _ _ _ _ _ _ _ _ _ _ _ _ _ _ _ _ _ _ _ _ _ _ _ _ _ _ _ _ _ _ _ _ _ Al q cl v many wc.heap.size q2 l wx HOX (by omega) (by omega) HBW HQ2.out _ (by first | exact HVI.out | rfl) ?_
        intro w9 Al2 cl2 y0 y1 y2 y3 y4 y5 y6 y7 y8 hO9 hf9
        have HO9 := Lib.hid hO9
        have HF9 : Hid (Fr (fun _ => False) wc w9) := Lib.hid (HFX.out.trans hf9 (fun b hb h => by omega))
        have HQ9 : Hid (q2 = (l ++ List.replicate many v).length) := Lib.hid (by rw [List.length_append, List.length_replicate, ← HQ.out]; exact HQ2.out)
        clear hO9 hf9
        go_wp2_with fail
        exact ⟨⟨f1, l ++ List.replicate many v, b2.drop 3, n3, q2, A3, c3, Al2, cl2, rfl, rfl, hc3n, hn3b, hq2n, hq2f, HRD3.out, HN3.out, HQ9.out, HO9.out, HT2.out, HF9.out⟩, by simp [slen]; omega⟩
      obtain rfl : s = 18 := by omega
      have HNEXT : Hid (∀ w', Fr (fun _ => False) wc w' → Calls Tryd.prog 44 #[.slice (some ⟨gl, 0, none⟩) 19 19, .slice A1 n1 c1] w' fun e w2 => e = .returned (.tuple #[.int .i64 18, .int .i64 (k : Int)]) ∧ Fr (fun _ => False) w' w2) := Lib.hid (fun w' hf => by
        have h := HNC.out w' hf
        rw [hsk] at h
        exact h)
      have HNX := Lib.hid hsk
      obtain ⟨A2, hA2⟩ : ∃ A2, A2 = cutAt A1 c1 k := ⟨_, rfl⟩
      obtain ⟨n2, hn2⟩ : ∃ n2, n2 = n1 - k := ⟨_, rfl⟩
      obtain ⟨c2, hc2⟩ : ∃ c2, c2 = c1 - k := ⟨_, rfl⟩
      obtain ⟨b2, hb2⟩ : ∃ b2, b2 = bs.drop k := ⟨_, rfl⟩
      have hfk : ∀ w' : World, (Instr.sliceAt 22 (.slice A1 n1 c1) (some (.int .i64 (k : Int))) none none).run Tryd.prog w' = .ok (.slice A2 n2 c2) w' := fun w' => by
        rw [hA2, hn2, hc2]
        exact run_fromB A1 n1 c1 k hk _ rfl w'
      have HRD2 : Hid (Rd wc A2 n2 (b2.map bitc)) := Lib.hid (by
        rw [hA2, hn2, hb2, List.map_drop]
        exact rd_from HRD.out hk hc1)
      have hc2n : n2 ≤ c2 := by omega
      have hn2b : n2 ≤ 1000000 := by omega
      have HB2 := Lib.hid hb2
      have HN2 : Hid (n2 = b2.length) := Lib.hid (by rw [hb2, List.length_drop, ← HN1.out]; exact hn2)
      clear hA2 hn2 hc2 hb2 hsk
      go_wp2_with fail
      refine (HNEXT.out _ HF.out).mono ?_
      rintro e wx ⟨rfl, hfx⟩
      have HFX := Lib.hid (HF.out.trans hfx (fun _ _ h => h))
      have HOX : Hid (wx.ownsRow wc.heap.size 3 1 (.slice Al q cl) q (l.map natc)) := Lib.hid (hfx.own HO.out (fun _ _ h => h))
      clear hfx
      obtain ⟨v, hv⟩ : ∃ v : Nat, v = 0 := ⟨_, rfl⟩
      have HV : Hid (v = if 18 = 16 then l.getLastD 0 else 0) := Lib.hid (by rw [if_neg (by omega)]; exact hv)
      have HVI : Hid ((0 : Int) = (v : Int)) := Lib.hid (by rw [hv]; rfl)
      have HLN : Hid (18 = 16 → l ≠ []) := Lib.hid (fun h => by omega)
      clear hv
      have hsz8 : sizeOf8 18 = 7 := rfl
      have hls8 : leastOf8 18 = 11 := rfl
      by_cases hsh : n2 < 7
      · have HRES : Hid (RES = none) := Lib.hid (by rw [← HT.out, hf1]; exact tells_none (by have := HQ.out; omega) (step_short HNX.out (by omega) (by have := HN2.out; rw [hsz8, ← HB2.out]; omega)))
        have tsh : decide ((n2 : Int) < 7) = true := decide_eq_true (by omega)
        clear hsh
        go_wp2_with fail
        exact HRET.out _ _ _ _ _ _ _ _ _ _ _ _ _ _ _ _ _ _ _ _ _ _ _ _ _ _ _ _ _ _ _ _ _ _ _ _ _ _ _ _ _ _ _ _ _ _ _ _ _ _ _ _ _ _ _ _ _ _ _ _ _ _ _ _ _ _ _ _ _ _ _ _ _ _ _ _ _ _ _ HRES.out HFX.out
      obtain ⟨x, hx⟩ : ∃ x, x = num (b2.take 7) := ⟨_, rfl⟩
      have hx127 : x ≤ 127 := by rw [hx]; have := num3_lt b2 0 7 (by omega); rwa [List.drop_zero] at this
      have hto : ∀ w' : World, (Instr.sliceAt 22 (.slice A2 n2 c2) none (some (.int .i64 7)) none).run Tryd.prog w' = .ok (.slice A2 7 c2) w' := fun w' => run_toB A2 n2 c2 7 (by omega) hc2n _ rfl w'
      have hnum : ∀ w', Fr (fun _ => False) wc w' → Calls Tryd.prog 41 #[.slice A2 7 c2] w' fun e w2 => e = .returned (.int .u64 (x : Int)) ∧ w' = w2 := by
        intro w' hf
        have h := rd_to (HRD2.out.fr hf (fun _ _ h => h)) (y := 7) (by omega)
        rw [← List.map_take] at h
        have h2 := num_any A2 7 c2 _ w' h (by omega)
        rwa [← hx] at h2
      have hcv := conv_int8 x (by omega)
      obtain ⟨many, hmany⟩ : ∃ many, many = 11 + x := ⟨_, rfl⟩
      have em : (11 : Int) + (x : Int) = (many : Int) := by omega
      have em2 : IntKind.i64.wrap ((11 : Int) + (x : Int)) = (many : Int) := by rw [IntKind.wrap_i64]; omega
      obtain ⟨A3, hA3⟩ : ∃ A3, A3 = cutAt A2 c2 7 := ⟨_, rfl⟩
      obtain ⟨n3, hn3⟩ : ∃ n3, n3 = n2 - 7 := ⟨_, rfl⟩
      obtain ⟨c3, hc3⟩ : ∃ c3, c3 = c2 - 7 := ⟨_, rfl⟩
      have hfrom : ∀ w' : World, (Instr.sliceAt 22 (.slice A2 n2 c2) (some (.int .i64 7)) none none).run Tryd.prog w' = .ok (.slice A3 n3 c3) w' := fun w' => by
        rw [hA3, hn3, hc3]
        exact run_fromB A2 n2 c2 7 (by omega) _ rfl w'
      have HRD3 : Hid (Rd wc A3 n3 ((b2.drop 7).map bitc)) := Lib.hid (by
        rw [hA3, hn3, List.map_drop]
        exact rd_from HRD2.out (by omega) hc2n)
      have hc3n : n3 ≤ c3 := by omega
      have hn3b : n3 ≤ 1000000 := by omega
      have hm200 : many ≤ 200 := by omega
      have HX := Lib.hid (And.intro hx hmany)
      have HNUM := Lib.hid hnum
      have HN3 : Hid (n3 = (b2.drop 7).length) := Lib.hid (by rw [List.length_drop, ← HN2.out]; exact hn3)
      have tsh : decide ((n2 : Int) < 7) = false := decide_eq_false (by omega)
      clear hx hnum hmany hA3 hc3 hn3
      obtain ⟨q2, hq2⟩ : ∃ q2, q2 = q + many := ⟨_, rfl⟩
      have eq2 : (q : Int) + (many : Int) = (q2 : Int) := by omega
      have eq3 : IntKind.i64.wrap ((q : Int) + (many : Int)) = (q2 : Int) := by rw [IntKind.wrap_i64]; omega
      have hnn : (N1 : Int) + (N2 : Int) = (NN : Int) := by have := HNN.out; omega
      have hnn2 : IntKind.i64.wrap ((N1 : Int) + (N2 : Int)) = (NN : Int) := by rw [IntKind.wrap_i64]; have := HNN.out; omega
      have HQ2 := Lib.hid hq2
      by_cases hov : NN < q2
      · have HRES : Hid (RES = none) := Lib.hid (by rw [← HT.out, hf1]; exact tells_none (by have := HQ.out; omega) (step_over HNX.out (by omega) (by have h1 := HQ.out; have h2 := HX.out; have h3 := HQ2.out; rw [hsz8, hls8, ← HB2.out]; omega)))
        have tov : decide ((q2 : Int) > (NN : Int)) = true := decide_eq_true (by omega)
        have tov2 : decide ((NN : Int) < (q2 : Int)) = true := decide_eq_true (by omega)
        clear hq2 hsz8 hls8
        go_wp2_with (refine (HNUM.out _ HFX.out).mono ?_; rintro e w' ⟨rfl, rfl⟩)
        exact HRET.out _ _ _ _ _ _ _ _ _ _ _ _ _ _ _ _ _ _ _ _ _ _ _ _ _ _ _ _ _ _ _ _ _ _ _ _ _ _ _ _ _ _ _ _ _ _ _ _ _ _ _ _ _ _ _ _ _ _ _ _ _ _ _ _ _ _ _ _ _ _ _ _ _ _ _ _ _ _ _ HRES.out HFX.out
      have tov : decide ((q2 : Int) > (NN : Int)) = false := decide_eq_false (by omega)
      have tov2 : decide ((NN : Int) < (q2 : Int)) = false := decide_eq_false (by omega)
      have HT2 : Hid (tells len NN f1 (l ++ List.replicate many v) (b2.drop 7) = RES) := Lib.hid (by
        rw [← HT.out, hf1]
        refine (tells_some (by have := HQ.out; omega) ?_).symm
        have h := step_go (v := v) (NN := NN) HNX.out (by omega) HLN.out (by have := HN2.out; rw [hsz8, ← HB2.out]; omega) (by have h1 := HQ.out; have h2 := HX.out; have h3 := HQ2.out; rw [hsz8, hls8, ← HB2.out]; omega) HV.out
        rw [h, hsz8, hls8, ← HB2.out, ← HX.out.1, ← HX.out.2])
      have hq2n : q2 ≤ NN := by omega
      have hq2f : NN ≤ q2 + f1 := by have := HX.out.2; omega
      have hqq2 : q < q2 := by have := HX.out.2; omega
      have HBW : Hid (wc.heap.size ≤ wx.heap.size) := Lib.hid HFX.out.size
      clear hq2 hsz8 hls8
      go_wp2_with (refine (HNUM.out _ HFX.out).mono ?_; rintro e w' ⟨rfl, rfl⟩)
      refine getC_loop _ _ _ _ _ _ _ _ _ _ _ _ _ _ _ _ _ _ _ _ _ _ _ _ _ _ _ _ _ _ _ _ _ _ _ _ _ _ _ _ _ _ _ _ _ _ _ _ _ _ _ _ _ _ _ _ _ _ _ _ _ _ _ _ _ _ _ _ _ _ _ _ _ _ _ _ _ _ _ _ _ _ _ _ _ _ _ _ _ _ _ _ _ _ _ _ _ _ _ _ _ _ _ _ _ _ _ _ _ _ _ _ _ _ _ _ _ _ _ _ _ _ _ _ _ _ _ _ _ _ _ _ _ _ _ _ _ _ _ _ _ _ _ _ _ _ _ _ _ _ _ _ _ _ _ _ _ Al q cl v many wc.heap.size q2 l wx HOX (by omega) (by omega) HBW HQ2.out _ (by first | exact HVI.out | rfl) ?_
      intro w9 Al2 cl2 y0 y1 y2 y3 y4 y5 y6 y7 y8 hO9 hf9
      have HO9 := Lib.hid hO9
      have HF9 : Hid (Fr (fun _ => False) wc w9) := Lib.hid (HFX.out.trans hf9 (fun b hb h => by omega))
      have HQ9 : Hid (q2 = (l ++ List.replicate many v).length) := Lib.hid (by rw [List.length_append, List.length_replicate, ← HQ.out]; exact HQ2.out)
      clear hO9 hf9
      go_wp2_with fail
      exact ⟨⟨f1, l ++ List.replicate many v, b2.drop 7, n3, q2, A3, c3, Al2, cl2, rfl, rfl, hc3n, hn3b, hq2n, hq2f, HRD3.out, HN3.out, HQ9.out, HO9.out, HT2.out, HF9.out⟩, by simp [slen]; omega⟩
    · obtain rfl : q = NN := by omega
      have HRES : Hid (RES = some (l, bs)) := Lib.hid (by rw [← HT.out]; exact tells_end (by have := HQ.out; omega))
      have tq : decide ((q : Int) < (q : Int)) = false := decide_eq_false (by omega)
      go_wp2_with fail
      exact HEX.out _ _ _ _ _ _ _ _ _ _ _ _ _ _ _ _ _ _ _ _ _ _ _ _ _ _ _ _ _ _ _ _ _ _ _ _ _ _ _ _ _ _ _ _ _ _ _ _ _ _ _ _ _ _ _ _ _ _ _ _ _ _ _ _ _ _ _ _ _ _ _ _ _ _ _ _ _ _ _ _ _ _ _ _ _ _ _ _ HRES.out HQ.out HN1.out hc1 (HRD.out.fr HF.out (fun _ _ h => h)) HO.out HF.out
end Go.Proofs.YtjghcacepneipaaDoor
