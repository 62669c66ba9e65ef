/-
  Layer 15's laws: awake, right.
-/
import Derived.Test.YtcoohjjjiakdjaaRaE
import Derived.Test.YtcoohjjjiakdjaaVaY
namespace Go.Proofs.Ytcoohjjjiakdjaa
open Go.RowKit Mem Go.Lib RleM LebM VaM
attribute [local go_sem ↓] Go.wp_at_zero Go.wp_at_succ
set_option linter.unusedVariables false

def exV : List V := [⟨3, 7, 0, []⟩, zeroV]
theorem exV_right : ∀ v ∈ exV, v.ok ∧ rightV v = true := by
  intro v hv
  rcases List.mem_cons.1 hv with rfl | hv
  · exact ⟨⟨⟨by decide, by decide⟩, by decide, by decide, by decide⟩, rfl⟩
  · rw [List.mem_singleton.1 hv]
    exact ⟨⟨⟨by decide, by decide⟩, by decide, by decide, by decide⟩, rfl⟩
theorem exV_put : putM exV = [127, 19, 0, 1] ∧ putB exV = [7] := by
  have h7 : putV ⟨3, 7, 0, []⟩ = [7] := by
    show u 7 = _
    rw [u_small (by omega)]
    rfl
  have h0 : putV zeroV = [] := rfl
  refine ⟨?_, by unfold putB exV; rw [List.flatMap_cons, List.flatMap_cons, h7, h0]; rfl⟩
  unfold putM exV
  rw [List.map_cons, List.map_cons, List.map_nil, show metaC ⟨3, 7, 0, []⟩ = (true, 19) from by unfold metaC; rw [h7]; rfl, show metaC zeroV = (false, 0) from rfl]
  have hg : gatherG [((true, 19) : Bool × Int), (false, 0)] = [((true, 19), 1), ((false, 0), 1)] := by decide
  rw [hg]
  show tellG kU [((true, 19), 1), (kU.zero, 1)] = _
  rw [tell_other (by decide) (by decide)]
  have ho : othersG kU.zero [(((true, 19) : Bool × Int), 1), (kU.zero, 1)] = 1 := by decide
  rw [ho]
  show s (-1) ++ (u 19 ++ [] ++ tellG kU [(kU.zero, 1)]) = _
  rw [tell_none, tell_nil, s_small (by omega), u_small (by omega), s_small (by omega), u_small (by omega)]
  rfl
set_option maxRecDepth 100000 in
set_option maxHeartbeats 1600000 in
theorem awake15_any (K : RawC) (w : World) : Calls Try.prog 7 #[] w fun e w' => e = .returned (.bool true) ∧ Fr (fun _ => False) w w' := by
  obtain ⟨w1, hw1⟩ : ∃ w1, w.alloc (.cells #[.int .i64 3, .int .u64 7, .int .i64 0, .string ⟨#[]⟩, .int .i64 0, .int .u64 0, .int .i64 0, .string ⟨#[]⟩] 46) = w1 := ⟨_, rfl⟩
  obtain ⟨q, hq⟩ : ∃ q, w.heap.size = q := ⟨_, rfl⟩
  have hf1 : Fr (fun _ => False) w w1 := by rw [← hw1]; exact (Fr.refl _ _).alloc _
  have hqb : Row w1 q 46 (exV.flatMap vls) := by rw [← hw1, ← hq]; exact Row.new w _ _
  have hp := K.put (some ⟨q, 0, none⟩) 2 2 exV w1 (Vls.row hqb) (by omega) exV_right
  rw [exV_put.1, exV_put.2] at hp
  unfold Both at hp
  have HP := Lib.hid hp
  have HF1 := Lib.hid hf1
  clear hp hf1 hqb
  go_enter Try.func7, Try.ntmps7
  go_wp2_with fail
  refine HP.out.mono ?_
  intro e w2 h2
  obtain ⟨A1, c1, A2, c2, rfl, ho1, ho2, hf2⟩ := h2
  have hst : (convert 25 9 (.slice A1 4 c1)).run Try.prog w2 = .ok (.string ⟨#[127, 19, 0, 1]⟩) w2 := ho1.str
  have hst2 : (convert 25 9 (.slice A2 1 c2)).run Try.prog w2 = .ok (.string ⟨#[7]⟩) w2 := ho2.str
  have HF2 := Lib.hid (HF1.out.trans hf2 (fun _ _ h => h))
  clear ho1 ho2 hf2 HP hw1 hq
  go_wp2_with fail
  go_ret
  exact ⟨rfl, HF2.out⟩

/-- what the law looks at -/
def okL (v : V) : Bool := decide (v.s.length ≤ 100) && rightV v
def rightL (L : List V) : List V := (L.take 500).filter okL
theorem rightL_ok {L : List V} (h : ∀ v ∈ L, v.ok) : ∀ v ∈ rightL L, v.ok ∧ rightV v = true := by
  intro v hv
  obtain ⟨h1, h2⟩ := List.mem_filter.1 hv
  unfold okL at h2
  rw [Bool.and_eq_true] at h2
  exact ⟨h v (List.mem_of_mem_take h1), h2.2⟩
theorem rightL_len (L : List V) : (rightL L).length ≤ 500 := by
  have h := List.length_filter_le okL (L.take 500)
  rw [List.length_take] at h
  unfold rightL
  omega
set_option maxRecDepth 100000 in
set_option maxHeartbeats 6400000 in
theorem lright_any (A : Option Addr) (n c : Nat) (L : List V) (w : World) (hL : Vls w A n L) (hn : n ≤ maxLen) (hok : ∀ v ∈ L, v.ok) (hml : ∀ v ∈ L, v.s.length ≤ maxLen) :
    Calls Try.prog 8 #[.slice A n c] w fun e w' => ∃ A' c', e = .returned (.slice A' (rightL L).length c') ∧ OwnV w' w.heap.size A' c' (rightL L) ∧ Fr (fun _ => False) w w' := by
  have hn' : n ≤ 9223372036854775807 := hn
  have HL := Lib.hid hL
  have HLN := Lib.hid hL.1
  have HOK := Lib.hid hok
  have HML := Lib.hid hml
  obtain ⟨base, hbase⟩ : ∃ base, base = w.heap.size := ⟨_, rfl⟩
  have HB := Lib.hid hbase
  obtain ⟨R, hR⟩ : ∃ R, R = rightL L := ⟨_, rfl⟩
  rw [← hbase, ← hR]
  have HR := Lib.hid hR
  clear hL hok hbase hml hn hR
  go_enter Try.func8, Try.ntmps8
  go_wp2_with fail
  go_loopw [3, 4] (fun s i wr => ∃ (k : Nat) (G : List V) (A1 : Option Addr) (c1 : Nat), k ≤ n ∧ k ≤ 500 ∧ i = .int .i64 (k : Int) ∧ s = .slice A1 G.length c1 ∧ Hid (G = (L.take k).filter okL) ∧ Hid (OwnV wr base A1 c1 G) ∧ Hid (Fr (fun _ => False) w wr)) (fun _ i _ => n - (intOf i).toNat)
  case atStart => exact ⟨0, [], none, 0, Nat.zero_le _, Nat.zero_le _, rfl, rfl, (by simp : ([] : List V) = (L.take 0).filter okL), OwnV.nil _ _, Fr.refl _ _⟩
  case round =>
    obtain ⟨k, G, A1, c1, hk, hk5, rfl, rfl, HG, HO, HF⟩ := hrel
    rename World => wr
    by_cases hlt : k < n ∧ k < 500
    · obtain ⟨hlt, hl5⟩ := hlt
      obtain ⟨v, hv⟩ : ∃ v, L[k]? = some v := ⟨_, List.getElem?_eq_getElem (by have := HLN.out; omega)⟩
      obtain ⟨gx, ox, rfl, hgx, h0, h1, h2, h3⟩ := (HL.out.fr HF.out (fun _ _ => id)).2 k v hv
      have hvo := HOK.out v (List.mem_of_getElem? hv)
      have hvl : v.s.length ≤ 9223372036854775807 := HML.out v (List.mem_of_getElem? hv)
      have hnext : (L.take (k + 1)).filter okL = G ++ (if okL v = true then [v] else []) := by
        rw [List.take_add_one, hv, List.filter_append, ← HG.out]
        simp [List.filter_cons]
      have hgl : G.length ≤ 500 := by
        have h := List.length_filter_le okL (L.take k)
        rw [← HG.out, List.length_take] at h
        omega
      have t1 : decide ((k : Int) < (n : Int)) = true := by simp; omega
      have t1' : decide (k < n) = true := by simp; omega
      have t2 : decide ((k : Int) < 500) = true := by simp; omega
      have t2' : decide (k < 500) = true := by simp; omega
      obtain ⟨l, hl⟩ : ∃ l, l = v.s.length := ⟨_, rfl⟩
      have hsz : (txt v.s).size = l := by rw [txt_sz, hl]
      by_cases hl1 : l ≤ 100
      · have hrt := fun w' => rvRight_any v w' hvo (by omega)
        obtain ⟨b, hb⟩ : ∃ b, rightV v = b := ⟨_, rfl⟩
        have hokl : okL v = b := by unfold okL; rw [hb, show decide (v.s.length ≤ 100) = true from by simp; omega, Bool.true_and]
        simp only [hb, valc] at hrt
        rw [hokl] at hnext
        have HRT := Lib.hid hrt
        have HNX := Lib.hid hnext
        have t3 : decide ((l : Int) ≤ 100) = true := by simp; omega
        have t3' : decide (l ≤ 100) = true := by simp; omega
        obtain ⟨N1, hN1⟩ : ∃ N1, N1 = G.length + 1 := ⟨_, rfl⟩
        have hN1l : N1 ≤ 501 := by omega
        obtain ⟨XS, hXS⟩ : ∃ XS, XS = G.flatMap vls := ⟨_, rfl⟩
        have hOx : wr.ownsRow base 46 4 (.slice A1 G.length c1) G.length XS := by rw [hXS]; exact HO.out
        have HN1 := Lib.hid hN1
        have HXS := Lib.hid hXS
        have HOX := Lib.hid hOx
        have HBW : Hid (base ≤ wr.heap.size) := Lib.hid (by have h1 := HB.out; have h2 := HF.out.size; omega)
        clear hv hvo hvl hnext hgl hl hrt hb hokl hN1 hXS hOx
        go_wp2_with fail
        refine (HRT.out _).mono ?_
        rintro e w2 ⟨rfl, hf2⟩
        have HF2 := Lib.hid hf2
        replace h0 := hf2.cell h0 (fun h => h)
        replace h1 := hf2.cell h1 (fun h => h)
        replace h2 := hf2.cell h2 (fun h => h)
        replace h3 := hf2.cell h3 (fun h => h)
        have HOX2 := Lib.hid (hf2.own HOX.out (fun _ _ h => h))
        clear hf2
        cases b with
        | true =>
          rw [if_pos rfl] at HNX
          go_upto_region 4 with (at_builtin; refine wpList_appS2 valTC _ rfl _ _ rfl base _ _ _ rfl (HOX2.out.alloc _) _ _ (vls v) rfl rfl (new_at (by simp) (vls v) _) (by intro u hu; simp [vls] at hu; rcases hu with rfl | rfl | rfl | rfl <;> rfl) N1 HN1.out (by unfold maxLen; omega) (by omega) (by have h1 := HBW.out; have h2 := HF2.out.size; simp; omega) ?_)
          intro A6 c6 w6 hown6 _ hfr6 _
          rw [HXS.out] at hown6
          have hO6 : OwnV w6 base A6 c6 (G ++ [v]) := OwnV.snoc HN1.out hown6
          have HF6 : Hid (Fr (fun _ => False) w w6) := Lib.hid (((HF.out.trans HF2.out (fun _ _ h => h)).alloc _).trans hfr6 (fun b hb h => by have h1 := (HOX2.out.lt _ h).1; have h2 := HB.out; omega))
          have HO6 := Lib.hid hO6
          have hng : N1 = (G ++ [v]).length := by rw [HN1.out]; simp
          have HNG := Lib.hid hng
          clear hown6 hfr6 hO6 h0 h1 h2 h3 hng
          go_wp2_with fail
          exact ⟨⟨k + 1, _, A6, c6, by omega, by omega, by go_num, by rw [HNG.out], HNX.out.symm, HO6.out, HF6.out⟩, by simp [intOf]; omega⟩
        | false =>
          rw [if_neg (by simp), List.append_nil] at HNX
          have HO6 : Hid (OwnV w2 base A1 c1 G) := Lib.hid (HO.out.fr HF2.out)
          clear h0 h1 h2 h3
          go_wp2_with fail
          exact ⟨⟨k + 1, G, A1, c1, by omega, by omega, by go_num, rfl, HNX.out.symm, HO6.out, HF.out.trans HF2.out (fun _ _ h => h)⟩, by simp [intOf]; omega⟩
      · have hokl : okL v = false := by unfold okL; rw [show decide (v.s.length ≤ 100) = false from by simp; omega, Bool.false_and]
        rw [hokl, if_neg (by simp), List.append_nil] at hnext
        have HNX := Lib.hid hnext
        have t3 : decide ((l : Int) ≤ 100) = false := by simp; omega
        have t3' : decide (l ≤ 100) = false := by simp; omega
        clear hv hvo hvl hnext hgl hl hokl
        go_wp2_with fail
        exact ⟨⟨k + 1, G, A1, c1, by omega, by omega, by go_num, rfl, HNX.out.symm, HO.out, HF.out⟩, by simp [intOf]; omega⟩
    · have hG : G = R := by
        rw [HG.out, HR.out]
        unfold rightL
        by_cases h5 : k = 500
        · rw [h5]
        · have : k = n := by omega
          rw [List.take_of_length_le (by have := HLN.out; omega), List.take_of_length_le (by have := HLN.out; omega)]
      have HE := Lib.hid hG
      by_cases hkn : k < n
      · have t1 : decide ((k : Int) < (n : Int)) = true := by simp; omega
        have t1' : decide (k < n) = true := by simp; omega
        have t2 : decide ((k : Int) < 500) = false := by simp; omega
        have t2' : decide (k < 500) = false := by simp; omega
        clear hG hlt
        go_wp2_with fail
        go_ret
        exact ⟨A1, c1, by rw [HE.out]; rfl, by rw [← HE.out]; exact HO.out, HF.out⟩
      · have t1 : decide ((k : Int) < (n : Int)) = false := by simp; omega
        have t1' : decide (k < n) = false := by simp; omega
        clear hG hlt
        go_wp2_with fail
        go_ret
        exact ⟨A1, c1, by rw [HE.out]; rfl, by rw [← HE.out]; exact HO.out, HF.out⟩
end Go.Proofs.Ytcoohjjjiakdjaa
