import Derived.Test.YtbbmakpfconnnaaDoorAsmGh
import Derived.Test.YtbbmakpfconnnaaDoorAsmGe
import Derived.Test.YtbbmakpfconnnaaDoorAsmGg
import Derived.Test.YtbbmakpfconnnaaDoorIsaLaid
namespace Go.Proofs.YtbbmakpfconnnaaDoor
set_option linter.unusedVariables false
set_option linter.unusedSimpArgs false
open Go.ChangeShapes Go.WideShapes Go.ChangeAt Go.RowKit Go.Proofs.YtbbmakpfconnnaaDoor.Num Go.Proofs.YtbbmakpfconnnaaDoor.Isa Go.Proofs.YtbbmakpfconnnaaDoor.Mem Go.Proofs.YtbbmakpfconnnaaDoor.Asm
theorem outC_len (k : Nat) (o : Bool) (c : UInt8) (hk : k ≤ 3) : (outC k o c).length ≤ 17 := by
  unfold outC
  split
  · simp; omega
  · split
    · split <;> simp [semiL]
    · simp
theorem sprL_len (k : Nat → Nat) (o : Nat → Bool) (hk : ∀ i, k i ≤ 3) : ∀ (l : Bs) (i : Nat), (sprL k o i l).length ≤ 17 * l.length
  | [], i => by simp [sprL]
  | c :: l, i => by
    have h1 := outC_len (k i) (o i) c (hk i)
    have h2 := sprL_len k o hk l (i + 1)
    simp only [sprL, List.length_append, List.length_cons]
    omega
theorem spaces_long (a b : Option Addr) (n cap m cap2 : Nat) (w : World) (h : 50 < n) :
    Calls Tryd.prog 6 #[.slice a n cap, .slice b m cap2] w fun e w' => e = .returned (.bool true) ∧ Below w.heap.size w w' := by
  have HAW := Lib.hid awake3
  have hI : (50 : Int) < n := by omega
  go_enter Tryd.func6, Tryd.ntmps6
  go_wp2_with (go_at_call 7; (with_reducible refine (HAW.out _).mono ?_); rintro e w1 ⟨rfl, hb1⟩)
  go_ret
  exact ⟨rfl, hb1⟩
def kf (zs : List Int) (i : Nat) : Nat := (atZ zs i % 4).toNat
def ofb (zs : List Int) (i : Nat) : Bool := decide (bits .and .i64 (atZ zs i) 1 = 1)
theorem kf_le (zs : List Int) (i : Nat) : kf zs i ≤ 3 := by unfold kf; omega
theorem atZ_bd {zs : List Int} (h : ∀ z ∈ zs, (Lit.int .i64 z).wf = true) (i : Nat) : -9223372036854775808 ≤ atZ zs i ∧ atZ zs i ≤ 9223372036854775807 := by
  unfold atZ
  split
  · omega
  · rename_i h0
    have hq : i % zs.length < zs.length := Nat.mod_lt _ (by omega)
    have e : zs.getD (i % zs.length) 0 = zs[i % zs.length] := by simp [List.getD, hq]
    have := wf_i64 (h _ (List.getElem_mem hq))
    rw [e]; omega
theorem ext_one (s : ByteArray) (k : Nat) (h : k < s.size) : s.extract k (k + 1) = S [s[k]] := by
  rw [extract_piece, piece_one _ _ _ (Nat.le_refl _) (by simpa using h), piece_self]
  simp [ByteArray.getElem_eq_getElem_data]
theorem sl_one (s : ByteArray) (k : Nat) (h : k < s.size) (j : Int) (hj : j = (k : Int) + 1) (wx : World) :
    (Instr.slice 9 (.string s) (some (.int .i64 (k : Int))) (some (.int .i64 j)) none).run Tryd.prog wx = .ok (.string (S [s[k]])) wx := by
  have e : j = ((k + 1 : Nat) : Int) := by omega
  rw [e]
  have := slice_mid s k (k + 1) (by omega) (by omega) wx
  rw [this, piece_one _ _ _ (Nat.le_refl _) (by simpa using h), piece_self]
  simp [ByteArray.getElem_eq_getElem_data]
theorem sl_three (q : Nat) (h : q ≤ 3) (wx : World) :
    (Instr.slice 9 (.string { data := #[32, 32, 32] }) none (some (.int .i64 (q : Int))) none).run Tryd.prog wx = .ok (.string (S (List.replicate q 32))) wx := by
  have := slice_to { data := #[32, 32, 32] } q (by show q ≤ 3; exact h) wx
  rw [this]
  have : ∀ k : Fin 4, ([32, 32, 32] : Bs).take k.val = List.replicate k.val 32 := by decide
  have h2 := this ⟨q, by omega⟩
  simp only at h2
  rw [← h2]
theorem S_app (a b : Bs) : S a ++ S b = S (a ++ b) := by
  apply ba_ext; simp [ByteArray.data_append, S]
theorem out_sep {zs : List Int} {k y : Nat} {c : UInt8} (hc : c = 32 ∨ c = 44) (hy : atZ zs k % 4 = y) : outC (kf zs k) (ofb zs k) c = c :: List.replicate y 32 := by
  have : kf zs k = y := by unfold kf; omega
  unfold outC
  rw [if_pos hc, this]
theorem out_nl {zs : List Int} {k : Nat} {b : Bool} {c : UInt8} (hc : c = 10) (hb : ofb zs k = b) : outC (kf zs k) (ofb zs k) c = semiL ++ 10 :: (if b = true then [10, 32, 32, 32, 10, 59, 10] else []) := by
  subst hc
  unfold outC
  rw [if_neg (by decide), if_pos rfl, hb]
theorem out_any {zs : List Int} {k : Nat} {c : UInt8} (h1 : ¬ c = 32) (h2 : ¬ c = 44) (h3 : ¬ c = 10) : outC (kf zs k) (ofb zs k) c = [c] := by
  unfold outC
  rw [if_neg (by rintro (h | h) <;> contradiction), if_neg h3]
theorem byte_of {c d : UInt8} (h : (c.toNat : Int) = (d.toNat : Int)) : c = d := UInt8.toNat_inj.1 (by omega)
theorem Row.drewN {k : IntKind} {w : World} {a : Option Addr} {zs : List Int} (h : Row k w a zs) (m : Nat) : Row k (w.drewN m) a zs := h
set_option maxHeartbeats 8000000 in
set_option maxRecDepth 100000 in
theorem spaces_ok (a b : Option Addr) (n cap cap2 : Nat) (ws zs : List Int) (w : World) (hn : ws.length = n) (h50 : n ≤ 50) (hR : Row .u32 w a ws) (hu : U32s ws) (hT : Tab2 w) (hz : zs.length ≤ 9223372036854775807) (hQ : Row .i64 w b zs) (hzw : ∀ z ∈ zs, (Lit.int .i64 z).wf = true) :
    Calls Tryd.prog 6 #[.slice a n cap, .slice b zs.length cap2] w fun e w' => e = .returned (.bool true) ∧ Below w.heap.size w w' := by
  have HD := Lib.hid (fun W => dis_asm a n cap ws W hn (by omega))
  have hdl := dis_len ws hu
  obtain ⟨s, hs⟩ : ∃ s, S (disL ws) = s := ⟨_, rfl⟩
  have hsl : s.data.toList = disL ws := by rw [← hs, S_list]
  have hss : s.size ≤ 2450 := by rw [← hs, S_size]; omega
  rw [hs] at HD
  have HD2 := Lib.hid (HD.out w hR hu hT)
  have HSL := Lib.hid hsl
  have HAW := Lib.hid awake3
  have HAT := Lib.hid (fun (i : Nat) W (hi : i ≤ 1000000) (h : Row .i64 W b zs) => at_any b cap2 zs i W hz hi h)
  have HRO := Lib.hid (fun (i : Nat) W => round_any (atZ zs i) 4 W (by decide) (by decide) (atZ_bd hzw i).1 (atZ_bd hzw i).2)
  have HQ := Lib.hid hQ
  have HR := Lib.hid hR
  have HU := Lib.hid hu
  have HN := Lib.hid hn
  have HZ := Lib.hid hz
  clear hR hu hT hQ hzw hdl hsl hn hs hz
  generalize hzn : zs.length = zn at *
  go_enter Tryd.func6, Tryd.ntmps6
  go_wp2_with (go_at_call 12; (with_reducible refine (HD2.out).mono ?_); rintro e w1 ⟨rfl, hb1⟩)
  have HB1 := Lib.hid hb1
  have HQ1 := Lib.hid (HQ.out.on hb1)
  clear hb1
  go_loopw [6, 7] (fun t i wr => ∃ k q : Nat, k ≤ s.size ∧ i = .int .i64 k ∧ t = .string (S (sprL (kf zs) (ofb zs) 0 (s.data.toList.take k))) ∧ wr = w1.drewN q) (fun _ i _ => s.size - (intOf i).toNat)
  case atStart => exact ⟨0, 0, Nat.zero_le _, rfl, rfl, rfl⟩
  case round =>
    obtain ⟨k, q, hk, rfl, rfl, rfl⟩ := hrel
    by_cases hlt : k < s.size
    · have hsn := sprL_snoc (kf zs) (ofb zs) s.data.toList k (by simpa using hlt)
      have hTL := sprL_len (kf zs) (ofb zs) (kf_le zs) (s.data.toList.take k) 0
      have hTs : (S (sprL (kf zs) (ofb zs) 0 (s.data.toList.take k))).size ≤ 41650 := by
        rw [S_size]; rw [List.length_take] at hTL; omega
      have hex := ext_one s k hlt
      have he1 : (S [s[k]]).size = 1 := rfl
      have hcs : s.data.toList[k] = s[k] := by simp [ByteArray.getElem_eq_getElem_data]
      rw [hcs] at hsn
      have HSN := Lib.hid hsn
      clear hsn hTL hcs
      generalize sprL (kf zs) (ofb zs) 0 (s.data.toList.take k) = T at *
      by_cases h32 : (s[k].toNat : Int) = 32
      · have HC := Lib.hid (Or.inl (byte_of (d := 32) h32) : s[k] = 32 ∨ s[k] = 44)
        have hw1 : IntKind.i64.wrap ((k : Int) + 1) = (k : Int) + 1 := by rw [IntKind.wrap_i64]; omega
        have hsl := sl_one s k hlt ((k : Int) + 1) rfl
        obtain ⟨y, hy⟩ : ∃ y : Nat, atZ zs k % 4 = y := ⟨(atZ zs k % 4).toNat, by omega⟩
        have hy3 : y ≤ 3 := by omega
        have hs3 := sl_three y hy3
        have HRK := Lib.hid (HRO.out k)
        rw [hy] at HRK
        have z1 : (S T ++ S [s[k]]).size ≤ 41651 := by rw [ByteArray.size_append, he1]; omega
        have z2 : (S (List.replicate y (32 : UInt8))).size ≤ 3 := by rw [S_size, List.length_replicate]; omega
        go_wp2
        go_quiet (first
          | (go_at_call 14; exact quiet_add (HAT.out k _ (by omega) (HQ1.out.drewN _)))
          | (go_at_call 10; exact quiet_add (HRK.out _)))
        go_wp2
        go_roundw
        case rel => exact ⟨k + 1, _, by omega, by go_num, by rw [HSN.out, S_app, S_app, out_sep HC.out hy]; simp, rfl⟩
        case measure => simp [intOf]; omega
      · by_cases h44 : (s[k].toNat : Int) = 44
        · have HC := Lib.hid (Or.inr (byte_of (d := 44) h44) : s[k] = 32 ∨ s[k] = 44)
          have hw1 : IntKind.i64.wrap ((k : Int) + 1) = (k : Int) + 1 := by rw [IntKind.wrap_i64]; omega
          have hsl := sl_one s k hlt ((k : Int) + 1) rfl
          obtain ⟨y, hy⟩ : ∃ y : Nat, atZ zs k % 4 = y := ⟨(atZ zs k % 4).toNat, by omega⟩
          have hy3 : y ≤ 3 := by omega
          have hs3 := sl_three y hy3
          have HRK := Lib.hid (HRO.out k)
          rw [hy] at HRK
          have z1 : (S T ++ S [s[k]]).size ≤ 41651 := by rw [ByteArray.size_append, he1]; omega
          have z2 : (S (List.replicate y (32 : UInt8))).size ≤ 3 := by rw [S_size, List.length_replicate]; omega
          go_wp2
          go_quiet (first
            | (go_at_call 14; exact quiet_add (HAT.out k _ (by omega) (HQ1.out.drewN _)))
            | (go_at_call 10; exact quiet_add (HRK.out _)))
          go_wp2
          go_roundw
          case rel => exact ⟨k + 1, _, by omega, by go_num, by rw [HSN.out, S_app, S_app, out_sep HC.out hy]; simp, rfl⟩
          case measure => simp [intOf]; omega
        · by_cases h10 : (s[k].toNat : Int) = 10
          · have HC := Lib.hid (byte_of (d := 10) h10 : s[k] = 10)
            obtain ⟨bv, hbv⟩ : ∃ bv, bits .and .i64 (atZ zs k) 1 = bv := ⟨_, rfl⟩
            have hlit : S T ++ { data := #[32, 59, 32, 120, 32, 121, 44, 32, 122, 10] } = S (T ++ (semiL ++ [10])) := by apply ba_ext; simp [ByteArray.data_append, S, semiL]
            have hlit2 : S (T ++ (semiL ++ [10])) ++ { data := #[10, 32, 32, 32, 10, 59, 10] } = S (T ++ (semiL ++ [10]) ++ [10, 32, 32, 32, 10, 59, 10]) := by apply ba_ext; simp [ByteArray.data_append, S]
            have z1 : (S (T ++ (semiL ++ [10]))).size ≤ 41660 := by rw [← hlit, ByteArray.size_append]; show _ + 10 ≤ _; omega
            have HAK := Lib.hid (fun W => HAT.out k W (by omega))
            generalize hq4 : T ++ (semiL ++ [10]) = T4 at *
            by_cases hb1 : bv = 1
            · have HO := Lib.hid (out_nl HC.out (show ofb zs k = true by unfold ofb; rw [hbv, hb1]; rfl))
              go_wp2_with (go_at_call 14; (with_reducible refine (HAK.out _ (HQ1.out.drewN _)).mono ?_); rintro e w5 ⟨rfl, m5, rfl⟩)
              go_roundw
              case rel => exact ⟨k + 1, _, by omega, by go_num, by rw [HSN.out, HO.out, ← hq4]; simp, rfl⟩
              case measure => simp [intOf]; omega
            · have HO := Lib.hid (out_nl HC.out (show ofb zs k = false by unfold ofb; rw [hbv]; exact decide_eq_false hb1))
              go_wp2_with (go_at_call 14; (with_reducible refine (HAK.out _ (HQ1.out.drewN _)).mono ?_); rintro e w5 ⟨rfl, m5, rfl⟩)
              go_roundw
              case rel => exact ⟨k + 1, _, by omega, by go_num, by rw [HSN.out, HO.out, ← hq4]; simp, rfl⟩
              case measure => simp [intOf]; omega
          · have HC := Lib.hid (show ¬ s[k] = 32 ∧ ¬ s[k] = 44 ∧ ¬ s[k] = 10 from ⟨fun h => h32 (by rw [h]; rfl), fun h => h44 (by rw [h]; rfl), fun h => h10 (by rw [h]; rfl)⟩)
            have hsl := sl_one s k hlt ((k : Int) + 1) rfl
            have b32 : ((s[k].toNat : Int) == 32) = false := by simpa using h32
            have b44 : ((s[k].toNat : Int) == 44) = false := by simpa using h44
            have b10 : ((s[k].toNat : Int) == 10) = false := by simpa using h10
            go_wp2
            go_roundw
            case rel => exact ⟨k + 1, _, by omega, by go_num, by rw [HSN.out, S_app, out_any HC.out.1 HC.out.2.1 HC.out.2.2], rfl⟩
            case measure => simp [intOf]; omega
    · obtain rfl : k = s.size := by omega
      have hTL := sprL_len (kf zs) (ofb zs) (kf_le zs) s.data.toList 0
      have htk : s.data.toList.take s.size = s.data.toList := List.take_of_length_le (by simp)
      rw [htk]
      have hbig : (S (sprL (kf zs) (ofb zs) 0 s.data.toList)).size ≤ 41650 := by
        rw [S_size]; have e : s.data.toList.length = s.size := by simp
        omega
      have HTR := Lib.hid (fun (h : (sprL (kf zs) (ofb zs) 0 s.data.toList).length ≤ 8192) => show transL (sprL (kf zs) (ofb zs) 0 s.data.toList) = .inr (ws, []) by
        rw [HSL.out] at h ⊢
        exact trans_spr (kf zs) (ofb zs) HU.out (by rw [HN.out]; omega) h)
      clear htk hTL
      generalize sprL (kf zs) (ofb zs) 0 s.data.toList = T at *
      by_cases hbg : (8192 : Int) < (S T).size
      · go_wp2_with (go_at_call 7; (with_reducible refine (HAW.out _).mono ?_); rintro e w6 ⟨rfl, hb6⟩)
        go_ret
        exact ⟨rfl, below_step (below_drewN HB1.out _) hb6⟩
      · have ha := fun W => assemble_asm (S T) W (by omega)
        rw [S_list, HTR.out (by rw [S_size] at hbg; omega)] at ha
        have HA := Lib.hid (show ∀ W, Calls Tryd.prog 11 #[.string (S T)] W fun e w' => (∃ v, e = .returned (.tuple #[v, .agg #[.int .i64 0, .int .i64 0]]) ∧ w'.ownsRow W.heap.size 39 1 v ws.length (ws.map u32V)) ∧ Below W.heap.size W w' from ha)
        clear ha
        rw [HN.out] at HA
        have HSA := Lib.hid (fun A c W (h1 : Row .u32 W A ws) (h2 : Row .u32 W a ws) => show Calls Tryd.prog 13 #[.slice A n c, .slice a n cap] W fun e w' => e = .returned (.bool true) ∧ ∃ q, w' = W.drewN q from (same_any A a n n c cap ws ws W (by omega) HN.out HN.out h1 h2).mono fun e w' ⟨he, hw⟩ => ⟨by rw [he, decide_eq_true rfl], hw⟩)
        have HRX := Lib.hid (HR.out.on HB1.out)
        go_wp2_with (first
          | (go_at_call 11; (with_reducible refine (HA.out _).mono ?_); rintro e w7 ⟨⟨v7, rfl, hv7⟩, hb7⟩; obtain ⟨oa7, cap7, rfl⟩ := own_shape hv7; have HV7 := Lib.hid (row_own hv7); have HB7 := Lib.hid hb7; clear hv7 hb7)
          | (go_at_call 13; (with_reducible refine (HSA.out _ _ _ (HV7.out.on ((Below.refl _ _).alloc (Nat.le_refl _) _)) (((HRX.out.drewN _).on HB7.out).on ((Below.refl _ _).alloc (Nat.le_refl _) _))).mono ?_); rintro e w8 ⟨rfl, q8, rfl⟩)
          | (go_at_call 7; (with_reducible refine (HAW.out _).mono ?_); rintro e w9 ⟨rfl, hb9⟩))
        go_ret
        exact ⟨rfl, below_step (below_drewN ((below_step (below_drewN HB1.out _) HB7.out).alloc (below_step (below_drewN HB1.out _) HB7.out).size _) _) hb9⟩
theorem spaces_walk (a b : Option Addr) (n cap m cap2 : Nat) (xs ys : List Int) (w : World) (hT : Tab2 w) (h1 : IsRowW w a n cap xs) (h2 : IsRowI w b m cap2 ys) :
    Calls Tryd.prog 6 #[.slice a n cap, .slice b m cap2] w fun e w' => e = .returned (.bool true) ∧ Below w.heap.size w w' := by
  by_cases h : 50 < n
  · exact spaces_long a b n cap m cap2 w h
  · obtain ⟨ws, k1, k2, k3, k4⟩ := row_of h1
    obtain ⟨zs, l1, l2, l3, l4⟩ := row_of h2
    subst l1
    refine spaces_ok a b n cap cap2 ws zs w k1 (by omega) k3 (fun x hx => ?_) hT ?_ l3 l4
    · have := wf_u32 (k4 x hx); omega
    · rcases h2 with ⟨_, h2, _⟩ | ⟨x, _, h3, h4, _⟩
      · omega
      · unfold maxLen at h4; omega
end Go.Proofs.YtbbmakpfconnnaaDoor
