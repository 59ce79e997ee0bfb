import Derived.Test.YtkpboooifkhijaaDoorCpGa
import Derived.Test.YtkpboooifkhijaaDoorCpEx2
import Derived.Test.YtkpboooifkhijaaDoorPmRow
namespace Go.Proofs.YtkpboooifkhijaaDoor
set_option linter.unusedVariables false
set_option linter.unusedSimpArgs false
set_option maxRecDepth 20000
open Go.ChangeShapes Go.WideShapes Go.ChangeAt Go.RowKit Go.Proofs.YtkpboooifkhijaaDoor.Num Go.Proofs.YtkpboooifkhijaaDoor.Mem Go.Proofs.YtkpboooifkhijaaDoor.Isa
theorem halt_ok : Ok 64 0 0 0 0 := by decide
set_option maxHeartbeats 4000000 in
theorem privilege_walk (A : Option Addr) (n c : Nat) (z : Nat → Int) (k p : Int) (w : World) (hn : n ≤ 9223372036854775807) (hz : Ints w A n z) (k0 : -9223372036854775808 ≤ k) (k1 : k ≤ 9223372036854775807) (p0 : 0 ≤ p) (p1 : p ≤ 4294967295) :
    Calls Tryd.prog 7 #[.slice A n c, .int .i64 k, .int .u32 p] w fun e w' => e = .returned (.bool true) ∧ Below w.heap.size w w' := by
  obtain ⟨O, I1, I2, I3, I4, hok, hinst⟩ := inst_exC k k0 k1
  have HI := Lib.hid hinst
  clear hinst
  obtain ⟨O', J1, J2, J3, J4, hok', hpr', hcase⟩ : ∃ o a b c m : Int, Ok o a b c m ∧ prvB o = true ∧ ((prvB O = true ∧ o = O ∧ a = I1 ∧ b = I2 ∧ c = I3 ∧ m = I4) ∨ (prvB O = false ∧ o = 64 ∧ a = 0 ∧ b = 0 ∧ c = 0 ∧ m = 0)) := by
    cases h : prvB O with
    | true => exact ⟨O, I1, I2, I3, I4, hok, h, .inl ⟨rfl, rfl, rfl, rfl, rfl, rfl⟩⟩
    | false => exact ⟨64, 0, 0, 0, 0, halt_ok, by decide, .inr ⟨rfl, rfl, rfl, rfl, rfl, rfl⟩⟩
  obtain ⟨X, X0, X1, Xd, Xo, -, -, -, -, henc⟩ := word_facts hok'
  have HEN := Lib.hid henc
  clear henc hok hok'
  obtain ⟨pc, hpc⟩ : ∃ pc, p % 512 / 4 * 4 = pc := ⟨_, rfl⟩
  have q0 : 0 ≤ pc := by omega
  have q1 : pc < 512 := by omega
  have q4 : pc % 4 = 0 := by omega
  have HPR := Lib.hid (fun W => priv_ref O W)
  have HPL := Lib.hid (fun W (hZ : Ints W A n z) => placed_any A n c z pc X W hn hZ q0 q1 X0 X1)
  have HZ := Lib.hid hz
  have HAW := Lib.hid (fun W => awake6 W)
  have HX := Lib.hid (And.intro Xd (And.intro Xo hpr'))
  clear hz Xd Xo
  obtain ⟨F1, F2, F3, -⟩ := cw_facts
  rcases hcase with ⟨hp, rfl, rfl, rfl, rfl, rfl⟩ | ⟨hp, rfl, rfl, rfl, rfl, rfl⟩
  all_goals
    unfold prvB at hp
    rw [hp] at HPR
    clear hpr'
    go_enter Tryd.func7, Tryd.ntmps7
    go_wp2_with (first
      | (go_at_call 10; (with_reducible refine (HI.out _).mono ?_); rintro e w1 ⟨rfl, hb1⟩)
      | (go_at_call 19; (with_reducible refine (HPR.out _).mono ?_); rintro e w2 ⟨rfl, m2, rfl⟩)
      | (go_at_call 9; (with_reducible refine (HEN.out _).mono ?_); rintro e w3 ⟨rfl, hb3⟩; have s1 := hb1.size; have b3 : Below w.heap.size w w3 := Below.trans (by (repeat' (first | with_reducible exact Below.refl _ _ | with_reducible assumption | with_reducible apply below_drewN | with_reducible apply Below.drew | with_reducible apply Below.setCell | with_reducible apply Below.alloc | (simp; done) | omega | (simp; omega)))) (hb3.mono (by simp; omega)); clear hb3 hb1 s1)
      | (go_at_call 11; (with_reducible refine (HPL.out _ (HZ.out.on b3)).mono ?_); rintro e w4 ⟨⟨L, g, c4, l, rfl, hc4, hPl, hl, hu, hwd, ho, hg⟩, hb4⟩; have hL := hPl.1.1)
      | (refine wpList_alloc_box rfl rfl ?_; simp only [Act.put, List.setIfInBounds_toArray, List.set_cons_zero, List.set_cons_succ])
      | (refine wpList_store_look rfl _ _ rfl _ rfl rfl (by (first | with_reducible assumption | (simp only [List.length_set]; with_reducible assumption) | exact Z25_len)) (fun ob hob => by (simp [look_alloc, look_setRow, look_drew, look_drewN, look_setCell, Nat.add_assoc] at hob; subst hob; exact ⟨_, rfl, by (first | with_reducible assumption | (simp only [List.length_set]; with_reducible assumption) | exact Z25_len)⟩)) (fun w2 hw2 => ?_); simp [row_alloc_same, row_alloc_old] at hw2; subst hw2; simp only [Act.put, List.setIfInBounds_toArray, List.set_cons_zero, List.set_cons_succ])
      | (refine wpList_load_look rfl _ rfl _ rfl (fun ob hob => ?_); simp [look_alloc, look_setRow, look_drew, look_drewN, look_setCell, Nat.add_assoc] at hob; subst hob; refine ⟨_, rfl, by (first | with_reducible assumption | (simp only [List.length_set]; with_reducible assumption) | exact Z25_len), ?_⟩; simp only [Act.put, List.setIfInBounds_toArray, List.set_cons_zero, List.set_cons_succ]))
  all_goals
    obtain ⟨hC, e16, e17, ek, ep⟩ := user_facts hPl
    have hM : Mem (w4.alloc (.cells (cw (L.set 17 0)).toArray 32)) (some ⟨g, 0, none⟩) 128 c4 l := (ho.mem hl hc4 (by omega) hu).on (by (repeat' (first | with_reducible exact Below.refl _ _ | with_reducible assumption | with_reducible apply below_drewN | with_reducible apply Below.drew | with_reducible apply Below.setCell | with_reducible apply Below.alloc | (simp; done) | omega | (simp; omega))))
    have hB4 : Below w.heap.size w (w4.alloc (.cells (cw (L.set 17 0)).toArray 32)) := (below_step b3 hb4).alloc (by have := (below_step b3 hb4).size; omega) _
    have sL : lk (w4.alloc (.cells (cw (L.set 17 0)).toArray 32)) w4.heap.size = some (.cells (cw (L.set 17 0)).toArray 32 (0, 0)) := by rw [look_alloc, if_pos rfl]
    have hs5 : w4.heap.size < (w4.alloc (.cells (cw (L.set 17 0)).toArray 32)).heap.size := by simp
    obtain ⟨f1, f2, f3⟩ := ft_plain (n := 128) (l := l) (L := L.set 17 0) ep (by rw [e16]; exact q4) (by rw [e16]; exact ok128 q0 q1 q4)
    rw [e16, hwd] at f3
    have HE := exec_prv (L.set 17 0) (some ⟨g, 0, none⟩) 128 c4 l (w4.alloc (.cells (cw (L.set 17 0)).toArray 32)) hC hM f1 (by rw [f3]; exact HX.out.1) (by rw [f3, HX.out.2.1]; exact HX.out.2.2) ek (by rw [f3]; exact ⟨X0, X1⟩)
    rw [f2, f3] at HE
    obtain ⟨t16, t17, t19, t20, t21, tX⟩ := trap_keeps hC 2 X
    rw [e16] at t19
    rw [e17] at t17
    have hTl := (hC.trap 2 X0 X1).1
    have hLl := hC.1
    have tr0 : trS 0 = 1 := rfl
    rw [tr0] at t17
    generalize trapL (L.set 17 0) 2 X = T at *
    generalize L.set 17 0 = N at *
    refine HE.mono ?_
    rintro e w6 ⟨⟨S6, c6, rfl, hm6, hf6⟩, hb6⟩
    have X3 := look_on sL hb6 hs5
    have bel := below_step hB4 hb6
    have hM6 := hM.on hb6
    have hs6 := Nat.lt_of_lt_of_le hs5 hb6.size
    clear hb6 hB4 hM sL hs5 hf6 HE hb4 b3
    have C3 : ∀ k : Nat, k < 25 → w6.cell? ⟨w4.heap.size, k, none⟩ = some (.int .u32 (wd N k)) := fun k hk => (cell_lk X3 k).trans (by simpa using cw_at hLl hk)
    have N0 : ¬ w4.heap.size = w6.heap.size := by omega
    have N1 : ¬ w6.heap.size = w4.heap.size := by omega
    have EQ := fun w => eq_lit16 N w
    unfold efV
    go_wp2_with (first
      | (refine wpList_alloc_box rfl rfl ?_; simp only [Act.put, List.setIfInBounds_toArray, List.set_cons_zero, List.set_cons_succ])
      | (refine wpList_store_look rfl _ _ rfl _ rfl rfl (by (first | with_reducible assumption | (simp only [List.length_set]; with_reducible assumption) | exact Z25_len)) (fun ob hob => by (simp [look_alloc, look_setRow, look_drew, look_drewN, look_setCell, Nat.add_assoc] at hob; subst hob; exact ⟨_, rfl, by (first | with_reducible assumption | (simp only [List.length_set]; with_reducible assumption) | exact Z25_len)⟩)) (fun w2 hw2 => ?_); simp [row_alloc_same, row_alloc_old] at hw2; subst hw2; simp only [Act.put, List.setIfInBounds_toArray, List.set_cons_zero, List.set_cons_succ])
      | (go_at_call 14; refine (same_refl _ _ _ _ _ _ _ (hm6.on (by (repeat' (first | with_reducible exact Below.refl _ _ | with_reducible assumption | with_reducible apply below_drewN | with_reducible apply Below.drew | with_reducible apply Below.setCell | with_reducible apply Below.alloc | (simp; done) | omega | (simp; omega))))) (hM6.on (by (repeat' (first | with_reducible exact Below.refl _ _ | with_reducible assumption | with_reducible apply below_drewN | with_reducible apply Below.drew | with_reducible apply Below.setCell | with_reducible apply Below.alloc | (simp; done) | omega | (simp; omega)))))).mono ?_; rintro e w7 ⟨rfl, m7, rfl⟩)
      | (go_at_call 15; refine (HAW.out _).mono ?_; rintro e w8 ⟨rfl, hb8⟩))
    go_ret
    exact ⟨rfl, below_step (below_step bel (by (repeat' (first | with_reducible exact Below.refl _ _ | with_reducible assumption | with_reducible apply below_drewN | with_reducible apply Below.drew | with_reducible apply Below.setCell | with_reducible apply Below.alloc | (simp; done) | omega | (simp; omega))))) hb8⟩
theorem row_intsC {w : World} {a : Option Addr} {len cap : Nat} {zs : List Int} (h : IsRow .i64 w a len cap zs) : Ints w a len (fun i => zs.getD i 0) ∧ len ≤ 9223372036854775807 := by
  refine ⟨row_ints h, ?_⟩
  rcases h with ⟨rfl, rfl, rfl, rfl⟩ | ⟨x, rfl, hl, hm, hz, hc, hw⟩
  · omega
  · unfold maxLen at hm; omega
abbrev IsRowI (w : World) (a : Option Addr) (len cap : Nat) (zs : List Int) : Prop := IsRow .i64 w a len cap zs
theorem privilege_row (a0 : Option Addr) (len0 cap0 : Nat) (z0 : List Int) (k p : Int) (w : World) (w0 : IsRowI w a0 len0 cap0 z0) (w1 : (Lit.int .i64 k).wf = true) (w2 : (Lit.int .u32 p).wf = true) :
    Calls Tryd.prog 7 #[.slice a0 len0 cap0, .int .i64 k, .int .u32 p] w fun e w' => e = .returned (.bool true) ∧ Below w.heap.size w w' :=
  privilege_walk a0 len0 cap0 _ k p w (row_intsC w0).2 (row_intsC w0).1 (wf_i64 w1).1 (wf_i64 w1).2 (wf_u32 w2).1 (wf_u32 w2).2
end Go.Proofs.YtkpboooifkhijaaDoor
