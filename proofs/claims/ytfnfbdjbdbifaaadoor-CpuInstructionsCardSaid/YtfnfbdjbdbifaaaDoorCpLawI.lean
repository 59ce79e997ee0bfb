import Derived.Test.YtfnfbdjbdbifaaaDoorCpGh
import Derived.Test.YtfnfbdjbdbifaaaDoorCpLawP
namespace Go.Proofs.YtfnfbdjbdbifaaaDoor
set_option linter.unusedVariables false
set_option linter.unusedSimpArgs false
set_option maxRecDepth 20000
open Go.ChangeShapes Go.WideShapes Go.ChangeAt Go.RowKit Go.Proofs.YtfnfbdjbdbifaaaDoor.Num Go.Proofs.YtfnfbdjbdbifaaaDoor.Mem Go.Proofs.YtfnfbdjbdbifaaaDoor.Isa
/- Every instruction in a processor in kernel mode. -/
set_option maxHeartbeats 1000000 in
theorem instr_walk (A : Option Addr) (n c : Nat) (z : Nat → Int) (k p : Int) (w : World) (hT : TabK w) (hn : n ≤ 9223372036854775807) (hz : Ints w A n z) (k0 : -9223372036854775808 ≤ k) (k1 : k ≤ 9223372036854775807) (p0 : 0 ≤ p) (p1 : p ≤ 4294967295) :
    Calls Tryd.prog 3 #[.int .i64 k, .slice A n c, .int .u32 p] w fun e w' => e = .returned (.bool true) ∧ Below w.heap.size w w' := by
  obtain ⟨O, I1, I2, I3, I4, hok, hinst⟩ := inst_exC k k0 k1
  have HI := Lib.hid hinst
  clear hinst
  obtain ⟨X, X0, X1, -, -, -, -, -, -, henc⟩ := word_facts hok
  have HEN := Lib.hid henc
  clear henc hok
  obtain ⟨pc, hpc⟩ : ∃ pc, p % 512 / 4 * 4 = pc := ⟨_, rfl⟩
  have q0 : 0 ≤ pc := by omega
  have q1 : pc < 512 := by omega
  have HPL := Lib.hid (fun W (hZ : Ints W A n z) => placed_any A n c z pc X W hn hZ q0 q1 X0 X1)
  have HZ := Lib.hid hz
  have HTK := Lib.hid hT
  have HAW := Lib.hid (fun W => awake6 W)
  have HX := Lib.hid (fun L l W c4 g (hL : C25 L) (hM : Mem W (some ⟨g, 0, none⟩) 128 c4 l) (hK : TabK W) => exec_any L (some ⟨g, 0, none⟩) 128 c4 l W hL hM hK)
  have HR := Lib.hid (fun L l W c4 g (hL : C25 L) (hM : Mem W (some ⟨g, 0, none⟩) 128 c4 l) => exec_ref L (some ⟨g, 0, none⟩) 128 c4 l W hL hM)
  clear hz hT
  obtain ⟨F1, F2, F3, -⟩ := cw_facts
  go_enter Tryd.func3, Tryd.ntmps3
  go_wp2_with (first
    | (go_at_call 6; (with_reducible refine (HI.out _).mono ?_); rintro e w1 ⟨rfl, hb1⟩)
    | (go_at_call 5; (with_reducible refine (HEN.out _).mono ?_); rintro e w3 ⟨rfl, hb3⟩; have b3 := below_step hb1 hb3; clear hb3 hb1)
    | (go_at_call 7; (with_reducible refine (HPL.out _ (HZ.out.on b3)).mono ?_); rintro e w4 ⟨⟨L, g, c4, l, rfl, hc4, hPl, hl, hu, hwd, ho, hg⟩, hb4⟩; have hL := hPl.1.1)
    | (refine wpList_alloc_box rfl rfl ?_; simp only [Act.put, List.setIfInBounds_toArray, List.set_cons_zero, List.set_cons_succ])
    | (refine wpList_store_look rfl _ _ rfl _ rfl rfl (by (first | with_reducible assumption | (simp only [List.length_set]; with_reducible assumption) | exact Z25_len)) (fun ob hob => by (simp [look_alloc, look_setRow, look_drew, look_drewN, look_setCell, Nat.add_assoc] at hob; subst hob; exact ⟨_, rfl, by (first | with_reducible assumption | (simp only [List.length_set]; with_reducible assumption) | exact Z25_len)⟩)) (fun w2 hw2 => ?_); simp [row_alloc_same, row_alloc_old] at hw2; subst hw2; simp only [Act.put, List.setIfInBounds_toArray, List.set_cons_zero, List.set_cons_succ])
    | (refine wpList_load_look rfl _ rfl _ rfl (fun ob hob => ?_); simp [look_alloc, look_setRow, look_drew, look_drewN, look_setCell, Nat.add_assoc] at hob; subst hob; refine ⟨_, rfl, by (first | with_reducible assumption | (simp only [List.length_set]; with_reducible assumption) | exact Z25_len), ?_⟩; simp only [Act.put, List.setIfInBounds_toArray, List.set_cons_zero, List.set_cons_succ]))
  have hB4 := below_step b3 hb4
  have hM4 := ho.mem hl hc4 (by omega) hu
  have hC := hPl.1
  have hgl := ho.lt
  clear hb4 b3 hPl hl hu hwd ho hg hc4
  generalize hW : World.alloc w4 _ = W5
  have X9 : lk W5 w4.heap.size = some (.cells (cw L).toArray 32 (0, 0)) := by rw [← hW, look_alloc, if_pos rfl]
  have hM5 : Mem W5 (some ⟨g, 0, none⟩) 128 c4 l := by rw [← hW]; exact hM4.on ((Below.refl _ _).alloc (Nat.le_refl _) _)
  have hB5 : Below w.heap.size w W5 := by rw [← hW]; exact hB4.alloc hB4.size _
  have hs5 : w4.heap.size < W5.heap.size := by rw [← hW]; simp
  clear hW hM4 hB4
  refine (HX.out L l _ c4 g hC hM5 (HTK.out.on hB5)).mono ?_
  have HR2 := Lib.hid (fun W hM => HR.out L l W c4 g hC hM)
  clear HX HR
  obtain ⟨eK, eP, eR, eV, hE⟩ := exE_is 128 l L
  have hRL := exL_len (n := 128) (l := l) hL
  unfold ExPost
  rw [hE] at HR2 ⊢
  unfold efV at HR2 ⊢
  generalize exL 128 l L = R at *
  generalize exM 128 l L = l' at *
  clear hE
  rintro e w6 ⟨⟨S6, c6, rfl, hm6, -⟩, hb6⟩
  replace X9 := look_on X9 hb6 hs5
  replace hM5 := hM5.on hb6
  replace hB5 := below_step hB5 hb6
  replace hs5 : w4.heap.size < w6.heap.size := Nat.lt_of_lt_of_le hs5 hb6.size
  clear hb6
  have N0 : ¬ w4.heap.size = w6.heap.size := by omega
  have N1 : ¬ w4.heap.size = w6.heap.size + 1 := by omega
  go_wp2_with (first
    | (refine wpList_alloc_box rfl rfl ?_; simp only [Act.put, List.setIfInBounds_toArray, List.set_cons_zero, List.set_cons_succ])
    | (refine wpList_store_look rfl _ _ rfl _ rfl rfl hRL (fun ob hob => by (simp [look_alloc, look_setRow, look_drew, look_drewN, look_setCell, Nat.add_assoc] at hob; subst hob; exact ⟨_, rfl, Z25_len⟩)) (fun w4 hw4 => ?_); simp [row_alloc_same, row_alloc_old] at hw4; subst hw4; simp only [Act.put, List.setIfInBounds_toArray, List.set_cons_zero, List.set_cons_succ])
    | (refine wpList_load_look rfl _ rfl _ rfl (fun ob hob => ?_); simp [look_alloc, look_setRow, look_drew, look_drewN, look_setCell, Nat.add_assoc, X9, N0, N1] at hob; subst hob; refine ⟨_, rfl, hL, ?_⟩; simp only [Act.put, List.setIfInBounds_toArray, List.set_cons_zero, List.set_cons_succ]))
  generalize hW : World.alloc (World.alloc w6 _) _ = W7
  have Y1 : lk W7 w6.heap.size = some (.cells (cw R).toArray 32 (0, 0)) := by rw [← hW]; simp [look_alloc, look_setRow, look_drew, look_drewN, look_setCell, Nat.add_assoc] <;> omega
  have Y3 : lk W7 (w6.heap.size + 1) = some (.cells #[.int .i64 eK, .int .i64 eP, .int .i64 eR, .int .u32 eV] 37 (0, 0)) := by rw [← hW]; simp [look_alloc, look_setRow, look_drew, look_drewN, look_setCell, Nat.add_assoc]
  have hb67 : Below w6.heap.size w6 W7 := by rw [← hW]; exact ((Below.refl _ _).alloc (Nat.le_refl _) _).alloc (by simp) _
  have hs7 : w6.heap.size + 1 < W7.heap.size := by rw [← hW]; simp
  replace hM5 := hM5.on hb67
  replace hm6 := hm6.on hb67
  replace hB5 := below_step hB5 hb67
  clear hW hb67 X9 N0 N1
  refine (HR2.out _ hM5).mono ?_
  rintro e w8 ⟨⟨S8, c8, rfl, hm8⟩, hb8⟩
  replace Y1 := look_on Y1 hb8 (by omega)
  replace Y3 := look_on Y3 hb8 (by omega)
  replace hm6 := hm6.on hb8
  replace hB5 := below_step hB5 hb8
  replace hs7 : w6.heap.size + 1 < w8.heap.size := Nat.lt_of_lt_of_le hs7 hb8.size
  clear hb8 hM5
  have N0 : ¬ w6.heap.size = w8.heap.size := by omega
  have N1 : ¬ w6.heap.size = w8.heap.size + 1 := by omega
  have N2 : ¬ w6.heap.size + 1 = w8.heap.size := by omega
  have N3 : ¬ w6.heap.size + 1 = w8.heap.size + 1 := by omega
  have f0 : ∀ o1 o2, ((w8.alloc o1).alloc o2).cell? ⟨w6.heap.size + 1, 0, none⟩ = some (.int .i64 eK) := fun o1 o2 => Lib.cell?_alloc_some _ (Lib.cell?_alloc_some _ (cell_lk Y3 0))
  have f1 : ∀ o1 o2, ((w8.alloc o1).alloc o2).cell? ⟨w6.heap.size + 1, 1, none⟩ = some (.int .i64 eP) := fun o1 o2 => Lib.cell?_alloc_some _ (Lib.cell?_alloc_some _ (cell_lk Y3 1))
  have f2 : ∀ o1 o2, ((w8.alloc o1).alloc o2).cell? ⟨w6.heap.size + 1, 2, none⟩ = some (.int .i64 eR) := fun o1 o2 => Lib.cell?_alloc_some _ (Lib.cell?_alloc_some _ (cell_lk Y3 2))
  have f3 : ∀ o1 o2, ((w8.alloc o1).alloc o2).cell? ⟨w6.heap.size + 1, 3, none⟩ = some (.int .u32 eV) := fun o1 o2 => Lib.cell?_alloc_some _ (Lib.cell?_alloc_some _ (cell_lk Y3 3))
  have HSW := Lib.hid (fun W (h1 : Mem W S6 128 c6 l') (h2 : Mem W S8 128 c8 l') => same_refl S6 S8 128 c6 c8 l' W h1 h2)
  go_wp2_with (first
    | (refine wpList_alloc_box rfl rfl ?_; simp only [Act.put, List.setIfInBounds_toArray, List.set_cons_zero, List.set_cons_succ])
    | (refine wpList_store_look rfl _ _ rfl _ rfl rfl hRL (fun ob hob => by (simp [look_alloc, look_setRow, look_drew, look_drewN, look_setCell, Nat.add_assoc] at hob; subst hob; exact ⟨_, rfl, Z25_len⟩)) (fun w4 hw4 => ?_); simp [row_alloc_same, row_alloc_old] at hw4; subst hw4; simp only [Act.put, List.setIfInBounds_toArray, List.set_cons_zero, List.set_cons_succ])
    | (refine wpList_load_look rfl _ rfl _ rfl (fun ob hob => ?_); simp [look_alloc, look_setRow, look_drew, look_drewN, look_setCell, Nat.add_assoc, Y1, N0, N1] at hob; subst hob; refine ⟨_, rfl, hRL, ?_⟩; simp only [Act.put, List.setIfInBounds_toArray, List.set_cons_zero, List.set_cons_succ])
    | (refine wpList_eql_cpu rfl _ _ rfl rfl rfl hRL ?_; simp only [Act.put, List.setIfInBounds_toArray, List.set_cons_zero, List.set_cons_succ])
    | (go_at_call 10; (with_reducible refine (HSW.out _ (hm6.on (by (repeat' (first | with_reducible exact Below.refl _ _ | with_reducible assumption | with_reducible apply below_drewN | with_reducible apply Below.drew | with_reducible apply Below.setCell | with_reducible apply Below.alloc | (simp; done) | omega | (simp; omega))))) (hm8.on (by (repeat' (first | with_reducible exact Below.refl _ _ | with_reducible assumption | with_reducible apply below_drewN | with_reducible apply Below.drew | with_reducible apply Below.setCell | with_reducible apply Below.alloc | (simp; done) | omega | (simp; omega)))))).mono ?_); rintro e w9 ⟨rfl, m9, rfl⟩)
    | (go_at_call 11; refine (HAW.out _).mono ?_; rintro e w10 ⟨rfl, hb10⟩))
  go_ret
  exact ⟨rfl, below_step (below_step hB5 (by (repeat' (first | with_reducible exact Below.refl _ _ | with_reducible assumption | with_reducible apply below_drewN | with_reducible apply Below.drew | with_reducible apply Below.setCell | with_reducible apply Below.alloc | (simp; done) | omega | (simp; omega))))) hb10⟩
theorem instr_row (k : Int) (a1 : Option Addr) (len1 cap1 : Nat) (z1 : List Int) (p : Int) (w : World) (hT : TabK w) (w0 : (Lit.int .i64 k).wf = true) (w1 : IsRowI w a1 len1 cap1 z1) (w2 : (Lit.int .u32 p).wf = true) :
    Calls Tryd.prog 3 #[.int .i64 k, .slice a1 len1 cap1, .int .u32 p] w fun e w' => e = .returned (.bool true) ∧ Below w.heap.size w w' :=
  instr_walk a1 len1 cap1 _ k p w hT (row_intsC w1).2 (row_intsC w1).1 (wf_i64 w0).1 (wf_i64 w0).2 (wf_u32 w2).1 (wf_u32 w2).2
end Go.Proofs.YtfnfbdjbdbifaaaDoor
