import Derived.Test.YtlbdggnbhgmjdaaDoorCpLawC
namespace Go.Proofs.YtlbdggnbhgmjdaaDoor
set_option linter.unusedVariables false
set_option linter.unusedSimpArgs false
set_option maxRecDepth 20000
open Go.ChangeShapes Go.WideShapes Go.ChangeAt Go.RowKit Go.Proofs.YtlbdggnbhgmjdaaDoor.Num Go.Proofs.YtlbdggnbhgmjdaaDoor.Mem Go.Proofs.YtlbdggnbhgmjdaaDoor.Isa
set_option maxHeartbeats 2000000 in
theorem algebra_walk (a b c : Int) (w : World) (a0 : 0 ≤ a) (a1 : a ≤ 4294967295) (b0 : 0 ≤ b) (b1 : b ≤ 4294967295) (c0 : 0 ≤ c) (c1 : c ≤ 4294967295) :
    Calls Tryd.prog 8 #[.int .u32 a, .int .u32 b, .int .u32 c] w fun e w' => e = .returned (.bool true) ∧ Below w.heap.size w w' := by
  have HW := Lib.hid (fun W => awake6 W)
  have BS := aluV_bd 1 a b a0 a1 b0 b1
  have BT := aluV_bd 1 b c b0 b1 c0 c1
  have BP := aluV_bd 9 a b a0 a1 b0 b1
  have BQ := aluV_bd 9 a c a0 a1 c0 c1
  have BX := aluV_bd 5 a b a0 a1 b0 b1
  have BN := aluV_bd 3 a b a0 a1 b0 b1
  have BD := aluV_bd 10 a b a0 a1 b0 b1
  have BR := aluV_bd 11 a b a0 a1 b0 b1
  have BG := aluV_bd 7 a c a0 a1 c0 c1
  have BY := aluV_bd 6 4294967295 c (by omega) (by omega) c0 c1
  have BE := aluV_bd 9 (aluV 10 a b) b BD.1 BD.2 b0 b1
  have Bxa := bits_bd .xor (by simp) a 2147483648 a0 a1 (by omega) (by omega)
  have Bxb := bits_bd .xor (by simp) b 2147483648 b0 b1 (by omega) (by omega)
  have H0 := Lib.hid (fun W => f_any 1 a b W a0 a1 b0 b1)
  have H1 := Lib.hid (fun W => f_any 2 (aluV 1 a b) b W BS.1 BS.2 b0 b1)
  have H2 := Lib.hid (fun W => f_any 1 b a W b0 b1 a0 a1)
  have H3 := Lib.hid (fun W => f_any 1 b c W b0 b1 c0 c1)
  have H4 := Lib.hid (fun W => f_any 9 a (aluV 1 b c) W a0 a1 BT.1 BT.2)
  have H5 := Lib.hid (fun W => f_any 9 a b W a0 a1 b0 b1)
  have H6 := Lib.hid (fun W => f_any 9 a c W a0 a1 c0 c1)
  have H7 := Lib.hid (fun W => f_any 1 (aluV 9 a b) (aluV 9 a c) W BP.1 BP.2 BQ.1 BQ.2)
  have H8 := Lib.hid (fun W => f_any 5 a b W a0 a1 b0 b1)
  have H9 := Lib.hid (fun W => f_any 5 (aluV 5 a b) b W BX.1 BX.2 b0 b1)
  have H10 := Lib.hid (fun W => f_any 4 a b W a0 a1 b0 b1)
  have H11 := Lib.hid (fun W => f_any 3 a b W a0 a1 b0 b1)
  have H12 := Lib.hid (fun W => f_any 5 (aluV 5 a b) (aluV 3 a b) W BX.1 BX.2 BN.1 BN.2)
  have H13 := Lib.hid (fun W => f_any 10 a b W a0 a1 b0 b1)
  have H14 := Lib.hid (fun W => f_any 9 (aluV 10 a b) b W BD.1 BD.2 b0 b1)
  have H15 := Lib.hid (fun W => f_any 11 a b W a0 a1 b0 b1)
  have H16 := Lib.hid (fun W => f_any 1 (aluV 9 (aluV 10 a b) b) (aluV 11 a b) W BE.1 BE.2 BR.1 BR.2)
  have H17 := Lib.hid (fun W => f_any 7 a c W a0 a1 c0 c1)
  have H18 := Lib.hid (fun W => f_any 6 (aluV 7 a c) c W BG.1 BG.2 c0 c1)
  have H19 := Lib.hid (fun W => f_any 6 4294967295 c W (by omega) (by omega) c0 c1)
  have H20 := Lib.hid (fun W => f_any 3 a (aluV 6 4294967295 c) W a0 a1 BY.1 BY.2)
  have H21 := Lib.hid (fun W => f_any 13 a b W a0 a1 b0 b1)
  have H22 := Lib.hid (fun W => f_any 13 b a W b0 b1 a0 a1)
  have H23 := Lib.hid (fun W => f_any 13 0 (aluV 5 a b) W (by omega) (by omega) BX.1 BX.2)
  have H24 := Lib.hid (fun W => f_any 12 a b W a0 a1 b0 b1)
  have H25 := Lib.hid (fun W => f_any 13 (bits .xor .u32 a 2147483648) (bits .xor .u32 b 2147483648) W Bxa.1 Bxa.2 Bxb.1 Bxb.2)
  rw [al1 a b a0 a1 b0 b1] at H1
  rw [al2 b a] at H2
  rw [al3 a b c] at H4
  rw [al4 a b a0 a1 b0 b1] at H9
  rw [← al5 a b a0 a1 b0 b1] at H12
  rw [al6 a b a0 a1 b0 b1] at H16
  rw [al7 a c a0 a1 c0 c1] at H18
  rw [← al9 a b a0 a1 b0 b1] at H25
  have h8 := al8 a b a0 a1 b0 b1
  generalize aluV 13 0 (aluV 5 a b) = Z at *
  generalize aluV 12 a b = V at *
  generalize aluV 13 a b = I at *
  generalize aluV 13 b a = J at *
  generalize aluV 3 a (aluV 6 4294967295 c) = K at *
  generalize aluV 6 4294967295 c = Y at *
  generalize aluV 7 a c = G at *
  generalize aluV 11 a b = R at *
  generalize aluV 9 (aluV 10 a b) b = E at *
  generalize aluV 10 a b = D at *
  generalize aluV 3 a b = N at *
  generalize aluV 4 a b = O at *
  generalize aluV 5 a b = X at *
  generalize aluV 1 (aluV 9 a b) (aluV 9 a c) = U at *
  generalize aluV 9 a b = P at *
  generalize aluV 9 a c = Q at *
  generalize aluV 1 b c = T at *
  generalize aluV 1 a b = S at *
  clear BS BT BP BQ BX BN BD BR BG BY BE Bxa Bxb
  go_enter Tryd.func8, Tryd.ntmps8
  repeat' (first
    | (go_at_call 32; (first | with_reducible refine (H0.out _).mono ?_ | with_reducible refine (H1.out _).mono ?_ | with_reducible refine (H2.out _).mono ?_ | with_reducible refine (H3.out _).mono ?_ | with_reducible refine (H4.out _).mono ?_ | with_reducible refine (H5.out _).mono ?_ | with_reducible refine (H6.out _).mono ?_ | with_reducible refine (H7.out _).mono ?_ | with_reducible refine (H8.out _).mono ?_ | with_reducible refine (H9.out _).mono ?_ | with_reducible refine (H10.out _).mono ?_ | with_reducible refine (H11.out _).mono ?_ | with_reducible refine (H12.out _).mono ?_ | with_reducible refine (H13.out _).mono ?_ | with_reducible refine (H14.out _).mono ?_ | with_reducible refine (H15.out _).mono ?_ | with_reducible refine (H16.out _).mono ?_ | with_reducible refine (H17.out _).mono ?_ | with_reducible refine (H18.out _).mono ?_ | with_reducible refine (H19.out _).mono ?_ | with_reducible refine (H20.out _).mono ?_ | with_reducible refine (H21.out _).mono ?_ | with_reducible refine (H22.out _).mono ?_ | with_reducible refine (H23.out _).mono ?_ | with_reducible refine (H24.out _).mono ?_ | with_reducible refine (H25.out _).mono ?_); rintro e w1 ⟨rfl, m1, rfl⟩)
    | (go_at_call 18; refine (HW.out _).mono ?_; rintro e w6 ⟨rfl, hb6⟩)
    | go_values | go_skip | go_guarded | go_step | go_upon | (simp only [Int.not_lt, Int.not_le] at *; go_simp) | (go_values <;> (try go_simp)) | (go_ite <;> go_prune <;> (try go_simp)))
  go_ret
  exact ⟨rfl, below_step (below_drewN (Below.refl _ _) _) hb6⟩
theorem algebra_row (a b c : Int) (w : World) (w0 : (Lit.int .u32 a).wf = true) (w1 : (Lit.int .u32 b).wf = true) (w2 : (Lit.int .u32 c).wf = true) :
    Calls Tryd.prog 8 #[.int .u32 a, .int .u32 b, .int .u32 c] w fun e w' => e = .returned (.bool true) ∧ Below w.heap.size w w' :=
  algebra_walk a b c w (wf_u32 w0).1 (wf_u32 w0).2 (wf_u32 w1).1 (wf_u32 w1).2 (wf_u32 w2).1 (wf_u32 w2).2
end Go.Proofs.YtlbdggnbhgmjdaaDoor
