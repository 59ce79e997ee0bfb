import Derived.Test.YtfnfbdjbdbifaaaDoorCpFn3
import Derived.Test.YtfnfbdjbdbifaaaDoorCpTch
namespace Go.Proofs.YtfnfbdjbdbifaaaDoor
set_option linter.unusedVariables false
set_option linter.unusedSimpArgs false
set_option maxRecDepth 20000
open Go.ChangeShapes Go.WideShapes Go.ChangeAt Go.RowKit Go.Proofs.YtfnfbdjbdbifaaaDoor.Num Go.Proofs.YtfnfbdjbdbifaaaDoor.Mem Go.Proofs.YtfnfbdjbdbifaaaDoor.Isa
/- Resolve. -/
theorem cause_cpu (a : Int) (w : World) :
    Calls Tryd.prog 65 #[.int .i64 a] w fun e w' => e = .returned (.tuple #[.int .i64 (if a = 1 ∨ a = 2 ∨ a = 3 then cauN a else 0), .bool (decide (a = 1 ∨ a = 2 ∨ a = 3))]) ∧ w' = w := by
  by_cases h : a = 1 ∨ a = 2 ∨ a = 3
  · rcases h with rfl | rfl | rfl
    all_goals
      go_enter Tryd.func65, Tryd.ntmps65
      go_wp2
      go_ret2
      exact ⟨rfl, rfl⟩
  · rw [if_neg h, decide_eq_false h]
    have n1 : ¬ a = 1 := by omega
    have n2 : ¬ a = 2 := by omega
    have n3 : ¬ a = 3 := by omega
    clear h
    go_enter Tryd.func65, Tryd.ntmps65
    go_wp2
    go_ret2
    exact ⟨rfl, rfl⟩
/-- What an access gives. -/
def RsPost (n : Nat) (A C : Int) (l : List Int) (w : World) (e : Ending) (w' : World) : Prop := (∃ S c, e = .returned (.tuple #[.int .u32 A, .slice S n c, .int .i64 C]) ∧ Mem w' S n c l ∧ Fresh w.heap.size S n) ∧ Below w.heap.size w w'
theorem wkE_bd (n : Nat) (l : List Int) (root va a : Int) (r0 : 0 ≤ root) (v0 : 0 ≤ va) : 0 ≤ wkE n l root va a ∧ wkE n l root va a ≤ 4294967295 := by
  unfold wkE
  split
  · rename_i h
    have h := of_decide_eq_true h
    have := pagesN_le n
    omega
  · omega
theorem wkA_bd (n : Nat) (l : List Int) (root va a : Int) (v0 : 0 ≤ va) : 0 ≤ wkA n l root va a ∧ wkA n l root va a ≤ 4294967295 := by
  unfold wkA
  split
  · have : 0 ≤ frW (pteW l root va) ∧ frW (pteW l root va) ≤ 255 := by unfold frW; omega
    omega
  · omega
theorem translate_no (S : Option Addr) (n c : Nat) (l : List Int) (root va a C : Int) (w : World) (hm : Mem w S n c l) (r0 : 0 ≤ root) (r1 : root ≤ 4294967295) (v0 : 0 ≤ va) (v1 : va ≤ 4294967295) (hC : wkC n l root va a = C) (hC0 : ¬ C = 0) :
    Calls Tryd.prog 68 #[.int .u32 root, .slice S n c, .int .u32 va, .int .i64 a] w (RsPost n 0 C l w) := by
  have HW := Lib.hid (fun W (hM : Mem W S n c l) => walk_any S n c l root va a W hM r0 r1 v0 v1)
  rw [hC] at HW
  clear hC
  generalize wkA n l root va a = X at *
  generalize wkE n l root va a = Y at *
  unfold trV at HW
  have HCL := Lib.hid (fun W (hM : Mem W S n c l) => clone_any S n c l W hM)
  go_enter Tryd.func68, Tryd.ntmps68
  go_wp2_with (go_at_call 91; refine (HW.out _ hm).mono ?_; rintro e w1 ⟨rfl, hb⟩)
  generalize hW : World.alloc w1 _ = W
  have s2 : W.cell? ⟨w1.heap.size, 2, none⟩ = some (.int .i64 C) := by rw [← hW]; simp [go_sem]
  have HB : Below w.heap.size w W := by rw [← hW]; exact hb.alloc hb.size _
  have hM := hm.on HB
  clear hW
  generalize w1.heap.size = g at *
  have bb : Below W.heap.size W W.drew := (Below.refl _ _).drew
  go_region_held3 (fun w' => w'.cell? ⟨g, 2, none⟩ = some (.int .i64 C)) (first | exact cell_on s2 bb | go_keep) (first
    | (go_at_call 66; refine (HCL.out _ (hM.on bb)).mono ?_; rintro e w2 ⟨⟨S2, c2, rfl, hm2, hf2⟩, hb2⟩; have bbs := bb.size; replace bb := below_step bb hb2))
  all_goals
    go_wp2
    refine bodyPost_ret (v := .tuple #[.int .u32 0, .slice S2 n c2, .int .i64 C]) (by first | rfl | simp [results, go_sem]) rfl ⟨⟨S2, c2, rfl, hm2, (fresh_of hf2).le (Nat.le_trans HB.size bbs)⟩, below_step HB bb⟩
theorem translate_yes (S : Option Addr) (n c : Nat) (l : List Int) (root va a : Int) (w : World) (hm : Mem w S n c l) (r0 : 0 ≤ root) (r1 : root ≤ 4294967295) (v0 : 0 ≤ va) (v1 : va ≤ 4294967295) (hC : wkC n l root va a = 0) :
    Calls Tryd.prog 68 #[.int .u32 root, .slice S n c, .int .u32 va, .int .i64 a] w (RsPost n (wkA n l root va a) 0 (tcL n l (wkE n l root va a) a) w) := by
  have HW := Lib.hid (fun W (hM : Mem W S n c l) => walk_any S n c l root va a W hM r0 r1 v0 v1)
  rw [hC] at HW
  clear hC
  have hY := wkE_bd n l root va a r0 v0
  generalize wkA n l root va a = X at *
  generalize wkE n l root va a = Y at *
  unfold trV at HW
  have HCL := Lib.hid (fun W (hM : Mem W S n c l) => touch_new S n c l Y a W hM hY.1 hY.2)
  go_enter Tryd.func68, Tryd.ntmps68
  go_wp2_with (go_at_call 91; refine (HW.out _ hm).mono ?_; rintro e w1 ⟨rfl, hb⟩)
  generalize hW : World.alloc w1 _ = W
  have s0 : W.cell? ⟨w1.heap.size, 0, none⟩ = some (.int .u32 X) := by rw [← hW]; simp [go_sem]
  have s1 : W.cell? ⟨w1.heap.size, 1, none⟩ = some (.int .u32 Y) := by rw [← hW]; simp [go_sem]
  have HB : Below w.heap.size w W := by rw [← hW]; exact hb.alloc hb.size _
  have hM := hm.on HB
  clear hW
  generalize w1.heap.size = g at *
  have bb : Below W.heap.size W W.drew := (Below.refl _ _).drew
  go_region_held3 (fun w' => w'.cell? ⟨g, 0, none⟩ = some (.int .u32 X) ∧ w'.cell? ⟨g, 1, none⟩ = some (.int .u32 Y)) (first | exact ⟨cell_on s0 bb, cell_on s1 bb⟩ | go_keep) (first
    | (go_at_call 92; refine (HCL.out _ (hM.on bb)).mono ?_; rintro e w2 ⟨⟨S2, c2, rfl, hm2, hf2⟩, hb2⟩; have bbs := bb.size; replace bb := below_step bb hb2))
  all_goals
    go_wp2
    refine bodyPost_ret (v := .tuple #[.int .u32 X, .slice S2 n c2, .int .i64 0]) (by first | rfl | simp [results, go_sem]) rfl ⟨⟨S2, c2, rfl, hm2, hf2.le (Nat.le_trans HB.size bbs)⟩, below_step HB bb⟩
theorem resolve_bad (L : List Int) (S : Option Addr) (n c : Nat) (l : List Int) (va size a : Int) (w : World) (hL : C25 L) (hm : Mem w S n c l) (h : ¬ ((a = 1 ∨ a = 2 ∨ a = 3) ∧ (size = 1 ∨ size = 4))) :
    Calls Tryd.prog 37 #[cpV L, .slice S n c, .int .u32 va, .int .i64 size, .int .i64 a] w (RsPost n 0 5 l w) := by
  have HCA := Lib.hid (fun W => cause_cpu a W)
  have HCL := Lib.hid (fun W (hM : Mem W S n c l) => clone_any S n c l W hM)
  by_cases ha : a = 1 ∨ a = 2 ∨ a = 3
  · rw [decide_eq_true ha, if_pos ha] at HCA
    have z1 : (size != 1) = true := by simp; intro hz; exact h ⟨ha, .inl hz⟩
    have z4 : (size != 4) = true := by simp; intro hz; exact h ⟨ha, .inr hz⟩
    generalize cauN a = C at *
    clear ha h
    go_enter Tryd.func37, Tryd.ntmps37
    go_wp2_with (first
      | (refine wpList_box_box rfl _ rfl rfl ?_; simp only [Act.put, List.setIfInBounds_toArray, List.set_cons_zero, List.set_cons_succ])
      | (go_at_call 65; refine (HCA.out _).mono ?_; rintro e w1 ⟨rfl, rfl⟩)
      | (go_at_call 66; refine (HCL.out _ (hm.on (by (repeat' (first | with_reducible exact Below.refl _ _ | with_reducible assumption | with_reducible apply below_drewN | with_reducible apply Below.drew | with_reducible apply Below.setCell | with_reducible apply Below.alloc | (simp; done) | omega | (simp; omega)))))).mono ?_; rintro e w2 ⟨⟨S2, c2, rfl, hm2, hf2⟩, hb2⟩))
    refine bodyPost_ret (v := .tuple #[.int .u32 0, .slice S2 n c2, .int .i64 5]) (by first | rfl | simp [results, go_sem]) rfl ⟨⟨S2, c2, rfl, hm2, (fresh_of hf2).le (by simp)⟩, below_step (by (repeat' (first | with_reducible exact Below.refl _ _ | with_reducible assumption | with_reducible apply below_drewN | with_reducible apply Below.drew | with_reducible apply Below.setCell | with_reducible apply Below.alloc | (simp; done) | omega | (simp; omega)))) hb2⟩
  · rw [decide_eq_false ha, if_neg ha] at HCA
    clear ha h
    go_enter Tryd.func37, Tryd.ntmps37
    go_wp2_with (first
      | (refine wpList_box_box rfl _ rfl rfl ?_; simp only [Act.put, List.setIfInBounds_toArray, List.set_cons_zero, List.set_cons_succ])
      | (go_at_call 65; refine (HCA.out _).mono ?_; rintro e w1 ⟨rfl, rfl⟩)
      | (go_at_call 66; refine (HCL.out _ (hm.on (by (repeat' (first | with_reducible exact Below.refl _ _ | with_reducible assumption | with_reducible apply below_drewN | with_reducible apply Below.drew | with_reducible apply Below.setCell | with_reducible apply Below.alloc | (simp; done) | omega | (simp; omega)))))).mono ?_; rintro e w2 ⟨⟨S2, c2, rfl, hm2, hf2⟩, hb2⟩))
    refine bodyPost_ret (v := .tuple #[.int .u32 0, .slice S2 n c2, .int .i64 5]) (by first | rfl | simp [results, go_sem]) rfl ⟨⟨S2, c2, rfl, hm2, (fresh_of hf2).le (by simp)⟩, below_step (by (repeat' (first | with_reducible exact Below.refl _ _ | with_reducible assumption | with_reducible apply below_drewN | with_reducible apply Below.drew | with_reducible apply Below.setCell | with_reducible apply Below.alloc | (simp; done) | omega | (simp; omega)))) hb2⟩
theorem resolve_mis (L : List Int) (S : Option Addr) (n c : Nat) (l : List Int) (va size a : Int) (w : World) (hL : C25 L) (hm : Mem w S n c l) (v0 : 0 ≤ va) (v1 : va ≤ 4294967295) (ha : a = 1 ∨ a = 2 ∨ a = 3) (hs : size = 1 ∨ size = 4) (hz : ¬ va % size = 0) :
    Calls Tryd.prog 37 #[cpV L, .slice S n c, .int .u32 va, .int .i64 size, .int .i64 a] w (RsPost n 0 3 l w) := by
  have HCA := Lib.hid (fun W => cause_cpu a W)
  have HCL := Lib.hid (fun W (hM : Mem W S n c l) => clone_any S n c l W hM)
  rw [decide_eq_true ha, if_pos ha] at HCA
  generalize cauN a = C at *
  clear ha
  rcases hs with rfl | rfl
  · omega
  · go_enter Tryd.func37, Tryd.ntmps37
    go_wp2_with (first
      | (refine wpList_box_box rfl _ rfl rfl ?_; simp only [Act.put, List.setIfInBounds_toArray, List.set_cons_zero, List.set_cons_succ])
      | (go_at_call 65; refine (HCA.out _).mono ?_; rintro e w1 ⟨rfl, rfl⟩)
      | (go_at_call 66; refine (HCL.out _ (hm.on (by (repeat' (first | with_reducible exact Below.refl _ _ | with_reducible assumption | with_reducible apply below_drewN | with_reducible apply Below.drew | with_reducible apply Below.setCell | with_reducible apply Below.alloc | (simp; done) | omega | (simp; omega)))))).mono ?_; rintro e w2 ⟨⟨S2, c2, rfl, hm2, hf2⟩, hb2⟩))
    refine bodyPost_ret (v := .tuple #[.int .u32 0, .slice S2 n c2, .int .i64 3]) (by first | rfl | simp [results, go_sem]) rfl ⟨⟨S2, c2, rfl, hm2, (fresh_of hf2).le (by simp)⟩, below_step (by (repeat' (first | with_reducible exact Below.refl _ _ | with_reducible assumption | with_reducible apply below_drewN | with_reducible apply Below.drew | with_reducible apply Below.setCell | with_reducible apply Below.alloc | (simp; done) | omega | (simp; omega)))) hb2⟩
set_option maxHeartbeats 1000000 in
theorem resolve_paged (L : List Int) (S : Option Addr) (n c : Nat) (l : List Int) (va size a A C : Int) (l' : List Int) (w : World) (hL : C25 L) (hm : Mem w S n c l) (v0 : 0 ≤ va) (v1 : va ≤ 4294967295) (ha : a = 1 ∨ a = 2 ∨ a = 3) (hs : size = 1 ∨ size = 4) (hz : va % size = 0) (hp : pgB L = true)
    (HT : ∀ W, Mem W S n c l → Calls Tryd.prog 68 #[.int .u32 (wd L 23), .slice S n c, .int .u32 va, .int .i64 a] W (RsPost n A C l' W)) :
    Calls Tryd.prog 37 #[cpV L, .slice S n c, .int .u32 va, .int .i64 size, .int .i64 a] w (RsPost n A C l' w) := by
  have HCA := Lib.hid (fun W => cause_cpu a W)
  have HTR := Lib.hid (fun W => translates_any L W hL)
  rw [hp] at HTR
  have HT := Lib.hid HT
  rw [decide_eq_true ha, if_pos ha] at HCA
  generalize cauN a = C1 at *
  have hLL := hL.1
  clear ha hp
  obtain ⟨F1, F2, F3, -⟩ := cw_facts
  rcases hs with rfl | rfl
  all_goals
    go_enter Tryd.func37, Tryd.ntmps37
    go_wp2_with (first
      | (refine wpList_box_box rfl _ rfl rfl ?_; simp only [Act.put, List.setIfInBounds_toArray, List.set_cons_zero, List.set_cons_succ])
      | (refine wpList_load_look rfl _ rfl _ rfl (fun ob hob => ?_); simp [look_alloc, look_setRow, look_drew, look_drewN, look_setCell, Nat.add_assoc, *] at hob; subst hob; refine ⟨_, rfl, by (first | with_reducible assumption | (simp only [List.length_set]; with_reducible assumption) | exact Z25_len), ?_⟩; simp only [Act.put, List.setIfInBounds_toArray, List.set_cons_zero, List.set_cons_succ])
      | (go_at_call 65; refine (HCA.out _).mono ?_; rintro e w1 ⟨rfl, rfl⟩))
    refine (HTR.out _).mono ?_
    rintro e w2 ⟨rfl, hb⟩
    have bel : Below w.heap.size w w2 := Below.trans (by (repeat' (first | with_reducible exact Below.refl _ _ | with_reducible assumption | with_reducible apply below_drewN | with_reducible apply Below.drew | with_reducible apply Below.setCell | with_reducible apply Below.alloc | (simp; done) | omega | (simp; omega)))) (hb.mono (by simp))
    have X2 := hb.cell (p := ⟨w.heap.size, 23, none⟩) (by simp)
    simp [F2, hLL] at X2
    have hm2 := hm.on bel
    clear hb
    go_wp2_with (go_at_call 68; refine (HT.out _ hm2).mono ?_; rintro e w3 ⟨⟨S3, c3, rfl, hm3, hf3⟩, hb3⟩)
    refine bodyPost_ret (v := .tuple #[.int .u32 A, .slice S3 n c3, .int .i64 C]) (by first | rfl | simp [results, go_sem]) rfl ⟨⟨S3, c3, rfl, hm3, hf3.le bel.size⟩, below_step bel hb3⟩
set_option maxHeartbeats 1000000 in
theorem resolve_phys (L : List Int) (S : Option Addr) (n c : Nat) (l : List Int) (va size a : Int) (w : World) (hL : C25 L) (hm : Mem w S n c l) (v0 : 0 ≤ va) (v1 : va ≤ 4294967295) (ha : a = 1 ∨ a = 2 ∨ a = 3) (hs : size = 1 ∨ size = 4) (hz : va % size = 0) (hp : pgB L = false) (ho : okB n va size = true) :
    Calls Tryd.prog 37 #[cpV L, .slice S n c, .int .u32 va, .int .i64 size, .int .i64 a] w (RsPost n va 0 l w) := by
  have HCA := Lib.hid (fun W => cause_cpu a W)
  have HTR := Lib.hid (fun W => translates_any L W hL)
  have HLD := Lib.hid (fun W (hM : Mem W S n c l) => load_yes S n c l va size W hM v0 v1 ho)
  have HCL := Lib.hid (fun W (hM : Mem W S n c l) => clone_any S n c l W hM)
  rw [hp] at HTR
  rw [decide_eq_true ha, if_pos ha] at HCA
  generalize cauN a = C1 at *
  generalize ldV l va size = X at *
  have hLL := hL.1
  clear ha hp ho
  obtain ⟨F1, F2, F3, -⟩ := cw_facts
  rcases hs with rfl | rfl
  all_goals
    go_enter Tryd.func37, Tryd.ntmps37
    go_wp2_with (first
      | (refine wpList_box_box rfl _ rfl rfl ?_; simp only [Act.put, List.setIfInBounds_toArray, List.set_cons_zero, List.set_cons_succ])
      | (refine wpList_load_look rfl _ rfl _ rfl (fun ob hob => ?_); simp [look_alloc, look_setRow, look_drew, look_drewN, look_setCell, Nat.add_assoc, *] at hob; subst hob; refine ⟨_, rfl, by (first | with_reducible assumption | (simp only [List.length_set]; with_reducible assumption) | exact Z25_len), ?_⟩; simp only [Act.put, List.setIfInBounds_toArray, List.set_cons_zero, List.set_cons_succ])
      | (go_at_call 65; refine (HCA.out _).mono ?_; rintro e w1 ⟨rfl, rfl⟩))
    refine (HTR.out _).mono ?_
    rintro e w2 ⟨rfl, hb⟩
    have bel : Below w.heap.size w w2 := Below.trans (by (repeat' (first | with_reducible exact Below.refl _ _ | with_reducible assumption | with_reducible apply below_drewN | with_reducible apply Below.drew | with_reducible apply Below.setCell | with_reducible apply Below.alloc | (simp; done) | omega | (simp; omega)))) (hb.mono (by simp))
    have hm2 := hm.on bel
    clear hb
    go_wp2_with (first
      | (go_at_call 38; refine (HLD.out _ hm2).mono ?_; rintro e w3 ⟨rfl, m3, rfl⟩)
      | (go_at_call 66; refine (HCL.out _ (hm2.drewN m3)).mono ?_; rintro e w4 ⟨⟨S4, c4, rfl, hm4, hf4⟩, hb4⟩))
    refine bodyPost_ret (v := .tuple #[.int .u32 va, .slice S4 n c4, .int .i64 0]) (by first | rfl | simp [results, go_sem]) rfl ⟨⟨S4, c4, rfl, hm4, (fresh_of hf4).le bel.size⟩, below_step (below_drewN bel m3) hb4⟩
set_option maxHeartbeats 1000000 in
theorem resolve_out (L : List Int) (S : Option Addr) (n c : Nat) (l : List Int) (va size a : Int) (w : World) (hL : C25 L) (hm : Mem w S n c l) (v0 : 0 ≤ va) (v1 : va ≤ 4294967295) (ha : a = 1 ∨ a = 2 ∨ a = 3) (hs : size = 1 ∨ size = 4) (hz : va % size = 0) (hp : pgB L = false) (ho : okB n va size = false) :
    Calls Tryd.prog 37 #[cpV L, .slice S n c, .int .u32 va, .int .i64 size, .int .i64 a] w (RsPost n 0 (cauN a) l w) := by
  have HCA := Lib.hid (fun W => cause_cpu a W)
  have HTR := Lib.hid (fun W => translates_any L W hL)
  have hn := hm.2.2.1
  have HLD := Lib.hid (fun W => load_no S n c va size W hn v0 v1 ho)
  have HCL := Lib.hid (fun W (hM : Mem W S n c l) => clone_any S n c l W hM)
  rw [hp] at HTR
  rw [decide_eq_true ha, if_pos ha] at HCA
  generalize cauN a = C1 at *
  have hLL := hL.1
  clear ha hp ho
  obtain ⟨F1, F2, F3, -⟩ := cw_facts
  rcases hs with rfl | rfl
  all_goals
    go_enter Tryd.func37, Tryd.ntmps37
    go_wp2_with (first
      | (refine wpList_box_box rfl _ rfl rfl ?_; simp only [Act.put, List.setIfInBounds_toArray, List.set_cons_zero, List.set_cons_succ])
      | (refine wpList_load_look rfl _ rfl _ rfl (fun ob hob => ?_); simp [look_alloc, look_setRow, look_drew, look_drewN, look_setCell, Nat.add_assoc, *] at hob; subst hob; refine ⟨_, rfl, by (first | with_reducible assumption | (simp only [List.length_set]; with_reducible assumption) | exact Z25_len), ?_⟩; simp only [Act.put, List.setIfInBounds_toArray, List.set_cons_zero, List.set_cons_succ])
      | (go_at_call 65; refine (HCA.out _).mono ?_; rintro e w1 ⟨rfl, rfl⟩))
    refine (HTR.out _).mono ?_
    rintro e w2 ⟨rfl, hb⟩
    have bel : Below w.heap.size w w2 := Below.trans (by (repeat' (first | with_reducible exact Below.refl _ _ | with_reducible assumption | with_reducible apply below_drewN | with_reducible apply Below.drew | with_reducible apply Below.setCell | with_reducible apply Below.alloc | (simp; done) | omega | (simp; omega)))) (hb.mono (by simp))
    have hm2 := hm.on bel
    clear hb
    go_wp2_with (first
      | (go_at_call 38; refine (HLD.out _).mono ?_; rintro e w3 ⟨rfl, m3, rfl⟩)
      | (go_at_call 66; refine (HCL.out _ (hm2.drewN m3)).mono ?_; rintro e w4 ⟨⟨S4, c4, rfl, hm4, hf4⟩, hb4⟩))
    refine bodyPost_ret (v := .tuple #[.int .u32 0, .slice S4 n c4, .int .i64 C1]) (by first | rfl | simp [results, go_sem]) rfl ⟨⟨S4, c4, rfl, hm4, (fresh_of hf4).le bel.size⟩, below_step (below_drewN bel m3) hb4⟩
/-- Resolve, whole. -/
theorem resolve_any (L : List Int) (S : Option Addr) (n c : Nat) (l : List Int) (va size a : Int) (w : World) (hL : C25 L) (hm : Mem w S n c l) (v0 : 0 ≤ va) (v1 : va ≤ 4294967295) :
    Calls Tryd.prog 37 #[cpV L, .slice S n c, .int .u32 va, .int .i64 size, .int .i64 a] w (RsPost n (rsA n l L va size a) (rsC n l L va size a) (rsL n l L va size a) w) := by
  unfold rsA rsL
  by_cases h : (a = 1 ∨ a = 2 ∨ a = 3) ∧ (size = 1 ∨ size = 4)
  · by_cases hz : va % size = 0
    · cases hp : pgB L with
      | true =>
        have hr := hL.bd 23
        have e : rsC n l L va size a = wkC n l (wd L 23) va a := by unfold rsC; rw [if_pos h, if_pos hz, if_pos hp]
        rw [e]
        by_cases h0 : wkC n l (wd L 23) va a = 0
        · rw [if_pos h0, if_pos rfl, if_pos ⟨h0, rfl⟩, h0]
          exact resolve_paged L S n c l va size a _ _ _ w hL hm v0 v1 h.1 h.2 hz hp (fun W hM => translate_yes S n c l (wd L 23) va a W hM hr.1 hr.2 v0 v1 h0)
        · rw [if_neg h0, if_neg (fun hh => h0 hh.1)]
          exact resolve_paged L S n c l va size a _ _ _ w hL hm v0 v1 h.1 h.2 hz hp (fun W hM => translate_no S n c l (wd L 23) va a _ W hM hr.1 hr.2 v0 v1 rfl h0)
      | false =>
        have e : rsC n l L va size a = if okB n va size = true then 0 else cauN a := by unfold rsC; rw [if_pos h, if_pos hz, hp]; rfl
        rw [e]
        cases ho : okB n va size with
        | true => exact resolve_phys L S n c l va size a w hL hm v0 v1 h.1 h.2 hz hp ho
        | false =>
          have hc : ¬ cauN a = 0 := by unfold cauN; split; omega; split <;> omega
          rw [if_neg (show ¬ (false = true) by simp), if_neg hc, if_neg (fun hh => hc hh.1)]
          exact resolve_out L S n c l va size a w hL hm v0 v1 h.1 h.2 hz hp ho
    · have e : rsC n l L va size a = 3 := by unfold rsC; rw [if_pos h, if_neg hz]
      rw [e]
      exact resolve_mis L S n c l va size a w hL hm v0 v1 h.1 h.2 hz
  · have e : rsC n l L va size a = 5 := by unfold rsC; rw [if_neg h]
    rw [e]
    exact resolve_bad L S n c l va size a w hL hm h
/-- What a fetch gives. -/
def FtPost (n : Nat) (W C : Int) (l : List Int) (w : World) (e : Ending) (w' : World) : Prop := (∃ S c, e = .returned (.tuple #[.int .u32 W, .slice S n c, .int .i64 C]) ∧ Mem w' S n c l ∧ Fresh w.heap.size S n) ∧ Below w.heap.size w w'
theorem fetch_any (L : List Int) (S : Option Addr) (n c : Nat) (l : List Int) (w : World) (hL : C25 L) (hm : Mem w S n c l) :
    Calls Tryd.prog 20 #[cpV L, .slice S n c] w (FtPost n (ftW n l L) (ftC n l L) (ftL n l L) w) := by
  have hp := hL.bd 16
  have hLL := hL.1
  have HR := Lib.hid (fun W (hM : Mem W S n c l) => resolve_any L S n c l (wd L 16) 4 1 W hL hM hp.1 hp.2)
  by_cases h0 : ftC n l L = 0
  · have HK := Lib.hid (rsA_ok hp.1 h0)
    have HA : okB n (rsA n l L (wd L 16) 4 1) 4 = true ∧ 0 ≤ rsA n l L (wd L 16) 4 1 ∧ rsA n l L (wd L 16) 4 1 ≤ 4294967295 := by
      rcases HK.out with h | ⟨_, h, h'⟩
      · exact h
      · rw [h]; exact ⟨h', hp.1, hp.2⟩
    have HV := Lib.hid (show ldV (ftL n l L) (rsA n l L (wd L 16) 4 1) 4 = ftW n l L by unfold ftW; rw [if_pos h0]; rfl)
    rw [h0]
    have h0' : rsC n l L (wd L 16) 4 1 = 0 := h0
    rw [h0'] at HR
    have HLD := Lib.hid (fun W S' c' (hM : Mem W S' n c' (ftL n l L)) => load_yes S' n c' (ftL n l L) (rsA n l L (wd L 16) 4 1) 4 W hM HA.2.1 HA.2.2 HA.1)
    rw [HV.out] at HLD
    replace HR : Hid (∀ W, Mem W S n c l → Calls Tryd.prog 37 #[cpV L, .slice S n c, .int .u32 (wd L 16), .int .i64 4, .int .i64 1] W (RsPost n (rsA n l L (wd L 16) 4 1) 0 (ftL n l L) W)) := HR
    clear HK HV h0 h0' HA
    generalize rsA n l L (wd L 16) 4 1 = A at *
    generalize ftL n l L = l' at *
    generalize ftW n l L = X at *
    obtain ⟨F1, F2, F3, -⟩ := cw_facts
    go_enter Tryd.func20, Tryd.ntmps20
    go_wp2_with (first
      | (refine wpList_box_box rfl _ rfl rfl ?_; simp only [Act.put, List.setIfInBounds_toArray, List.set_cons_zero, List.set_cons_succ])
      | (refine wpList_load_look rfl _ rfl _ rfl (fun ob hob => ?_); simp [look_alloc, look_setRow, look_drew, look_drewN, look_setCell, Nat.add_assoc, *] at hob; subst hob; refine ⟨_, rfl, by (first | with_reducible assumption | (simp only [List.length_set]; with_reducible assumption) | exact Z25_len), ?_⟩; simp only [Act.put, List.setIfInBounds_toArray, List.set_cons_zero, List.set_cons_succ])
      | (go_at_call 37; refine (HR.out _ (hm.on (by (repeat' (first | with_reducible exact Below.refl _ _ | with_reducible assumption | with_reducible apply below_drewN | with_reducible apply Below.drew | with_reducible apply Below.setCell | with_reducible apply Below.alloc | (simp; done) | omega | (simp; omega)))))).mono ?_; rintro e w1 ⟨⟨S1, c1, rfl, hm1, hf1⟩, hb1⟩)
      | (go_at_call 38; refine (HLD.out _ _ _ hm1).mono ?_; rintro e w2 ⟨rfl, m2, rfl⟩))
    refine bodyPost_ret (v := .tuple #[.int .u32 X, .slice S1 n c1, .int .i64 0]) (by first | rfl | simp [results, go_sem]) rfl ⟨⟨S1, c1, rfl, hm1.drewN m2, hf1.le (by simp)⟩, below_drewN (Below.trans (by (repeat' (first | with_reducible exact Below.refl _ _ | with_reducible assumption | with_reducible apply below_drewN | with_reducible apply Below.drew | with_reducible apply Below.setCell | with_reducible apply Below.alloc | (simp; done) | omega | (simp; omega)))) (hb1.mono (by simp))) m2⟩
  · have HW := Lib.hid (show ftW n l L = 0 by unfold ftW; rw [if_neg h0])
    rw [HW.out]
    have HA : rsA n l L (wd L 16) 4 1 = 0 := by unfold rsA; exact if_neg h0
    rw [HA] at HR
    replace HR : Hid (∀ W, Mem W S n c l → Calls Tryd.prog 37 #[cpV L, .slice S n c, .int .u32 (wd L 16), .int .i64 4, .int .i64 1] W (RsPost n 0 (ftC n l L) (ftL n l L) W)) := HR
    clear HW HA
    generalize ftC n l L = C at *
    generalize ftL n l L = l' at *
    obtain ⟨F1, F2, F3, -⟩ := cw_facts
    go_enter Tryd.func20, Tryd.ntmps20
    go_wp2_with (first
      | (refine wpList_box_box rfl _ rfl rfl ?_; simp only [Act.put, List.setIfInBounds_toArray, List.set_cons_zero, List.set_cons_succ])
      | (refine wpList_load_look rfl _ rfl _ rfl (fun ob hob => ?_); simp [look_alloc, look_setRow, look_drew, look_drewN, look_setCell, Nat.add_assoc, *] at hob; subst hob; refine ⟨_, rfl, by (first | with_reducible assumption | (simp only [List.length_set]; with_reducible assumption) | exact Z25_len), ?_⟩; simp only [Act.put, List.setIfInBounds_toArray, List.set_cons_zero, List.set_cons_succ])
      | (go_at_call 37; refine (HR.out _ (hm.on (by (repeat' (first | with_reducible exact Below.refl _ _ | with_reducible assumption | with_reducible apply below_drewN | with_reducible apply Below.drew | with_reducible apply Below.setCell | with_reducible apply Below.alloc | (simp; done) | omega | (simp; omega)))))).mono ?_; rintro e w1 ⟨⟨S1, c1, rfl, hm1, hf1⟩, hb1⟩))
    refine bodyPost_ret (v := .tuple #[.int .u32 0, .slice S1 n c1, .int .i64 C]) (by first | rfl | simp [results, go_sem]) rfl ⟨⟨S1, c1, rfl, hm1, hf1.le (by simp)⟩, Below.trans (by (repeat' (first | with_reducible exact Below.refl _ _ | with_reducible assumption | with_reducible apply below_drewN | with_reducible apply Below.drew | with_reducible apply Below.setCell | with_reducible apply Below.alloc | (simp; done) | omega | (simp; omega)))) (hb1.mono (by simp))⟩
end Go.Proofs.YtfnfbdjbdbifaaaDoor
