import Derived.Test.YtkilbakghacooaaDvBas
namespace Go.Proofs.Ytkilbakghacooaa
set_option linter.unusedVariables false
set_option linter.unusedSimpArgs false
set_option maxRecDepth 20000
open Go.ChangeShapes Go.WideShapes Go.ChangeAt Go.RowKit Go.Proofs.Ytkilbakghacooaa.Num Go.Proofs.Ytkilbakghacooaa.Mem
/- The network card: values, its cells, what the reference gives. -/
/-- A card: frame, length, posted, the buffer, received, the length received. -/
def ncV (F L : Int) (P : Bool) (B : Int) (R : Bool) (G : Int) : Value := .agg #[.int .u32 F, .int .u32 L, .bool P, .int .u32 B, .bool R, .int .u32 G]
/-- The value of a port. -/
def ncIn (F : Int) (P R : Bool) (G p : Int) : Int := if p = 7 then F else if p = 8 then G else if p = 9 then (if P then 1 else 0) + (if R then 2 else 0) else 0
/-- Whether a card of a machine may be in this state. -/
def ncMay (P : Bool) (B : Int) (R : Bool) (G p : Int) : Bool :=
  decide (¬ (P = true ∧ R = true) ∧ (P = true → B < p) ∧ (¬ P = true → B = 0) ∧ (R = true → 1 ≤ G ∧ G ≤ 128) ∧ (¬ R = true → G = 0))
theorem ret_u32N {a b : Int} (h : a = b) : Ending.returned (.int .u32 a) = .returned (.int .u32 b) := by rw [h]
/-- The six cells of a card in a block. -/
structure InN (w : World) (b : Nat) (F L : Int) (P : Bool) (B : Int) (R : Bool) (G : Int) : Prop where
  c0 : w.cell? ⟨b, 0, none⟩ = some (.int .u32 F)
  c1 : w.cell? ⟨b, 1, none⟩ = some (.int .u32 L)
  c2 : w.cell? ⟨b, 2, none⟩ = some (.bool P)
  c3 : w.cell? ⟨b, 3, none⟩ = some (.int .u32 B)
  c4 : w.cell? ⟨b, 4, none⟩ = some (.bool R)
  c5 : w.cell? ⟨b, 5, none⟩ = some (.int .u32 G)
  z : ∀ i, w.frozen? ⟨b, i, none⟩ = false
theorem InN.lt {w : World} {b : Nat} {F L : Int} {P : Bool} {B : Int} {R : Bool} {G : Int} (h : InN w b F L P B R G) : b < w.heap.size := World.block_lt_of_cell? w _ h.c0
theorem InN.on {w w' : World} {b : Nat} {F L : Int} {P : Bool} {B : Int} {R : Bool} {G : Int} (h : InN w b F L P B R G) (hb : Below w.heap.size w w') : InN w' b F L P B R G := ⟨stillI h.c0 hb, stillI h.c1 hb, stillI h.c2 hb, stillI h.c3 hb, stillI h.c4 hb, stillI h.c5 hb, fun i => (hb.frozen (p := ⟨b, i, none⟩) h.lt).trans (h.z i)⟩
theorem InN.alloc {w : World} {b : Nat} {F L : Int} {P : Bool} {B : Int} {R : Bool} {G : Int} (h : InN w b F L P B R G) (o : Obj) : InN (w.alloc o) b F L P B R G := h.on ((Below.refl _ _).alloc (Nat.le_refl _) o)
theorem InN.drewN {w : World} {b : Nat} {F L : Int} {P : Bool} {B : Int} {R : Bool} {G : Int} (h : InN w b F L P B R G) (j : Nat) : InN (w.drewN j) b F L P B R G := h.on (below_drewN (Below.refl _ _) j)
theorem InN.drew {w : World} {b : Nat} {F L : Int} {P : Bool} {B : Int} {R : Bool} {G : Int} (h : InN w b F L P B R G) : InN w.drew b F L P B R G := h.on ((Below.refl _ _).drew)
theorem InN.new (w : World) (F L : Int) (P : Bool) (B : Int) (R : Bool) (G : Int) (ty : TypeId) : InN (w.alloc (.cells #[.int .u32 F, .int .u32 L, .bool P, .int .u32 B, .bool R, .int .u32 G] ty)) w.heap.size F L P B R G := ⟨by simp [go_sem], by simp [go_sem], by simp [go_sem], by simp [go_sem], by simp [go_sem], by simp [go_sem], fun i => by simp [go_sem]⟩
/-- What a port write gives: the card, the outputs. -/
def NutPost (F L : Int) (P : Bool) (B : Int) (R : Bool) (G : Int) (o : Option (Int × Int × Int × ByteArray)) (w : World) (e : Ending) (w' : World) : Prop :=
  (∃ sl, e = .returned (.tuple #[ncV F L P B R G, sl]) ∧ Outs w.heap.size w' sl o) ∧ Below w.heap.size w w'
theorem ncIn_ref (F L : Int) (P : Bool) (B : Int) (R : Bool) (G : Int) (p : Int) (w : World) :
    Calls Try.prog 14 #[ncV F L P B R G, .int .i64 p] w fun e w' => e = .returned (.int .u32 (ncIn F P R G p)) ∧ Below w.heap.size w w' := by
  unfold ncV
  cases P <;> cases R
  all_goals
    go_enter Try.func14, Try.ntmps14
    go_wp2
    all_goals go_ret
    all_goals exact ⟨ret_u32N (by simp_all [ncIn]), by (repeat' (first | with_reducible exact Below.refl _ _ | with_reducible assumption | with_reducible apply below_drewN | with_reducible apply Below.drew | with_reducible apply Below.setCell | with_reducible apply Below.alloc | (simp; done) | omega | (simp; omega)))⟩
theorem ncPend_ref (F L : Int) (P : Bool) (B : Int) (R : Bool) (G : Int)  (w : World) :
    Calls Try.prog 23 #[ncV F L P B R G] w fun e w' => e = .returned (.bool R) ∧ Below w.heap.size w w' := by
  unfold ncV
  go_enter Try.func23, Try.ntmps23
  go_wp2
  all_goals go_ret
  all_goals exact ⟨rfl, by (repeat' (first | with_reducible exact Below.refl _ _ | with_reducible assumption | with_reducible apply below_drewN | with_reducible apply Below.drew | with_reducible apply Below.setCell | with_reducible apply Below.alloc | (simp; done) | omega | (simp; omega)))⟩
set_option maxHeartbeats 1000000 in
theorem ncMay_ref (F L : Int) (P : Bool) (B : Int) (R : Bool) (G : Int) (p : Int) (b0 : 0 ≤ B) (b1 : B ≤ 4294967295) (g0 : 0 ≤ G) (w : World) :
    Calls Try.prog 25 #[ncV F L P B R G, .int .i64 p] w fun e w' => e = .returned (.bool (ncMay P B R G p)) ∧ Below w.heap.size w w' := by
  unfold ncV
  have HB : Hid (∀ b : Bool, (b = true ↔ (¬ (P = true ∧ R = true) ∧ (P = true → B < p) ∧ (¬ P = true → B = 0) ∧ (R = true → 1 ≤ G ∧ G ≤ 128) ∧ (¬ R = true → G = 0))) → b = ncMay P B R G p) := fun b h => by
    unfold ncMay; rw [Bool.eq_iff_iff, decide_eq_true_iff]; exact h
  generalize ncMay P B R G p = M at *
  cases P <;> cases R
  all_goals
    go_enter Try.func25, Try.ntmps25
    go_wp2
    all_goals go_ret
    all_goals refine ⟨ret_bool (HB.out _ ?_), by (repeat' (first | with_reducible exact Below.refl _ _ | with_reducible assumption | with_reducible apply below_drewN | with_reducible apply Below.drew | with_reducible apply Below.setCell | with_reducible apply Below.alloc | (simp; done) | omega | (simp; omega)))⟩
    all_goals (simp only [Bool.false_eq_true, false_iff, beq_iff_eq, bne_iff_ne, bne_eq_false_iff_eq, beq_eq_false_iff_ne, decide_eq_true_eq, decide_eq_false_iff_not, true_iff, ne_eq, not_true, not_false_iff, true_and, false_and, and_true, true_implies, false_implies, and_false] at *)
    all_goals omega
theorem ncOut_frame (F L : Int) (P : Bool) (B : Int) (R : Bool) (G : Int) (A : Option Addr) (n c : Nat) (p v a : Int) (hp : p = 7) (w : World) :
    Calls Try.prog 12 #[ncV F L P B R G, .slice A n c, .int .i64 p, .int .u32 v, .int .u64 a] w (NutPost v L P B R G none w) := by
  unfold ncV
  subst hp
  go_enter Try.func12, Try.ntmps12
  go_wp2_with (first | go_skip | fail)
  all_goals refine bodyPost_ret (v := .tuple #[.agg #[.int .u32 (v), .int .u32 (L), .bool P, .int .u32 (B), .bool R, .int .u32 (G)], .slice none 0 0]) (by rw [results_cell_tmp rfl]; go_simp) rfl ⟨⟨_, rfl, rfl⟩, by (repeat' (first | with_reducible exact Below.refl _ _ | with_reducible assumption | with_reducible apply below_drewN | with_reducible apply Below.drew | with_reducible apply Below.setCell | with_reducible apply Below.alloc | (simp; done) | omega | (simp; omega)))⟩
theorem ncOut_len (F L : Int) (P : Bool) (B : Int) (R : Bool) (G : Int) (A : Option Addr) (n c : Nat) (p v a : Int) (hp : p = 8) (w : World) :
    Calls Try.prog 12 #[ncV F L P B R G, .slice A n c, .int .i64 p, .int .u32 v, .int .u64 a] w (NutPost F v P B R G none w) := by
  unfold ncV
  subst hp
  go_enter Try.func12, Try.ntmps12
  go_wp2_with (first | go_skip | fail)
  all_goals refine bodyPost_ret (v := .tuple #[.agg #[.int .u32 (F), .int .u32 (v), .bool P, .int .u32 (B), .bool R, .int .u32 (G)], .slice none 0 0]) (by rw [results_cell_tmp rfl]; go_simp) rfl ⟨⟨_, rfl, rfl⟩, by (repeat' (first | with_reducible exact Below.refl _ _ | with_reducible assumption | with_reducible apply below_drewN | with_reducible apply Below.drew | with_reducible apply Below.setCell | with_reducible apply Below.alloc | (simp; done) | omega | (simp; omega)))⟩
theorem ncOut_other (F L : Int) (P : Bool) (B : Int) (R : Bool) (G : Int) (A : Option Addr) (n c : Nat) (p v a : Int) (h4 : ¬ p = 7) (h5 : ¬ p = 8) (h6 : ¬ p = 9) (w : World) :
    Calls Try.prog 12 #[ncV F L P B R G, .slice A n c, .int .i64 p, .int .u32 v, .int .u64 a] w (NutPost F L P B R G none w) := by
  unfold ncV
  have e4 : (p == 7) = false := by rw [beq_eq_false_iff_ne]; omega
  have e5 : (p == 8) = false := by rw [beq_eq_false_iff_ne]; omega
  have e6 : (p != 9) = true := by simp; omega
  go_enter Try.func12, Try.ntmps12
  go_wp2_with (first | go_skip | fail)
  all_goals refine bodyPost_ret (v := .tuple #[.agg #[.int .u32 (F), .int .u32 (L), .bool P, .int .u32 (B), .bool R, .int .u32 (G)], .slice none 0 0]) (by rw [results_cell_tmp rfl]; go_simp) rfl ⟨⟨_, rfl, rfl⟩, by (repeat' (first | with_reducible exact Below.refl _ _ | with_reducible assumption | with_reducible apply below_drewN | with_reducible apply Below.drew | with_reducible apply Below.setCell | with_reducible apply Below.alloc | (simp; done) | omega | (simp; omega)))⟩
theorem ncOut_ack (F L : Int) (P : Bool) (B : Int) (R : Bool) (G : Int) (A : Option Addr) (n c : Nat) (v a : Int) (hv : v = 0) (w : World) :
    Calls Try.prog 12 #[ncV F L P B R G, .slice A n c, .int .i64 9, .int .u32 v, .int .u64 a] w (NutPost F L P B false 0 none w) := by
  unfold ncV
  subst hv
  go_enter Try.func12, Try.ntmps12
  go_wp2_with (first | go_skip | fail)
  all_goals refine bodyPost_ret (v := .tuple #[.agg #[.int .u32 (F), .int .u32 (L), .bool P, .int .u32 (B), .bool false, .int .u32 (0)], .slice none 0 0]) (by rw [results_cell_tmp rfl]; go_simp) rfl ⟨⟨_, rfl, rfl⟩, by (repeat' (first | with_reducible exact Below.refl _ _ | with_reducible assumption | with_reducible apply below_drewN | with_reducible apply Below.drew | with_reducible apply Below.setCell | with_reducible apply Below.alloc | (simp; done) | omega | (simp; omega)))⟩
theorem ncOut_x (F L : Int) (P : Bool) (B : Int) (R : Bool) (G : Int) (A : Option Addr) (n c : Nat) (v a : Int) (h0 : ¬ v = 0) (h1 : ¬ v = 1) (h2 : ¬ v = 2) (w : World) :
    Calls Try.prog 12 #[ncV F L P B R G, .slice A n c, .int .i64 9, .int .u32 v, .int .u64 a] w (NutPost F L P B R G none w) := by
  unfold ncV
  have e0 : (v == 0) = false := by rw [beq_eq_false_iff_ne]; exact h0
  have e1 : (v == 1) = false := by rw [beq_eq_false_iff_ne]; exact h1
  have e2 : (v == 2) = false := by rw [beq_eq_false_iff_ne]; exact h2
  go_enter Try.func12, Try.ntmps12
  go_wp2_with (first | go_skip | fail)
  all_goals refine bodyPost_ret (v := .tuple #[.agg #[.int .u32 (F), .int .u32 (L), .bool P, .int .u32 (B), .bool R, .int .u32 (G)], .slice none 0 0]) (by rw [results_cell_tmp rfl]; go_simp) rfl ⟨⟨_, rfl, rfl⟩, by (repeat' (first | with_reducible exact Below.refl _ _ | with_reducible assumption | with_reducible apply below_drewN | with_reducible apply Below.drew | with_reducible apply Below.setCell | with_reducible apply Below.alloc | (simp; done) | omega | (simp; omega)))⟩
theorem ncOut_post (F L : Int) (P : Bool) (B : Int) (R : Bool) (G : Int) (A : Option Addr) (n c : Nat) (v a : Int) (hn : n ≤ 1024) (F0 : 0 ≤ F) (F1 : F ≤ 4294967295) (hv : v = 2) (hP : P = false) (hR : R = false) (hF : F < pagesN n) (w : World) :
    Calls Try.prog 12 #[ncV F L P B R G, .slice A n c, .int .i64 9, .int .u32 v, .int .u64 a] w (NutPost F L true F R G none w) := by
  unfold ncV
  subst hv hP hR
  have HPG := Lib.hid (fun W => dkPage_ref A n c F W hn F0 F1)
  rw [decide_eq_true hF] at HPG
  go_enter Try.func12, Try.ntmps12
  go_wp2_with (first | go_skip | (go_at_call 31; (with_reducible refine (HPG.out _).mono ?_); rintro e w1 ⟨rfl, m1, rfl⟩))
  all_goals refine bodyPost_ret (v := .tuple #[.agg #[.int .u32 (F), .int .u32 (L), .bool true, .int .u32 (F), .bool false, .int .u32 (G)], .slice none 0 0]) (by rw [results_cell_tmp rfl]; go_simp) rfl ⟨⟨_, rfl, rfl⟩, by (repeat' (first | with_reducible exact Below.refl _ _ | with_reducible assumption | with_reducible apply below_drewN | with_reducible apply Below.drew | with_reducible apply Below.setCell | with_reducible apply Below.alloc | (simp; done) | omega | (simp; omega)))⟩
theorem ncOut_nopost (F L : Int) (P : Bool) (B : Int) (R : Bool) (G : Int) (A : Option Addr) (n c : Nat) (v a : Int) (hn : n ≤ 1024) (F0 : 0 ≤ F) (F1 : F ≤ 4294967295) (hv : v = 2) (ho : ¬ (F < pagesN n ∧ P = false ∧ R = false)) (w : World) :
    Calls Try.prog 12 #[ncV F L P B R G, .slice A n c, .int .i64 9, .int .u32 v, .int .u64 a] w (NutPost F L P B R G none w) := by
  unfold ncV
  subst hv
  have HPG := Lib.hid (fun W => dkPage_ref A n c F W hn F0 F1)
  by_cases hF : F < pagesN n
  · rw [decide_eq_true hF] at HPG
    have hc : P = true ∨ P = false ∧ R = true := by cases P <;> cases R <;> simp_all
    clear ho
    rcases hc with rfl | ⟨rfl, rfl⟩
    all_goals
      go_enter Try.func12, Try.ntmps12
      go_wp2_with (first | go_skip | (go_at_call 31; (with_reducible refine (HPG.out _).mono ?_); rintro e w1 ⟨rfl, m1, rfl⟩))
      all_goals first
        | refine bodyPost_ret (v := .tuple #[.agg #[.int .u32 (F), .int .u32 (L), .bool true, .int .u32 (B), .bool R, .int .u32 (G)], .slice none 0 0]) (by rw [results_cell_tmp rfl]; go_simp) rfl ⟨⟨_, rfl, rfl⟩, by (repeat' (first | with_reducible exact Below.refl _ _ | with_reducible assumption | with_reducible apply below_drewN | with_reducible apply Below.drew | with_reducible apply Below.setCell | with_reducible apply Below.alloc | (simp; done) | omega | (simp; omega)))⟩
        | refine bodyPost_ret (v := .tuple #[.agg #[.int .u32 (F), .int .u32 (L), .bool false, .int .u32 (B), .bool true, .int .u32 (G)], .slice none 0 0]) (by rw [results_cell_tmp rfl]; go_simp) rfl ⟨⟨_, rfl, rfl⟩, by (repeat' (first | with_reducible exact Below.refl _ _ | with_reducible assumption | with_reducible apply below_drewN | with_reducible apply Below.drew | with_reducible apply Below.setCell | with_reducible apply Below.alloc | (simp; done) | omega | (simp; omega)))⟩
  · rw [decide_eq_false hF] at HPG
    clear ho
    go_enter Try.func12, Try.ntmps12
    go_wp2_with (first | go_skip | (go_at_call 31; (with_reducible refine (HPG.out _).mono ?_); rintro e w1 ⟨rfl, m1, rfl⟩))
    all_goals refine bodyPost_ret (v := .tuple #[.agg #[.int .u32 (F), .int .u32 (L), .bool P, .int .u32 (B), .bool R, .int .u32 (G)], .slice none 0 0]) (by rw [results_cell_tmp rfl]; go_simp) rfl ⟨⟨_, rfl, rfl⟩, by (repeat' (first | with_reducible exact Below.refl _ _ | with_reducible assumption | with_reducible apply below_drewN | with_reducible apply Below.drew | with_reducible apply Below.setCell | with_reducible apply Below.alloc | (simp; done) | omega | (simp; omega)))⟩
theorem ncOut_nosend (F L : Int) (P : Bool) (B : Int) (R : Bool) (G : Int) (A : Option Addr) (n c : Nat) (v a : Int) (hn : n ≤ 1024) (F0 : 0 ≤ F) (F1 : F ≤ 4294967295) (hv : v = 1) (ho : ¬ (1 ≤ L ∧ L ≤ 128 ∧ F < pagesN n)) (w : World) :
    Calls Try.prog 12 #[ncV F L P B R G, .slice A n c, .int .i64 9, .int .u32 v, .int .u64 a] w (NutPost F L P B R G none w) := by
  unfold ncV
  subst hv
  have HPG := Lib.hid (fun W => dkPage_ref A n c F W hn F0 F1)
  by_cases h1 : 1 ≤ L
  · by_cases h2 : L ≤ 128
    · have hF : ¬ F < pagesN n := fun h => ho ⟨h1, h2, h⟩
      rw [decide_eq_false hF] at HPG
      have d1 : decide (1 ≤ L) = true := decide_eq_true h1
      have d2 : decide (L ≤ 128) = true := decide_eq_true h2
      clear ho
      go_enter Try.func12, Try.ntmps12
      go_wp2_with (first | go_skip | (go_at_call 31; (with_reducible refine (HPG.out _).mono ?_); rintro e w1 ⟨rfl, m1, rfl⟩))
      all_goals refine bodyPost_ret (v := .tuple #[.agg #[.int .u32 (F), .int .u32 (L), .bool P, .int .u32 (B), .bool R, .int .u32 (G)], .slice none 0 0]) (by rw [results_cell_tmp rfl]; go_simp) rfl ⟨⟨_, rfl, rfl⟩, by (repeat' (first | with_reducible exact Below.refl _ _ | with_reducible assumption | with_reducible apply below_drewN | with_reducible apply Below.drew | with_reducible apply Below.setCell | with_reducible apply Below.alloc | (simp; done) | omega | (simp; omega)))⟩
    · have d1 : decide (1 ≤ L) = true := decide_eq_true h1
      have d2 : decide (L ≤ 128) = false := decide_eq_false h2
      clear ho HPG
      go_enter Try.func12, Try.ntmps12
      go_wp2_with (first | go_skip | fail)
      all_goals refine bodyPost_ret (v := .tuple #[.agg #[.int .u32 (F), .int .u32 (L), .bool P, .int .u32 (B), .bool R, .int .u32 (G)], .slice none 0 0]) (by rw [results_cell_tmp rfl]; go_simp) rfl ⟨⟨_, rfl, rfl⟩, by (repeat' (first | with_reducible exact Below.refl _ _ | with_reducible assumption | with_reducible apply below_drewN | with_reducible apply Below.drew | with_reducible apply Below.setCell | with_reducible apply Below.alloc | (simp; done) | omega | (simp; omega)))⟩
  · have d1 : decide (1 ≤ L) = false := decide_eq_false h1
    clear ho HPG
    go_enter Try.func12, Try.ntmps12
    go_wp2_with (first | go_skip | fail)
    all_goals refine bodyPost_ret (v := .tuple #[.agg #[.int .u32 (F), .int .u32 (L), .bool P, .int .u32 (B), .bool R, .int .u32 (G)], .slice none 0 0]) (by rw [results_cell_tmp rfl]; go_simp) rfl ⟨⟨_, rfl, rfl⟩, by (repeat' (first | with_reducible exact Below.refl _ _ | with_reducible assumption | with_reducible apply below_drewN | with_reducible apply Below.drew | with_reducible apply Below.setCell | with_reducible apply Below.alloc | (simp; done) | omega | (simp; omega)))⟩
end Go.Proofs.Ytkilbakghacooaa
