import Derived.Test.YthghbcjaokpilaaDoorAsmGf
namespace Go.Proofs.YthghbcjaokpilaaDoor
set_option linter.unusedVariables false
set_option linter.unusedSimpArgs false
open Go.ChangeShapes Go.WideShapes Go.ChangeAt Go.RowKit Go.Proofs.YthghbcjaokpilaaDoor.Num Go.Proofs.YthghbcjaokpilaaDoor.Mem Go.Proofs.YthghbcjaokpilaaDoor.Asm
set_option maxHeartbeats 8000000 in
set_option maxRecDepth 100000 in
theorem stm_instruction (r b off off2 cap : Nat) (m : Bs) (ts : List Bs) (q : Stm) (o : Opds) (w : World) (hcap : ts.length + 1 ≤ cap) (hl : ts.length ≤ 1000000) (c0 : w.cell? ⟨b, off, none⟩ = some (.string (S m)))
    (hlk : (Instr.lookup 75 (.map (some r)) (.string (S m)) true).run Tryd.prog w = .ok (.tuple #[.agg #[.int .i64 q.op, .string (S q.pat), .func (.func 38) #[] #[]], .bool true]) w)
    (hsl : ∀ W : World, (Instr.slice 40 (.slice (some ⟨b, off, none⟩) (ts.length + 1) cap) (some (.int .i64 1)) none none).run Tryd.prog W = .ok (.slice (some ⟨b, off2, none⟩) ts.length (cap - 1)) W)
    (HOPS : Hid (∀ W, Below w.heap.size w W → Calls Tryd.prog 56 #[.string (S q.pat), .slice (some ⟨b, off2, none⟩) ts.length (cap - 1)] W fun e w' => e = .returned (.tuple #[.agg #[.int .i64 o.a, .int .i64 o.b, .int .i64 o.c, .int .i64 o.n, .string (S o.l)], .bool true]) ∧ Below W.heap.size W w'))
    (ds : List Draft) (HWN : Hid (∀ W, Calls Tryd.prog 38 #[.int .i64 q.op, .agg #[.int .i64 o.a, .int .i64 o.b, .int .i64 o.c, .int .i64 o.n, .string (S o.l)]] W fun e w' => (∃ v, e = .returned (.tuple #[v, .bool true]) ∧ w'.ownsRow W.heap.size 83 9 v ds.length (flat ds)) ∧ Below W.heap.size W w')) :
    Calls Tryd.prog 44 #[.map (some r), .slice (some ⟨b, off, none⟩) (ts.length + 1) cap] w (WordsPost (some ds) w) := by
  go_enter Tryd.func44, Tryd.ntmps44
  go_wp2
  go_region_with ((go_at_call 56; (with_reducible refine (HOPS.out _ (by repeat' (first | with_reducible exact Below.refl _ _ | with_reducible apply below_drewN | with_reducible apply Below.drew | with_reducible apply Below.alloc | (simp; done) | (simp; omega)))).mono ?_); rintro e w1 ⟨rfl, hb1⟩; obtain ⟨hcc, hff⟩ := bcell hb1; have hz := hb1.size))
  all_goals have hB : Below w.heap.size w w1 := below_step (by repeat' (first | with_reducible exact Below.refl _ _ | with_reducible apply below_drewN | with_reducible apply Below.drew | with_reducible apply Below.alloc | (simp; done) | (simp; omega))) hb1
  all_goals have hlt : w.heap.size < w1.heap.size := by have := hz; simp at this; omega
  all_goals have k0 : w1.cell? ⟨w.heap.size, 0, none⟩ = some (.int .i64 q.op) := still (by simp [go_sem]) hb1
  all_goals have k2 : w1.cell? ⟨w.heap.size, 2, none⟩ = some (.func (.func 38) #[] #[]) := still (by simp [go_sem]) hb1
  all_goals go_wp2_with (go_at_call 38; (with_reducible refine (HWN.out _).mono ?_); rintro e w2 ⟨⟨v, rfl, hown⟩, hb2⟩; have hbf := below_step (by repeat' (first | with_reducible exact hB | with_reducible apply below_drewN | with_reducible apply Below.drew | with_reducible apply Below.setCell | with_reducible apply Below.alloc | (simp; done) | exact hB.size | (simp; omega))) hb2; have HO := Lib.hid hown; clear hown)
  all_goals go_ret2
  all_goals exact words_some (own_base HO.out (by simp; omega)) hbf
set_option maxHeartbeats 8000000 in
set_option maxRecDepth 100000 in
theorem stm_constant (r b off off2 cap : Nat) (m : Bs) (ts : List Bs) (q : Stm) (o : Opds) (w : World) (hcap : ts.length + 1 ≤ cap) (hl : ts.length ≤ 1000000) (c0 : w.cell? ⟨b, off, none⟩ = some (.string (S m)))
    (hlk : (Instr.lookup 75 (.map (some r)) (.string (S m)) true).run Tryd.prog w = .ok (.tuple #[.agg #[.int .i64 q.op, .string (S q.pat), .func (.func 39) #[] #[]], .bool true]) w)
    (hsl : ∀ W : World, (Instr.slice 40 (.slice (some ⟨b, off, none⟩) (ts.length + 1) cap) (some (.int .i64 1)) none none).run Tryd.prog W = .ok (.slice (some ⟨b, off2, none⟩) ts.length (cap - 1)) W)
    (HOPS : Hid (∀ W, Below w.heap.size w W → Calls Tryd.prog 56 #[.string (S q.pat), .slice (some ⟨b, off2, none⟩) ts.length (cap - 1)] W fun e w' => e = .returned (.tuple #[.agg #[.int .i64 o.a, .int .i64 o.b, .int .i64 o.c, .int .i64 o.n, .string (S o.l)], .bool true]) ∧ Below W.heap.size W w'))
    (ds : List Draft) (HWN : Hid (∀ W, Calls Tryd.prog 39 #[.int .i64 q.op, .agg #[.int .i64 o.a, .int .i64 o.b, .int .i64 o.c, .int .i64 o.n, .string (S o.l)]] W fun e w' => (∃ v, e = .returned (.tuple #[v, .bool true]) ∧ w'.ownsRow W.heap.size 83 9 v ds.length (flat ds)) ∧ Below W.heap.size W w')) :
    Calls Tryd.prog 44 #[.map (some r), .slice (some ⟨b, off, none⟩) (ts.length + 1) cap] w (WordsPost (some ds) w) := by
  go_enter Tryd.func44, Tryd.ntmps44
  go_wp2
  go_region_with ((go_at_call 56; (with_reducible refine (HOPS.out _ (by repeat' (first | with_reducible exact Below.refl _ _ | with_reducible apply below_drewN | with_reducible apply Below.drew | with_reducible apply Below.alloc | (simp; done) | (simp; omega)))).mono ?_); rintro e w1 ⟨rfl, hb1⟩; obtain ⟨hcc, hff⟩ := bcell hb1; have hz := hb1.size))
  all_goals have hB : Below w.heap.size w w1 := below_step (by repeat' (first | with_reducible exact Below.refl _ _ | with_reducible apply below_drewN | with_reducible apply Below.drew | with_reducible apply Below.alloc | (simp; done) | (simp; omega))) hb1
  all_goals have hlt : w.heap.size < w1.heap.size := by have := hz; simp at this; omega
  all_goals have k0 : w1.cell? ⟨w.heap.size, 0, none⟩ = some (.int .i64 q.op) := still (by simp [go_sem]) hb1
  all_goals have k2 : w1.cell? ⟨w.heap.size, 2, none⟩ = some (.func (.func 39) #[] #[]) := still (by simp [go_sem]) hb1
  all_goals go_wp2_with (go_at_call 39; (with_reducible refine (HWN.out _).mono ?_); rintro e w2 ⟨⟨v, rfl, hown⟩, hb2⟩; have hbf := below_step (by repeat' (first | with_reducible exact hB | with_reducible apply below_drewN | with_reducible apply Below.drew | with_reducible apply Below.setCell | with_reducible apply Below.alloc | (simp; done) | exact hB.size | (simp; omega))) hb2; have HO := Lib.hid hown; clear hown)
  all_goals go_ret2
  all_goals exact words_some (own_base HO.out (by simp; omega)) hbf
set_option maxHeartbeats 8000000 in
set_option maxRecDepth 100000 in
theorem stm_data (r b off off2 cap : Nat) (m : Bs) (ts : List Bs) (q : Stm) (o : Opds) (w : World) (hcap : ts.length + 1 ≤ cap) (hl : ts.length ≤ 1000000) (c0 : w.cell? ⟨b, off, none⟩ = some (.string (S m)))
    (hlk : (Instr.lookup 75 (.map (some r)) (.string (S m)) true).run Tryd.prog w = .ok (.tuple #[.agg #[.int .i64 q.op, .string (S q.pat), .func (.func 40) #[] #[]], .bool true]) w)
    (hsl : ∀ W : World, (Instr.slice 40 (.slice (some ⟨b, off, none⟩) (ts.length + 1) cap) (some (.int .i64 1)) none none).run Tryd.prog W = .ok (.slice (some ⟨b, off2, none⟩) ts.length (cap - 1)) W)
    (HOPS : Hid (∀ W, Below w.heap.size w W → Calls Tryd.prog 56 #[.string (S q.pat), .slice (some ⟨b, off2, none⟩) ts.length (cap - 1)] W fun e w' => e = .returned (.tuple #[.agg #[.int .i64 o.a, .int .i64 o.b, .int .i64 o.c, .int .i64 o.n, .string (S o.l)], .bool true]) ∧ Below W.heap.size W w'))
    (ds : List Draft) (HWN : Hid (∀ W, Calls Tryd.prog 40 #[.int .i64 q.op, .agg #[.int .i64 o.a, .int .i64 o.b, .int .i64 o.c, .int .i64 o.n, .string (S o.l)]] W fun e w' => (∃ v, e = .returned (.tuple #[v, .bool true]) ∧ w'.ownsRow W.heap.size 83 9 v ds.length (flat ds)) ∧ Below W.heap.size W w')) :
    Calls Tryd.prog 44 #[.map (some r), .slice (some ⟨b, off, none⟩) (ts.length + 1) cap] w (WordsPost (some ds) w) := by
  go_enter Tryd.func44, Tryd.ntmps44
  go_wp2
  go_region_with ((go_at_call 56; (with_reducible refine (HOPS.out _ (by repeat' (first | with_reducible exact Below.refl _ _ | with_reducible apply below_drewN | with_reducible apply Below.drew | with_reducible apply Below.alloc | (simp; done) | (simp; omega)))).mono ?_); rintro e w1 ⟨rfl, hb1⟩; obtain ⟨hcc, hff⟩ := bcell hb1; have hz := hb1.size))
  all_goals have hB : Below w.heap.size w w1 := below_step (by repeat' (first | with_reducible exact Below.refl _ _ | with_reducible apply below_drewN | with_reducible apply Below.drew | with_reducible apply Below.alloc | (simp; done) | (simp; omega))) hb1
  all_goals have hlt : w.heap.size < w1.heap.size := by have := hz; simp at this; omega
  all_goals have k0 : w1.cell? ⟨w.heap.size, 0, none⟩ = some (.int .i64 q.op) := still (by simp [go_sem]) hb1
  all_goals have k2 : w1.cell? ⟨w.heap.size, 2, none⟩ = some (.func (.func 40) #[] #[]) := still (by simp [go_sem]) hb1
  all_goals go_wp2_with (go_at_call 40; (with_reducible refine (HWN.out _).mono ?_); rintro e w2 ⟨⟨v, rfl, hown⟩, hb2⟩; have hbf := below_step (by repeat' (first | with_reducible exact hB | with_reducible apply below_drewN | with_reducible apply Below.drew | with_reducible apply Below.setCell | with_reducible apply Below.alloc | (simp; done) | exact hB.size | (simp; omega))) hb2; have HO := Lib.hid hown; clear hown)
  all_goals go_ret2
  all_goals exact words_some (own_base HO.out (by simp; omega)) hbf
set_option maxHeartbeats 8000000 in
set_option maxRecDepth 100000 in
theorem stm_space (r b off off2 cap : Nat) (m : Bs) (ts : List Bs) (q : Stm) (o : Opds) (w : World) (hcap : ts.length + 1 ≤ cap) (hl : ts.length ≤ 1000000) (c0 : w.cell? ⟨b, off, none⟩ = some (.string (S m)))
    (hlk : (Instr.lookup 75 (.map (some r)) (.string (S m)) true).run Tryd.prog w = .ok (.tuple #[.agg #[.int .i64 q.op, .string (S q.pat), .func (.func 41) #[] #[]], .bool true]) w)
    (hsl : ∀ W : World, (Instr.slice 40 (.slice (some ⟨b, off, none⟩) (ts.length + 1) cap) (some (.int .i64 1)) none none).run Tryd.prog W = .ok (.slice (some ⟨b, off2, none⟩) ts.length (cap - 1)) W)
    (HOPS : Hid (∀ W, Below w.heap.size w W → Calls Tryd.prog 56 #[.string (S q.pat), .slice (some ⟨b, off2, none⟩) ts.length (cap - 1)] W fun e w' => e = .returned (.tuple #[.agg #[.int .i64 o.a, .int .i64 o.b, .int .i64 o.c, .int .i64 o.n, .string (S o.l)], .bool true]) ∧ Below W.heap.size W w'))
    (ds : List Draft) (HWN : Hid (∀ W, Calls Tryd.prog 41 #[.int .i64 q.op, .agg #[.int .i64 o.a, .int .i64 o.b, .int .i64 o.c, .int .i64 o.n, .string (S o.l)]] W fun e w' => (∃ v, e = .returned (.tuple #[v, .bool true]) ∧ w'.ownsRow W.heap.size 83 9 v ds.length (flat ds)) ∧ Below W.heap.size W w')) :
    Calls Tryd.prog 44 #[.map (some r), .slice (some ⟨b, off, none⟩) (ts.length + 1) cap] w (WordsPost (some ds) w) := by
  go_enter Tryd.func44, Tryd.ntmps44
  go_wp2
  go_region_with ((go_at_call 56; (with_reducible refine (HOPS.out _ (by repeat' (first | with_reducible exact Below.refl _ _ | with_reducible apply below_drewN | with_reducible apply Below.drew | with_reducible apply Below.alloc | (simp; done) | (simp; omega)))).mono ?_); rintro e w1 ⟨rfl, hb1⟩; obtain ⟨hcc, hff⟩ := bcell hb1; have hz := hb1.size))
  all_goals have hB : Below w.heap.size w w1 := below_step (by repeat' (first | with_reducible exact Below.refl _ _ | with_reducible apply below_drewN | with_reducible apply Below.drew | with_reducible apply Below.alloc | (simp; done) | (simp; omega))) hb1
  all_goals have hlt : w.heap.size < w1.heap.size := by have := hz; simp at this; omega
  all_goals have k0 : w1.cell? ⟨w.heap.size, 0, none⟩ = some (.int .i64 q.op) := still (by simp [go_sem]) hb1
  all_goals have k2 : w1.cell? ⟨w.heap.size, 2, none⟩ = some (.func (.func 41) #[] #[]) := still (by simp [go_sem]) hb1
  all_goals go_wp2_with (go_at_call 41; (with_reducible refine (HWN.out _).mono ?_); rintro e w2 ⟨⟨v, rfl, hown⟩, hb2⟩; have hbf := below_step (by repeat' (first | with_reducible exact hB | with_reducible apply below_drewN | with_reducible apply Below.drew | with_reducible apply Below.setCell | with_reducible apply Below.alloc | (simp; done) | exact hB.size | (simp; omega))) hb2; have HO := Lib.hid hown; clear hown)
  all_goals go_ret2
  all_goals exact words_some (own_base HO.out (by simp; omega)) hbf
set_option maxHeartbeats 8000000 in
set_option maxRecDepth 100000 in
theorem stm_none (r b off off2 cap : Nat) (m : Bs) (ts : List Bs) (q : Stm) (o : Opds) (w : World) (hcap : ts.length + 1 ≤ cap) (hl : ts.length ≤ 1000000) (c0 : w.cell? ⟨b, off, none⟩ = some (.string (S m)))
    (hlk : (Instr.lookup 75 (.map (some r)) (.string (S m)) true).run Tryd.prog w = .ok (.tuple #[.agg #[.int .i64 q.op, .string (S q.pat), .func (.func 41) #[] #[]], .bool true]) w)
    (hsl : ∀ W : World, (Instr.slice 40 (.slice (some ⟨b, off, none⟩) (ts.length + 1) cap) (some (.int .i64 1)) none none).run Tryd.prog W = .ok (.slice (some ⟨b, off2, none⟩) ts.length (cap - 1)) W)
    (HOPS : Hid (∀ W, Below w.heap.size w W → Calls Tryd.prog 56 #[.string (S q.pat), .slice (some ⟨b, off2, none⟩) ts.length (cap - 1)] W fun e w' => e = .returned (.tuple #[.agg #[.int .i64 o.a, .int .i64 o.b, .int .i64 o.c, .int .i64 o.n, .string (S o.l)], .bool true]) ∧ Below W.heap.size W w'))
    (HWN : Hid (∀ W, Calls Tryd.prog 41 #[.int .i64 q.op, .agg #[.int .i64 o.a, .int .i64 o.b, .int .i64 o.c, .int .i64 o.n, .string (S o.l)]] W fun e w' => e = .returned (.tuple #[.slice none 0 0, .bool false]) ∧ Below W.heap.size W w')) :
    Calls Tryd.prog 44 #[.map (some r), .slice (some ⟨b, off, none⟩) (ts.length + 1) cap] w (WordsPost none w) := by
  go_enter Tryd.func44, Tryd.ntmps44
  go_wp2
  go_region_with ((go_at_call 56; (with_reducible refine (HOPS.out _ (by repeat' (first | with_reducible exact Below.refl _ _ | with_reducible apply below_drewN | with_reducible apply Below.drew | with_reducible apply Below.alloc | (simp; done) | (simp; omega)))).mono ?_); rintro e w1 ⟨rfl, hb1⟩; obtain ⟨hcc, hff⟩ := bcell hb1; have hz := hb1.size))
  all_goals have hB : Below w.heap.size w w1 := below_step (by repeat' (first | with_reducible exact Below.refl _ _ | with_reducible apply below_drewN | with_reducible apply Below.drew | with_reducible apply Below.alloc | (simp; done) | (simp; omega))) hb1
  all_goals have hlt : w.heap.size < w1.heap.size := by have := hz; simp at this; omega
  all_goals have k0 : w1.cell? ⟨w.heap.size, 0, none⟩ = some (.int .i64 q.op) := still (by simp [go_sem]) hb1
  all_goals have k2 : w1.cell? ⟨w.heap.size, 2, none⟩ = some (.func (.func 41) #[] #[]) := still (by simp [go_sem]) hb1
  all_goals go_wp2_with (go_at_call 41; (with_reducible refine (HWN.out _).mono ?_); rintro e w2 ⟨rfl, hb2⟩)
  all_goals go_ret2
  all_goals exact ⟨rfl, below_step (by repeat' (first | with_reducible exact hB | with_reducible apply below_drewN | with_reducible apply Below.drew | with_reducible apply Below.setCell | with_reducible apply Below.alloc | (simp; done) | exact hB.size | (simp; omega))) hb2⟩
set_option maxHeartbeats 8000000 in
set_option maxRecDepth 100000 in
theorem statement_cons (r b off cap : Nat) (m : Bs) (ts : List Bs) (w : World) (hb : w.heap[r]? = some (.map (tabA 49) 49)) (hcap : ts.length + 1 ≤ cap) (hl : ts.length ≤ 1000000)
    (hc : ∀ j (h : j < (m :: ts).length), w.cell? ⟨b, off + j, none⟩ = some (.string (S (m :: ts)[j]))) (hne : ∀ t ∈ ts, t ≠ []) : Calls Tryd.prog 44 #[.map (some r), .slice (some ⟨b, off, none⟩) (ts.length + 1) cap] w (WordsPost (stmtL (m :: ts)) w) := by
  have c0 : w.cell? ⟨b, off, none⟩ = some (.string (S m)) := hc 0 (by simp)
  have HC := Lib.hid hc
  have HN := Lib.hid hne
  have HB := Lib.hid hb
  clear hc hne
  cases hq : stmOf m with
  | none =>
    have e : stmtL (m :: ts) = none := by simp [stmtL, hq]
    rw [e]
    have hlk := look_no hb hq
    clear e hq hb
    go_enter Tryd.func44, Tryd.ntmps44
    go_wp2
    go_ret2
    exact ⟨rfl, (Below.refl _ _).alloc (Nat.le_refl _) _⟩
  | some q =>
    have hlk := look_yes hb hq
    unfold stmV at hlk
    obtain ⟨off2, ha, hsl0⟩ := tail_slice2 b off (ts.length + 1) cap 1 (by omega) hcap
    have hsl : ∀ W : World, (Instr.slice 40 (.slice (some ⟨b, off, none⟩) (ts.length + 1) cap) (some (.int .i64 1)) none none).run Tryd.prog W = .ok (.slice (some ⟨b, off2, none⟩) ts.length (cap - 1)) W := fun W => hsl0 W
    have hops : ∀ W, Below w.heap.size w W → Calls Tryd.prog 56 #[.string (S q.pat), .slice (some ⟨b, off2, none⟩) ts.length (cap - 1)] W fun e w' => e = opsRet (opsL q.pat ts) ∧ Below W.heap.size W w' := fun W hW => by
      have := operands_asm (S q.pat) b off2 (cap - 1) ts W (fun j hj => by
        have := still (HC.out (j + 1) (by simpa using hj)) hW
        rw [ha (by omega), show off + 1 + j = off + (j + 1) by omega, this]; simp) HN.out hl (by rw [S_size]; have := (kind_cases hq).2; omega)
      rw [S_list] at this
      exact this
    cases ho : opsL q.pat ts with
    | none =>
      have e : stmtL (m :: ts) = none := by simp [stmtL, hq, ho]
      rw [e]
      rw [ho] at hops
      have HOPS := Lib.hid (show ∀ W, Below w.heap.size w W → Calls Tryd.prog 56 #[.string (S q.pat), .slice (some ⟨b, off2, none⟩) ts.length (cap - 1)] W fun e w' => e = .returned (.tuple #[.agg #[.int .i64 0, .int .i64 0, .int .i64 0, .int .i64 0, .string (S [])], .bool false]) ∧ Below W.heap.size W w' from hops)
      clear hb hsl0 hops ha ho hq e
      go_enter Tryd.func44, Tryd.ntmps44
      go_wp2
      go_region_with ((go_at_call 56; (with_reducible refine (HOPS.out _ (by repeat' (first | with_reducible exact Below.refl _ _ | with_reducible apply below_drewN | with_reducible apply Below.drew | with_reducible apply Below.alloc | (simp; done) | (simp; omega)))).mono ?_); rintro e w1 ⟨rfl, hb1⟩; obtain ⟨hcc, hff⟩ := bcell hb1; have hz := hb1.size))
      all_goals have hB : Below w.heap.size w w1 := below_step (by repeat' (first | with_reducible exact Below.refl _ _ | with_reducible apply below_drewN | with_reducible apply Below.drew | with_reducible apply Below.alloc | (simp; done) | (simp; omega))) hb1
      all_goals go_wp2
      all_goals go_ret2
      all_goals exact ⟨rfl, (by repeat' (first | with_reducible exact hB | with_reducible apply below_drewN | with_reducible apply Below.drew | with_reducible apply Below.setCell | with_reducible apply Below.alloc | (simp; done) | exact hB.size | (simp; omega)))⟩
    | some o =>
      have e : stmtL (m :: ts) = wordsL q.kind q.op o := by simp [stmtL, hq, ho]
      rw [e]
      rw [ho] at hops
      have HOPS := Lib.hid (show ∀ W, Below w.heap.size w W → Calls Tryd.prog 56 #[.string (S q.pat), .slice (some ⟨b, off2, none⟩) ts.length (cap - 1)] W fun e w' => e = .returned (.tuple #[.agg #[.int .i64 o.a, .int .i64 o.b, .int .i64 o.c, .int .i64 o.n, .string (S o.l)], .bool true]) ∧ Below W.heap.size W w' from hops)
      have hwd := words_any q o (kind_cases hq).1
      have hkd := (kind_cases hq).1
      cases hres : wordsL q.kind q.op o with
      | none =>
        rw [hres] at hwd
        have hwn : ∀ W, Calls Tryd.prog q.kind #[.int .i64 q.op, .agg #[.int .i64 o.a, .int .i64 o.b, .int .i64 o.c, .int .i64 o.n, .string (S o.l)]] W fun e w' => e = .returned (.tuple #[.slice none 0 0, .bool false]) ∧ Below W.heap.size W w' := hwd
        rcases hkd with hk | hk | hk | hk
        · simp [wordsL, hk] at hres
        · simp [wordsL, hk] at hres
        · simp [wordsL, hk] at hres
        · rw [hk] at hwn hlk
          exact stm_none r b off off2 cap m ts q o w hcap hl c0 hlk hsl HOPS (Lib.hid hwn)
      | some ds =>
        rw [hres] at hwd
        have hwn : ∀ W, Calls Tryd.prog q.kind #[.int .i64 q.op, .agg #[.int .i64 o.a, .int .i64 o.b, .int .i64 o.c, .int .i64 o.n, .string (S o.l)]] W fun e w' => (∃ v, e = .returned (.tuple #[v, .bool true]) ∧ w'.ownsRow W.heap.size 83 9 v ds.length (flat ds)) ∧ Below W.heap.size W w' := hwd
        rcases hkd with hk | hk | hk | hk <;> rw [hk] at hwn hlk
        · exact stm_instruction r b off off2 cap m ts q o w hcap hl c0 hlk hsl HOPS ds (Lib.hid hwn)
        · exact stm_constant r b off off2 cap m ts q o w hcap hl c0 hlk hsl HOPS ds (Lib.hid hwn)
        · exact stm_data r b off off2 cap m ts q o w hcap hl c0 hlk hsl HOPS ds (Lib.hid hwn)
        · exact stm_space r b off off2 cap m ts q o w hcap hl c0 hlk hsl HOPS ds (Lib.hid hwn)
end Go.Proofs.YthghbcjaokpilaaDoor
