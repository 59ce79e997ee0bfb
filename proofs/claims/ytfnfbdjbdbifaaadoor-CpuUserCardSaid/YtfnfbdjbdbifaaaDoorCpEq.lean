import Derived.Test.YtfnfbdjbdbifaaaDoorCpEx
import Derived.ChangeKeysEq
namespace Go.Proofs.YtfnfbdjbdbifaaaDoor
set_option linter.unusedVariables false
set_option linter.unusedSimpArgs false
set_option maxRecDepth 20000
open Go.ChangeShapes Go.WideShapes Go.ChangeAt Go.RowKit Go.Proofs.YtfnfbdjbdbifaaaDoor.Num Go.Proofs.YtfnfbdjbdbifaaaDoor.Mem Go.Proofs.YtfnfbdjbdbifaaaDoor.Isa
/- Equal processors. -/
theorem cellU32 : Tryd.prog.cellsOf 23 = 1 := by kernel_rfl
theorem part_u32 (w : World) (xs : Array Value) (i : Nat) (v : Int) (h : xs[i]? = some (.int .u32 v)) : (part 23 xs i).run Tryd.prog w = .ok (.int .u32 v) w := by
  simp [part, isAgg, Sem.run_bind, run_underlying Tryd.underlying23, h]
theorem eq_items (w : World) (d : Nat) (xs : Array Value) : ∀ is : List Nat, (∀ i ∈ is, ∃ v, xs[i]? = some (.int .u32 v)) → (Op.eqItems (d + 1) 23 1 xs xs is).run Tryd.prog w = .ok true w := by
  intro is
  induction is with
  | nil => intro _; simp [Op.eqItems]
  | cons i is ih =>
    intro h
    obtain ⟨v, hv⟩ := h i (by simp)
    have e := part_u32 w xs i v hv
    have e2 := run_equalIn_int (P := Tryd.prog) w d 23 .u32 .u32 v v Tryd.underlying23
    simp [Op.eqItems, Sem.run_bind, Nat.mul_one, e, e2, ih (fun j hj => h j (by simp [hj]))]
theorem eq_row (w : World) (d n : Nat) (t : TypeId) (xs : Array Value) (hu : Tryd.prog.underlying t = some (.array n 23)) (hx : ∀ i, i < n → ∃ v, xs[i]? = some (.int .u32 v)) : (Op.equalIn (d + 2) t (.agg xs) (.agg xs)).run Tryd.prog w = .ok true w := by
  have hi : (Tryd.prog.info? 23).isSome = true := by kernel_rfl
  obtain ⟨i, hi⟩ := Option.isSome_iff_exists.1 hi
  rw [run_equalIn_array w (d + 1) xs xs hu hi, cellU32]
  exact eq_items w d xs _ (fun i hi => hx i (by simpa using hi))
theorem cw_ex {L : List Int} (h : L.length = 25) {k : Nat} (hk : k < 25) : ∃ v, (cw L).toArray[k]? = some (.int .u32 v) := ⟨_, by simpa using cw_at h hk⟩
theorem part_row (w : World) (t : TypeId) (n : Nat) (e : TypeId) (xs : Array Value) (o : Nat) (hu : Tryd.prog.underlying t = some (.array n e)) (hi : (Tryd.prog.info? t).map (·.size) = some n) : (part t xs o).run Tryd.prog w = .ok (.agg (xs.extract o (o + n))) w := by
  cases hq : Tryd.prog.info? t with
  | none => simp [hq] at hi
  | some i =>
    have hs : i.size = n := by simpa [hq] using hi
    simp [part, isAgg, Sem.run_bind, run_underlying hu, sizeOf, typeInfo, hq, hs]
theorem ext_ex {L : List Int} (h : L.length = 25) (o n k : Nat) (hk : k < n) (hn : o + n ≤ 25) : ∃ v, ((cw L).toArray.extract o (o + n))[k]? = some (.int .u32 v) := by
  obtain ⟨v, hv⟩ := cw_ex h (k := o + k) (by omega)
  refine ⟨v, ?_⟩
  rw [Array.getElem?_extract]
  have : k < min (o + n) (cw L).toArray.size - o := by rw [List.size_toArray, cw_len h]; omega
  rw [if_pos this]; exact hv
theorem fldCpu : (Tryd.prog.fieldsOf 32).toList.map (fun f => (f.name, f.type, f.offset)) = [("X", 29, 0), ("Pc", 23, 16), ("Csr", 30, 17)] := by kernel_rfl
theorem fields_step (w : World) (D : Nat) (xs : Array Value) (f : Field) (fs : List Field) (a : Value) (hn : f.name ≠ "_") (hp : (part f.type xs f.offset).run Tryd.prog w = .ok a w) (he : (Op.equalIn D f.type a a).run Tryd.prog w = .ok true w) :
    (Op.eqFields D xs xs (f :: fs)).run Tryd.prog w = (Op.eqFields D xs xs fs).run Tryd.prog w := by
  conv => lhs; unfold Op.eqFields
  rw [if_pos hn]
  simp only [Sem.run_bind, hp, Result.andThen_ok, he]
  rfl
theorem eq_fields3 (w : World) (D : Nat) (xs : Array Value) (f1 f2 f3 : Field) (a1 a2 a3 : Value) (n1 : f1.name ≠ "_") (n2 : f2.name ≠ "_") (n3 : f3.name ≠ "_")
    (p1 : (part f1.type xs f1.offset).run Tryd.prog w = .ok a1 w) (p2 : (part f2.type xs f2.offset).run Tryd.prog w = .ok a2 w) (p3 : (part f3.type xs f3.offset).run Tryd.prog w = .ok a3 w)
    (e1 : (Op.equalIn D f1.type a1 a1).run Tryd.prog w = .ok true w) (e2 : (Op.equalIn D f2.type a2 a2).run Tryd.prog w = .ok true w) (e3 : (Op.equalIn D f3.type a3 a3).run Tryd.prog w = .ok true w) :
    (Op.eqFields D xs xs [f1, f2, f3]).run Tryd.prog w = .ok true w := by
  rw [fields_step w D xs f1 _ a1 n1 p1 e1, fields_step w D xs f2 _ a2 n2 p2 e2, fields_step w D xs f3 _ a3 n3 p3 e3]
  rfl
theorem und_cpu : Tryd.prog.underlying 32 = some (.struct (Tryd.prog.fieldsOf 32)) := by kernel_rfl
theorem hel_cpu : Tryd.prog.stoodInHeld 32 = false := by kernel_rfl
theorem size_16 : (Tryd.prog.info? 29).map (·.size) = some 16 := by kernel_rfl
theorem size_8 : (Tryd.prog.info? 30).map (·.size) = some 8 := by kernel_rfl
theorem eq_cpu' {L : List Int} (h : L.length = 25) (w : World) (d : Nat) : (Op.equalIn (d + 3) 32 (cpV L) (cpV L)).run Tryd.prog w = .ok true w := by
  unfold cpV
  rw [run_equalIn_struct w (d + 2) 32 _ _ und_cpu hel_cpu]
  have hf := fldCpu
  generalize (Tryd.prog.fieldsOf 32).toList = fs at hf
  obtain _ | ⟨f1, fs⟩ := fs; · simp at hf
  obtain _ | ⟨f2, fs⟩ := fs; · simp at hf
  obtain _ | ⟨f3, fs⟩ := fs; · simp at hf
  obtain _ | ⟨f4, fs⟩ := fs
  · simp only [List.map_cons, List.map_nil, List.cons.injEq, Prod.mk.injEq, and_true] at hf
    obtain ⟨⟨n1, t1, o1⟩, ⟨n2, t2, o2⟩, n3, t3, o3⟩ := hf
    obtain ⟨v, hv⟩ := cw_ex h (k := 16) (by omega)
    refine eq_fields3 w (d + 2) (cw L).toArray f1 f2 f3 (.agg ((cw L).toArray.extract 0 (0 + 16))) (.int .u32 v) (.agg ((cw L).toArray.extract 17 (17 + 8))) (by rw [n1]; decide) (by rw [n2]; decide) (by rw [n3]; decide) ?_ ?_ ?_ ?_ ?_ ?_
    · rw [t1, o1]; exact part_row w 29 16 23 (cw L).toArray 0 Tryd.underlying29 size_16
    · rw [t2, o2]; exact part_u32 w (cw L).toArray 16 v hv
    · rw [t3, o3]; exact part_row w 30 8 23 (cw L).toArray 17 Tryd.underlying30 size_8
    · rw [t1]; exact eq_row w d 16 29 ((cw L).toArray.extract 0 (0 + 16)) Tryd.underlying29 (fun i hi => ext_ex h 0 16 i hi (by omega))
    · rw [t2, run_equalIn_int (P := Tryd.prog) w (d + 1) 23 .u32 .u32 v v Tryd.underlying23, beq_self_eq_true]
    · rw [t3]; exact eq_row w d 8 30 ((cw L).toArray.extract 17 (17 + 8)) Tryd.underlying30 (fun i hi => ext_ex h 17 8 i hi (by omega))
  · simp at hf
theorem eq_cpu {L : List Int} (h : L.length = 25) (w : World) : (Op.equalIn 10000 32 (cpV L) (cpV L)).run Tryd.prog w = .ok true w := eq_cpu' h w 9997
theorem eqb_cpu {L : List Int} (hL : L.length = 25) (w : World) : (binOp .eql 32 (cpV L) (cpV L)).run Tryd.prog w = .ok (.bool true) w := by
  have e := eq_cpu hL w
  unfold cpV at e ⊢
  rw [run_eql_struct, e]; rfl
theorem eqg_cpu (L : List Int) (x y : Operand) (w : World) : (eqGuard .eql 32 x y (cpV L) (cpV L)).run Tryd.prog w = .ok () w := run_eqGuard_agg w _ _ _ _ _ _ (by kernel_rfl)
section
variable {ops : Array Oper} {rest : List Oper} {o : Oper} {a : Act} {w : World} {Q : Exit → Act → World → Prop}
theorem exec_eql_cpu (x y : Operand) (ho : o.op = .binOp .eql 32 x y 32) {L : List Int} (hL : L.length = 25) (hx : a.eval x = cpV L) (hy : a.eval y = cpV L) :
    (execOp a.eval o).run Tryd.prog w = .ok (.value (.bool true)) w := by
  have e := eq_cpu hL w
  have e' : (binOp .eql 32 (cpV L) (cpV L)).run Tryd.prog w = .ok (.bool true) w := by
    unfold cpV at e ⊢
    rw [run_eql_struct, e]; rfl
  have eg : (eqGuard .eql 32 x y (cpV L) (cpV L)).run Tryd.prog w = .ok () w := run_eqGuard_agg w _ _ _ _ _ _ (by kernel_rfl)
  unfold execOp
  simp only [ho, hx, hy, Sem.run_bind, eg, e', Result.andThen_ok, Sem.run_pure]
theorem wp_eql_cpu {K : Act → World → Prop} (x y : Operand) (ho : o.op = .binOp .eql 32 x y 32) {L : List Int} (hx : a.eval x = cpV L) (hy : a.eval y = cpV L) (hL : L.length = 25)
    (h : K (a.put o.dst (.bool true)) w) : o.wp Tryd.prog a w K Q := by
  unfold Oper.wp
  rw [exec_eql_cpu x y ho hL hx hy]
  exact h
theorem wpList_eql_cpu (hgd : o.guard = none) (x y : Operand) (ho : o.op = .binOp .eql 32 x y 32) {L : List Int} (hx : a.eval x = cpV L) (hy : a.eval y = cpV L) (hL : L.length = 25)
    (h : wpList Tryd.prog ops Q rest (a.put o.dst (.bool true)) w) : wpList Tryd.prog ops Q (o :: rest) a w :=
  wpList_plain hgd fun K hK => by
    unfold Oper.wp
    rw [exec_eql_cpu x y ho hL hx hy]
    exact hK _ _ h
end
end Go.Proofs.YtfnfbdjbdbifaaaDoor
