import Derived.Test.YtfnfbdjbdbifaaaDoorCpSem
import Derived.Test.YtfnfbdjbdbifaaaDoorLaw1
import Derived.Laws.ResultCell
import Derived.Deep.MidRow
import Derived.Deep.WholeRow
import Derived.Deep.RegionHeld3
namespace Go.Proofs.YtfnfbdjbdbifaaaDoor
set_option linter.unusedVariables false
set_option linter.unusedSimpArgs false
open Go.ChangeShapes Go.WideShapes Go.ChangeAt Go.RowKit Go.Proofs.YtfnfbdjbdbifaaaDoor.Num Go.Proofs.YtfnfbdjbdbifaaaDoor.Mem
/- A processor in memory: 25 cells of one block. -/
/-- The words as cells. -/
def cw (L : List Int) : List Value := L.map (Value.int .u32)
theorem cw_len {L : List Int} (h : L.length = 25) : (cw L).length = 25 := by simp [cw, h]
theorem cw_one (L : List Int) : ∀ v ∈ cw L, v.oneCell' = true := fun v hv => by
  obtain ⟨x, _, rfl⟩ := List.mem_map.1 hv
  rfl
theorem cw_at {L : List Int} (h : L.length = 25) {k : Nat} (hk : k < 25) : (cw L)[k]? = some (.int .u32 (wd L k)) := by
  simp [cw, wd, List.getElem?_map, List.getElem?_eq_getElem, h, hk]
theorem cw_sets (L : List Int) (k : Nat) (v : Int) : (cw L).set k (.int .u32 v) = cw (L.set k v) := by simp [cw, List.map_set]
theorem wd_sets (L : List Int) (i j : Nat) (v : Int) (h : L.length = 25) (hi : i < 25) : wd (L.set i v) j = if i = j then v else wd L j := wd_set L i j v (by omega)
theorem cw_set (L : List Int) (k : Nat) (v : Int) : cw (L.set k v) = (cw L).set k (.int .u32 v) := by simp [cw, List.map_set]
/-- What the walks rewrite by. -/
theorem cw_facts : (∀ (L : List Int) (k : Nat) (v : Int), (cw L).set k (.int .u32 v) = cw (L.set k v)) ∧ (∀ (L : List Int) (k : Nat), L.length = 25 → k < 25 → (cw L)[k]? = some (.int .u32 (wd L k))) ∧ (∀ (L : List Int) (i j : Nat) (v : Int), L.length = 25 → i < 25 → wd (L.set i v) j = if i = j then v else wd L j) ∧ (∀ (L : List Int), L.length = 25 → (cw L).length = 25) :=
  ⟨cw_sets, fun L k h hk => cw_at h hk, fun L i j v h hi => wd_sets L i j v h hi, fun L h => cw_len h⟩
theorem undCpu : ∃ fs, Tryd.prog.underlying 32 = some (.struct fs) := ⟨_, Tryd.underlying32⟩
theorem infCpu : (Tryd.prog.info? 32).map (·.size) = some 25 := by kernel_rfl
/-- A processor as a value. -/
def cpV (L : List Int) : Value := .agg (cw L).toArray
/-- A processor that lies in block g. -/
def Box (w : World) (g : Nat) (L : List Int) : Prop := L.length = 25 ∧ w.rangeAt g 0 (cw L) ∧ w.there g 0 25
theorem Box.cell {w : World} {g : Nat} {L : List Int} (h : Box w g L) {k : Nat} (hk : k < 25) : w.cell? ⟨g, k, none⟩ = some (.int .u32 (wd L k)) := by
  have := h.2.1 k _ (cw_at h.1 hk)
  rwa [Nat.zero_add] at this
theorem Box.free {w : World} {g : Nat} {L : List Int} (h : Box w g L) {k : Nat} (hk : k < 25) : w.frozen? ⟨g, k, none⟩ = false := by
  have := (h.2.2 k hk).2
  rwa [Nat.zero_add] at this
theorem Box.lt {w : World} {g : Nat} {L : List Int} (h : Box w g L) : g < w.heap.size := block_lt_of_cell (h.cell (k := 0) (by omega))
theorem Box.of {w w' : World} {g : Nat} {L : List Int} (h : Box w g L) (hc : ∀ k, w'.cell? ⟨g, k, none⟩ = w.cell? ⟨g, k, none⟩) (hf : ∀ k, w'.frozen? ⟨g, k, none⟩ = w.frozen? ⟨g, k, none⟩) : Box w' g L :=
  ⟨h.1, fun j v hv => (hc _).trans (h.2.1 j v hv), fun j hj => ⟨by rw [hc]; exact (h.2.2 j hj).1, by rw [hf]; exact (h.2.2 j hj).2⟩⟩
theorem Box.on {w w' : World} {g : Nat} {L : List Int} (h : Box w g L) (hb : Below w.heap.size w w') : Box w' g L :=
  h.of (fun k => hb.cell (p := ⟨g, k, none⟩) h.lt) (fun k => hb.frozen (p := ⟨g, k, none⟩) h.lt)
theorem Box.below {w w' : World} {g B : Nat} {L : List Int} (h : Box w g L) (hb : Below B w w') (hg : g < B) : Box w' g L :=
  h.of (fun k => hb.cell (p := ⟨g, k, none⟩) hg) (fun k => hb.frozen (p := ⟨g, k, none⟩) hg)
theorem Box.drew {w : World} {g : Nat} {L : List Int} (h : Box w g L) : Box w.drew g L := h
theorem Box.drewN {w : World} {g : Nat} {L : List Int} (h : Box w g L) (m : Nat) : Box (w.drewN m) g L := h.of (fun _ => rfl) (fun _ => rfl)
theorem Box.alloc {w : World} {g : Nat} {L : List Int} (h : Box w g L) (o : Obj) : Box (w.alloc o) g L := h.on ((Below.refl _ w).alloc (Nat.le_refl _) o)
theorem Box.new {w : World} {L : List Int} (hL : L.length = 25) (T : TypeId) : Box (w.alloc (.cells (cw L).toArray T)) w.heap.size L := by
  have hg := heap_alloc_new w (.cells (cw L).toArray T)
  refine ⟨hL, fun j v hv => ?_, fun j hj => ⟨?_, ?_⟩⟩
  · rw [Nat.zero_add, cell_of_row _ _ j _ T (0, 0) hg]; simpa using hv
  · rw [Nat.zero_add, cell_of_row _ _ j _ T (0, 0) hg]; simp [cw_len hL, hj]
  · rw [Nat.zero_add]; exact frozen_of_row _ _ j _ T hg
theorem Box.new' {w : World} {g : Nat} {L : List Int} (hg : g = w.heap.size) (hL : L.length = 25) (T : TypeId) : Box (w.alloc (.cells (cw L).toArray T)) g L := by
  subst hg; exact Box.new hL T
theorem Box.sc {w : World} {g : Nat} {L : List Int} (h : Box w g L) {k : Nat} (hk : k < 25) (v : Int) : Box (w.setCell ⟨g, k, none⟩ (.int .u32 v)) g (L.set k v) := by
  refine ⟨by rw [List.length_set]; exact h.1, fun j u hu => ?_, fun j hj => ⟨?_, ?_⟩⟩
  · rw [cw_set, List.getElem?_set] at hu
    rw [Nat.zero_add]
    by_cases hjk : k = j
    · subst hjk
      have : k < (cw L).length := by rw [cw_len h.1]; exact hk
      simp [this] at hu
      subst hu
      exact World.cell?_setCell_same _ _ _ (h.cell hk)
    · rw [if_neg hjk] at hu
      have hj : j < 25 := by
        have := (List.getElem?_eq_some_iff.1 hu).1
        rwa [cw_len h.1] at this
      rw [World.cell?_setCell_other _ _ _ _ (by intro e; injection e with _ e2; exact hjk e2)]
      have := h.2.1 j u hu
      rwa [Nat.zero_add] at this
  · rw [Nat.zero_add]
    by_cases hjk : k = j
    · subst hjk
      rw [World.cell?_setCell_same _ _ _ (h.cell hk)]; rfl
    · rw [World.cell?_setCell_other _ _ _ _ (by intro e; injection e with _ e2; exact hjk e2), h.cell hj]; rfl
  · have := h.free hj
    simpa using this
theorem Box.scn {w : World} {g : Nat} {L : List Int} (h : Box w g L) (p : Addr) (hp : ¬ p.block = g) (v : Value) : Box (w.setCell p v) g L := by
  refine h.of (fun k => ?_) (fun k => ?_)
  · exact World.cell?_setCell_far _ _ _ _ hp
  · simp
theorem Box.scs {w : World} {g : Nat} {L0 L : List Int} (h : Box w g L0) (hL : L.length = 25) : Box (w.setCells g 0 (cw L)) g L :=
  ⟨hL, World.rangeAt_setCells_same w g 0 (cw L) (by rw [cw_len hL]; exact h.2.2), World.there_setCells h.2.2 g 0 (cw L)⟩
theorem Box.scsn {w : World} {g b : Nat} {L : List Int} (h : Box w g L) (hb : ¬ b = g) (vs : List Value) : Box (w.setCells b 0 vs) g L :=
  ⟨h.1, World.rangeAt_setCells_apart h.2.1 b 0 vs (.inl (fun e => hb e.symm)), World.there_setCells h.2.2 b 0 vs⟩
theorem below_setCells {B : Nat} {a w : World} (h : Below B a w) (b : Nat) (hb : B ≤ b) : ∀ (vs : List Value) (o : Nat), Below B a (w.setCells b o vs) := by
  intro vs
  induction vs generalizing w with
  | nil => intro o; exact h
  | cons v r ih => intro o; exact ih (h.setCell hb v) (o + 1)
theorem size_setCells (b : Nat) : ∀ (vs : List Value) (o : Nat) (w : World), (w.setCells b o vs).heap.size = w.heap.size := by
  intro vs
  induction vs with
  | nil => intro o w; rfl
  | cons v r ih => intro o w; exact (ih (o + 1) _).trans (by simp)
/-- A processor that lies alone in block g. -/
def Cpu (w : World) (g : Nat) (L : List Int) : Prop := w.heap[g]? = some (.cells (cw L).toArray 32 (0, 0)) ∧ L.length = 25
theorem cw_inj {L M : List Int} (h : cw L = cw M) : L = M := by
  have h' := congrArg (List.map (fun v => match v with | Value.int _ n => n | _ => 0)) h
  simpa [cw, List.map_map, Function.comp_def] using h'
/-- What lies in a block. -/
def lk (w : World) (g : Nat) : Option Obj := w.heap[g]?
theorem look_alloc (w : World) (o : Obj) (g : Nat) : lk (w.alloc o) g = if g = w.heap.size then some o else lk w g := by
  show (w.heap.push o)[g]? = _
  rw [Array.getElem?_push]; rfl
theorem look_setRow (w : World) (b g : Nat) (cs : Array Value) : lk (w.setRow b cs) g = if b = g then (lk w g).map (fun o => match o with | .cells _ t f => .cells cs t f | o => o) else lk w g := by
  unfold lk World.setRow
  simp only [Array.getElem?_modify]
  split
  · subst_vars; rfl
  · rfl
theorem look_drew (w : World) (g : Nat) : lk w.drew g = lk w g := rfl
theorem look_drewN (w : World) (m g : Nat) : lk (w.drewN m) g = lk w g := rfl
theorem look_on {w w' : World} {g B : Nat} {o : Obj} (h : lk w g = some o) (hb : Below B w w') (hg : g < B) : lk w' g = some o := (hb.block g hg).trans h
theorem look_setCell (w : World) (b k g : Nat) (v : Value) : lk (w.setCell ⟨b, k, none⟩ v) g = if b = g then (lk w g).map (fun o => match o with | .cells c t f => .cells (c.setIfInBounds k v) t f | o => o) else lk w g := by
  unfold lk World.setCell
  simp only [Array.getElem?_modify]
  split
  · subst_vars; rfl
  · rfl
theorem cell_lk {w : World} {g : Nat} {cs : Array Value} {T : TypeId} (h : lk w g = some (.cells cs T (0, 0))) (k : Nat) : w.cell? ⟨g, k, none⟩ = cs[k]? := cell_of_row w g k cs T (0, 0) h
theorem frozen_lk {w : World} {g : Nat} {cs : Array Value} {T : TypeId} (h : lk w g = some (.cells cs T (0, 0))) (k : Nat) : w.frozen? ⟨g, k, none⟩ = false := frozen_of_row w g k cs T h
theorem row_alloc_same (w : World) (c c' : Array Value) (t : TypeId) (g : Nat) (h : g = w.heap.size) : (w.alloc (.cells c t)).setRow g c' = w.alloc (.cells c' t) := by
  subst h; exact World.setRow_alloc_new w c c' t
theorem push_modify (h : Array Obj) (o : Obj) (g : Nat) (f : Obj → Obj) (hg : g < h.size) : (h.push o).modify g f = (h.modify g f).push o := by
  apply Array.ext_getElem?
  intro i
  simp only [Array.getElem?_modify, Array.getElem?_push, Array.size_modify]
  by_cases h1 : i = h.size
  · subst h1
    rw [if_neg (by omega), if_pos rfl, if_pos rfl]
  · rw [if_neg h1, if_neg h1]
theorem row_alloc_old (w : World) (o : Obj) (c' : Array Value) (g : Nat) (h : g < w.heap.size) : (w.alloc o).setRow g c' = (w.setRow g c').alloc o := by
  unfold World.setRow World.alloc
  simp only [push_modify _ _ _ _ h]
section
variable {ops : Array Oper} {rest : List Oper} {o : Oper} {a : Act} {w : World} {Q : Exit → Act → World → Prop}
theorem wpList_load_look (hgd : o.guard = none) (x : Operand) (ho : o.op = .load 32 x) (g : Nat) (hx : a.eval x = .pointer (some ⟨g, 0, none⟩))
    (h : ∀ ob, lk w g = ob → ∃ L, ob = some (.cells (cw L).toArray 32 (0, 0)) ∧ L.length = 25 ∧ wpList Tryd.prog ops Q rest (a.put o.dst (cpV L)) w) : wpList Tryd.prog ops Q (o :: rest) a w := by
  obtain ⟨fs, hu⟩ := undCpu
  obtain ⟨L, hg, hL, h⟩ := h _ rfl
  exact wpList_load_row hgd 32 x ho g hx _ (cw L).toArray _ _ hg hu rfl (by rw [List.size_toArray, cw_len hL]; exact infCpu) h
theorem wpList_store_look (hgd : o.guard = none) (x y : Operand) (ho : o.op = .store 32 x y) (g : Nat) (hx : a.eval x = .pointer (some ⟨g, 0, none⟩)) {L : List Int} (hy : a.eval y = cpV L) (hL : L.length = 25)
    (hb : ∀ ob, lk w g = ob → ∃ L0, ob = some (.cells (cw L0).toArray 32 (0, 0)) ∧ L0.length = 25)
    (h : ∀ w2, w.setRow g (cw L).toArray = w2 → wpList Tryd.prog ops Q rest (a.put o.dst undef) w2) : wpList Tryd.prog ops Q (o :: rest) a w := by
  obtain ⟨L0, hg, hL0⟩ := hb _ rfl
  refine wpList_store_row hgd 32 x y ho g (cw L).toArray hx hy _ _ hg ?_ ?_ (all_oneCell_toArray (cw_one L)) (h _ rfl)
  · rw [List.size_toArray, cw_len hL]; exact infCpu
  · rw [List.size_toArray, List.size_toArray, cw_len hL, cw_len hL0]
end
def Z25 : List Int := [0, 0, 0, 0, 0, 0, 0, 0, 0, 0, 0, 0, 0, 0, 0, 0, 0, 0, 0, 0, 0, 0, 0, 0, 0]
theorem Z25_len : Z25.length = 25 := rfl
theorem zeroCpu (w : World) : (zeroValue 32).run Tryd.prog w = .ok (cpV Z25) w := by kernel_rfl
section
variable {ops : Array Oper} {rest : List Oper} {o : Oper} {a : Act} {w : World} {Q : Exit → Act → World → Prop}
theorem wpList_alloc_box (hgd : o.guard = none) (ho : o.op = .alloc 32)
    (h : wpList Tryd.prog ops Q rest (a.put o.dst (.pointer (some ⟨w.heap.size, 0, none⟩))) (w.alloc (.cells (cw Z25).toArray 32))) : wpList Tryd.prog ops Q (o :: rest) a w := by
  refine wpList_plain hgd fun K hK => ?_
  unfold Oper.wp execOp
  rw [ho]
  have hz := zeroCpu w
  simp [Sem.run_bind, hz, newVar, newRow, cpV, Value.cells, go_sem]
  exact hK _ _ h
theorem wpList_box_box (hgd : o.guard = none) (x : Operand) (ho : o.op = .box 32 x) {L : List Int} (hx : a.eval x = cpV L)
    (h : wpList Tryd.prog ops Q rest (a.put o.dst (.pointer (some ⟨w.heap.size, 0, none⟩))) (w.alloc (.cells (cw L).toArray 32))) : wpList Tryd.prog ops Q (o :: rest) a w := by
  refine wpList_plain hgd fun K hK => ?_
  unfold Oper.wp execOp
  rw [ho]
  simp only [hx]
  exact hK _ _ h
end
theorem wpList_build_cpu {ops : Array Oper} {rest : List Oper} {o : Oper} {a : Act} {w : World} {Q : Exit → Act → World → Prop} (hgd : o.guard = none) (parts : Array (Nat × Operand)) (ho : o.op = .build 32 parts) {L : List Int}
    (hb : Tryd.prog.built 32 (parts.map fun (i, x) => (i, a.eval x)).toList = some (cw L).toArray)
    (h : wpList Tryd.prog ops Q rest (a.put o.dst (cpV L)) w) : wpList Tryd.prog ops Q (o :: rest) a w := by
  refine wpList_build hgd 32 parts ho (by rw [hb]; rfl) ?_
  rw [hb]
  exact h
theorem results_cpu {fn : Func} {p : Tmp} (h : fn.results = #[.cell p 32]) (tmps : Array Value) (w : World) (g : Nat) (hp : tmps.getD p undef = .pointer (some ⟨g, 0, none⟩)) {L : List Int} (hL : L.length = 25) (hb : lk w g = some (.cells (cw L).toArray 32 (0, 0))) :
    (results fn tmps).run Tryd.prog w = .ok (cpV L) w := by
  obtain ⟨fs, hu⟩ := undCpu
  exact results_cell_row h tmps w g _ _ _ _ hp hb hu rfl (by rw [List.size_toArray, cw_len hL]; exact infCpu)
section
variable {P : Program} {K : Act → World → Prop} {Q : Exit → Act → World → Prop} {n m : Nat} {a : Act} {w : World}
theorem then_exit (h : Q (.exit n) a w) : Exit.then K Q (.exit n) a w := h
theorem then_ret (h : Q .ret a w) : Exit.then K Q .ret a w := h
theorem then_normal (h : K a w) : Exit.then K Q .normal a w := h
theorem blk_hit (h : Q .normal a w) : Exit.inBlock n Q (.exit n) a w := by
  show (if n = n then Q .normal a w else Q (.exit n) a w)
  rw [if_pos rfl]; exact h
theorem blk_pass (hne : ¬ m = n) (h : Q (.exit m) a w) : Exit.inBlock n Q (.exit m) a w := by
  show (if m = n then Q .normal a w else Q (.exit m) a w)
  rw [if_neg hne]; exact h
theorem blk_ret (h : Q .ret a w) : Exit.inBlock n Q .ret a w := h
theorem blk_normal (h : Q .normal a w) : Exit.inBlock n Q .normal a w := h
end
end Go.Proofs.YtfnfbdjbdbifaaaDoor
