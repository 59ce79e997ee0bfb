import Derived.Test.YtegaookkfjgepaaDoorAsmFn8
import Derived.OneCell
namespace Go.Proofs.YtegaookkfjgepaaDoor
set_option linter.unusedVariables false
set_option linter.unusedSimpArgs false
open Go.ChangeShapes Go.WideShapes Go.ChangeAt Go.RowKit Go.Proofs.YtegaookkfjgepaaDoor.Num Go.Proofs.YtegaookkfjgepaaDoor.Mem Go.Proofs.YtegaookkfjgepaaDoor.Asm
theorem cell_blk {w : World} {b : Nat} {cs : Array Value} {T : TypeId} (h : w.heap[b]? = some (.cells cs T (0, 0))) (i : Nat) {v : Value} (hv : cs[i]? = some v) : w.cell? ⟨b, i, none⟩ = some v := by simp [World.cell?, h, hv]
theorem free_blk {w : World} {b : Nat} {cs : Array Value} {T : TypeId} (h : w.heap[b]? = some (.cells cs T (0, 0))) (i : Nat) : w.frozen? ⟨b, i, none⟩ = false := by simp [World.frozen?, h]
theorem set_blk {w : World} {b : Nat} {cs : Array Value} {T : TypeId} (h : w.heap[b]? = some (.cells cs T (0, 0))) (i : Nat) (u : Value) : (w.setCell ⟨b, i, none⟩ u).heap[b]? = some (.cells (cs.setIfInBounds i u) T (0, 0)) := by
  have hlt := lt_of_block h
  have h' : w.heap[b] = .cells cs T (0, 0) := by simpa [Array.getElem?_eq_getElem hlt] using h
  show (w.heap.modify b _)[b]? = _
  rw [Array.getElem?_eq_getElem (by simpa using hlt), Array.getElem_modify_self, h']
  rfl
/-- The world with another object in one block. -/
def setB (w : World) (b : Nat) (o : Obj) : World := { w with heap := w.heap.setIfInBounds b o }
theorem setB_size (w : World) (b : Nat) (o : Obj) : (setB w b o).heap.size = w.heap.size := by simp [setB]
theorem setB_at {w : World} {b : Nat} {o o' : Obj} (h : w.heap[b]? = some o) : (setB w b o').heap[b]? = some o' := (MapKept.heap_set (o' := o') h).1
theorem setB_other {w : World} {b k : Nat} {o' : Obj} (h : k ≠ b) : (setB w b o').heap[k]? = w.heap[k]? := by
  show (w.heap.setIfInBounds b o')[k]? = _
  rw [Array.getElem?_setIfInBounds]; simp [Ne.symm h]
theorem run_push {P : Program} {w : World} {T K E : TypeId} {r c : Nat} {es : Array MapEntry} {t : Bs} {v : Value} (hT : P.underlying T = some (.map K E)) (hK : P.underlying K = some .string) (hb : w.heap[r]? = some (.map es c))
    (hf : Instr.findNow .string (.string (S t)) es.toList 0 = some none) :
    (Instr.mapUpdate T (.map (some r)) (.string (S t)) v).run P w = .ok () (setB w r (.map (es.push { key := .string (S t), val := v, born := c }) (c + 1))) := by
  have hg := MapKept.run_getObj_map (P := P) hb
  have hk := MapKept.run_findKey (P := P) (w := w) hK hf
  have hs := MapKept.run_setObj_map (P := P) (.map (es.push { key := .string (S t), val := v, born := c }) (c + 1)) hb
  have hc : (Instr.checkKey false 10000 K (.string (S t))).run P w = .ok () w := MapKept.run_checkKey (k := .string (S t)) hK (by simp [MapKept.IsKey]) false 9999
  simp [Instr.mapUpdate, run_underlying hT, hg, hc, hk, Result.andThen]
  exact hs
def symV (s : Bs × Nat) : Value := .int .u32 s.2
def symC (s : Bs × Nat) : List Value := [.string (S s.1), .int .u32 s.2]
def flatS (l : List (Bs × Nat)) : List Value := l.flatMap symC
theorem flatS_len (l : List (Bs × Nat)) : (flatS l).length = l.length * 2 := by
  induction l with
  | nil => rfl
  | cons d ds ih => simp only [flatS, List.flatMap_cons, List.length_append] at ih ⊢; rw [ih]; simp [symC]; omega
theorem flatS_snoc (l : List (Bs × Nat)) (d : Bs × Nat) : flatS (l ++ [d]) = flatS l ++ symC d := by simp [flatS]
theorem mkE_snoc {α : Type} (f : α → Bs) (g : α → Value) (r : α) : ∀ (l : List α) (i : Nat), mkE f g (l ++ [r]) i = mkE f g l i ++ [{ key := .string (S (f r)), val := g r, born := i + l.length }]
  | [], i => rfl
  | q :: l, i => by
    simp only [List.cons_append, mkE, mkE_snoc f g r l, List.length_cons]
    rw [show i + 1 + l.length = i + (l.length + 1) by omega]
/-- The map of the labels. -/
def symM (l : List (Bs × Nat)) : Obj := .map (mkE Prod.fst symV l 0).toArray l.length
/-- The program that is being read, in memory. -/
structure PrgV (B : Nat) (w : World) (P M : Nat) (vs vd : Value) (syms : List (Bs × Nat)) (ds : List Draft) : Prop where
  blk : w.heap[P]? = some (.cells #[vs, .map (some M), vd] 110 (0, 0))
  map : w.heap[M]? = some (symM syms)
  rs : w.ownsRow B 51 2 vs syms.length (flatS syms)
  rd : w.ownsRow B 130 9 vd ds.length (flat ds)
/-- What reading a line leaves as it was, beside what lies below. -/
def Frame (P M : Nat) (w w' : World) : Prop :=
  ∀ k o, w.heap[k]? = some o → k ≠ P → k ≠ M → (∀ c z, o ≠ .cells c 51 z) → (∀ c z, o ≠ .cells c 130 z) → w'.heap[k]? = some o
theorem Frame.refl (P M : Nat) (w : World) : Frame P M w w := fun _ _ h _ _ _ _ => h
theorem Frame.trans {P M : Nat} {a b c : World} (h : Frame P M a b) (k : Frame P M b c) : Frame P M a c := fun i o h0 h1 h2 h3 h4 => k i o (h i o h0 h1 h2 h3 h4) h1 h2 h3 h4
theorem Frame.below {P M : Nat} {a b : World} (h : Below a.heap.size a b) : Frame P M a b := fun i o h0 _ _ _ _ => heap_below h0 h
theorem own_other {w w' : World} {base : Nat} {e : TypeId} {size : Nat} {v : Value} {n : Nat} {xs : List Value} (h : w.ownsRow base e size v n xs) (hk : ∀ g cur, v.ownBlock = some g → w.heap[g]? = some (.cells cur e (0, 0)) → w'.heap[g]? = some (.cells cur e (0, 0))) : w'.ownsRow base e size v n xs := by
  refine ⟨h.1, ?_⟩
  rcases h.2 with h | ⟨g, cap, cur, rfl, h2, h3, h4⟩
  · exact Or.inl h
  · exact Or.inr ⟨g, cap, cur, rfl, h2, hk g cur rfl h3, h4⟩
theorem own_type {w : World} {base : Nat} {e : TypeId} {size : Nat} {v : Value} {n : Nat} {xs : List Value} (h : w.ownsRow base e size v n xs) {g : Nat} (hg : v.ownBlock = some g) : ∃ cur, w.heap[g]? = some (.cells cur e (0, 0)) ∧ base ≤ g := by
  rcases h.2 with ⟨rfl, _⟩ | ⟨g', cap, cur, rfl, h2, h3, h4⟩
  · cases hg
  · simp [Value.ownBlock] at hg; subst hg; exact ⟨cur, h3, h2⟩
theorem PrgV.on {B : Nat} {w w' : World} {P M : Nat} {vs vd : Value} {syms : List (Bs × Nat)} {ds : List Draft} (h : PrgV B w P M vs vd syms ds) (hb : Below w.heap.size w w') : PrgV B w' P M vs vd syms ds :=
  ⟨heap_below h.blk hb, heap_below h.map hb, own_below h.rs hb, own_below h.rd hb⟩
def lookS (l : List (Bs × Nat)) (t : Bs) : Option Nat := (l.find? (fun s => s.1 == t)).map (·.2)
theorem zeroU32 (w : World) : (zeroValue 47).run Tryd.prog w = .ok (.int .u32 0) w := by kernel_rfl
theorem lookS_yes {w : World} {M : Nat} {syms : List (Bs × Nat)} (hb : w.heap[M]? = some (symM syms)) {t : Bs} {n : Nat} (h : lookS syms t = some n) :
    (Instr.lookup 107 (.map (some M)) (.string (S t)) true).run Tryd.prog w = .ok (.tuple #[.int .u32 n, .bool true]) w := by
  unfold lookS at h
  cases hf : syms.find? (fun s => s.1 == t) with
  | none => rw [hf] at h; cases h
  | some q =>
    rw [hf] at h
    obtain ⟨j, hn⟩ := (find_mk Prod.fst symV t syms 0 0).2 q hf
    have := run_look (P := Tryd.prog) Tryd.underlying107 Tryd.underlying9 (by unfold symM at hb; exact hb) hn (zeroU32 w)
    simp only [Option.map_some, Option.some.injEq] at h
    rw [← h]; exact this
theorem lookS_no {w : World} {M : Nat} {syms : List (Bs × Nat)} (hb : w.heap[M]? = some (symM syms)) {t : Bs} (h : lookS syms t = none) :
    (Instr.lookup 107 (.map (some M)) (.string (S t)) true).run Tryd.prog w = .ok (.tuple #[.int .u32 0, .bool false]) w := by
  have hf : syms.find? (fun s => s.1 == t) = none := by simpa [lookS] using h
  exact run_look (P := Tryd.prog) Tryd.underlying107 Tryd.underlying9 (by unfold symM at hb; exact hb) ((find_mk Prod.fst symV t syms 0 0).1 hf) (zeroU32 w)
theorem pushS {w : World} {M : Nat} {syms : List (Bs × Nat)} (hb : w.heap[M]? = some (symM syms)) {t : Bs} (h : lookS syms t = none) (n : Nat) :
    (Instr.mapUpdate 107 (.map (some M)) (.string (S t)) (.int .u32 n)).run Tryd.prog w = .ok () (setB w M (symM (syms ++ [(t, n)]))) := by
  have hf : syms.find? (fun s => s.1 == t) = none := by simpa [lookS] using h
  have := run_push (P := Tryd.prog) (v := .int .u32 n) Tryd.underlying107 Tryd.underlying9 (by unfold symM at hb; exact hb) ((find_mk Prod.fst symV t syms 0 0).1 hf)
  rw [this]
  unfold symM
  rw [mkE_snoc]
  simp [symV]
theorem info_sym : (Tryd.prog.info? 51).map (fun i => (i.zero, i.size, i.bytes)) = some (some (.agg #[.string { data := #[] }, .int .u32 0]), 2, 24) := by kernel_rfl
theorem define_old (B P M : Nat) (vs vd : Value) (syms : List (Bs × Nat)) (ds : List Draft) (t : Bs) (n : Nat) (w : World) (h : PrgV B w P M vs vd syms ds) (hl : lookS syms t = some n) :
    Calls Tryd.prog 95 #[.pointer (some ⟨P, 0, none⟩), .string (S t)] w fun e w' => e = .returned (.bool false) ∧ w = w' := by
  have c1 := cell_blk h.blk 1 rfl
  have hlk := lookS_yes h.map hl
  have H := Lib.hid h
  clear h hl
  go_enter Tryd.func95, Tryd.ntmps95
  go_wp2
  go_ret
  exact ⟨rfl, rfl⟩
theorem setB_prg {B : Nat} {w : World} {P M : Nat} {vs vd : Value} {syms : List (Bs × Nat)} {ds : List Draft} (h : PrgV B w P M vs vd syms ds) (syms' : List (Bs × Nat)) :
    (setB w M (symM syms')).heap[P]? = some (.cells #[vs, .map (some M), vd] 110 (0, 0)) ∧ (setB w M (symM syms')).heap[M]? = some (symM syms') ∧
    (setB w M (symM syms')).ownsRow B 51 2 vs syms.length (flatS syms) ∧ (setB w M (symM syms')).ownsRow B 130 9 vd ds.length (flat ds) := by
  have hm := h.map
  have ne : ∀ k cs T z, w.heap[k]? = some (.cells cs T z) → k ≠ M := fun k cs T z hk e => by
    subst e; rw [hk] at hm; unfold symM at hm; cases hm
  refine ⟨?_, setB_at h.map, own_other h.rs fun g cur _ hg => ?_, own_other h.rd fun g cur _ hg => ?_⟩
  · rw [setB_other (ne _ _ _ _ h.blk)]; exact h.blk
  · rw [setB_other (ne _ _ _ _ hg)]; exact hg
  · rw [setB_other (ne _ _ _ _ hg)]; exact hg
theorem new_cells (w : World) (xs : List Value) (T : TypeId) (g : Nat) (hg : g = w.heap.size) : ∀ j u, xs[j]? = some u → (w.alloc (.cells xs.toArray T)).cell? ((⟨g, 0, none⟩ : Addr).add j) = some u := by
  subst hg; exact new_cells9 w xs T
theorem one_sym (s : Bs × Nat) : ∀ u ∈ symC s, u.oneCell' = true := by simp [symC, Value.oneCell']
theorem own_row_eq {w : World} {base : Nat} {e : TypeId} {size : Nat} {v : Value} {n n' : Nat} {xs xs' : List Value} (h : w.ownsRow base e size v n xs) (hn : n = n') (hx : xs = xs') : w.ownsRow base e size v n' xs' := by subst hn; subst hx; exact h
theorem keep_type {W w1 : World} {o : Obj} {B : Nat} {e : TypeId} {size : Nat} {v : Value} {n : Nat} {xs : List Value} (hown : W.ownsRow B e size v n xs) (hg : (W.alloc o).grownBy w1 v.ownBlock) (k : Nat) (obj : Obj) (hk : W.heap[k]? = some obj) (hne : ∀ c z, obj ≠ .cells c e z) : w1.heap[k]? = some obj := by
  have hlt := lt_of_block hk
  have ne : some k ≠ v.ownBlock := fun he => by
    obtain ⟨cur, hc, _⟩ := own_type hown he.symm
    rw [hk] at hc
    exact hne cur (0, 0) (Option.some.inj hc)
  rw [hg.block k (by simp; omega) ne, heap_alloc_old _ _ hlt]
  exact hk
/-- A store into the program's block turns nothing else. -/
theorem set_prg {w1 : World} {P : Nat} {cs : Array Value} {T : TypeId} (i : Nat) (u : Value) (k : Nat) (obj : Obj) (hk : w1.heap[k]? = some obj) (h : k ≠ P) : (w1.setCell ⟨P, i, none⟩ u).heap[k]? = some obj := by
  rw [Below.heap_setCell _ _ _ _ h]; exact hk
theorem own_ne {w : World} {base : Nat} {e : TypeId} {size : Nat} {v : Value} {n : Nat} {xs : List Value} (h : w.ownsRow base e size v n xs) {P : Nat} {cs : Array Value} {T : TypeId} {z : Nat × Nat} (hP : w.heap[P]? = some (.cells cs T z)) (hT : T ≠ e) : v.ownBlock ≠ some P := fun he => by
  obtain ⟨cur, hc, _⟩ := own_type h he
  rw [hP] at hc
  have := Option.some.inj hc
  injection this with _ h2 _
  exact hT h2
theorem own_some {w : World} {base : Nat} {e : TypeId} {size : Nat} {v : Value} {n : Nat} {xs : List Value} (h : w.ownsRow base e size v n xs) (hn : 0 < n) : ∃ g cap, v = .slice (some ⟨g, 0, none⟩) n cap := by
  rcases h.2 with ⟨_, h0⟩ | ⟨g, cap, cur, rfl, _⟩
  · omega
  · exact ⟨g, cap, rfl⟩
/-- What defining a label leaves as it was. -/
def FrameS (P M : Nat) (w w' : World) : Prop :=
  ∀ k o, w.heap[k]? = some o → k ≠ P → k ≠ M → (∀ c z, o ≠ .cells c 51 z) → w'.heap[k]? = some o
theorem FrameS.frame {P M : Nat} {w w' : World} (h : FrameS P M w w') : Frame P M w w' := fun k o h0 h1 h2 h3 _ => h k o h0 h1 h2 h3
def DefPost (B P M : Nat) (vd : Value) (syms : List (Bs × Nat)) (ds : List Draft) (w : World) (e : Ending) (w' : World) : Prop :=
  e = .returned (.bool true) ∧ (∃ vs', PrgV B w' P M vs' vd syms ds) ∧ Below B w w' ∧ FrameS P M w w'
set_option maxRecDepth 100000 in
set_option maxHeartbeats 2000000 in
theorem define_new (B P M : Nat) (vs vd : Value) (syms : List (Bs × Nat)) (ds : List Draft) (t : Bs) (w : World) (h : PrgV B w P M vs vd syms ds) (hl : lookS syms t = none) (hP : B ≤ P) (hM : B ≤ M) (hd : ds.length ≤ 4096) (hs : syms.length ≤ 100000) :
    Calls Tryd.prog 95 #[.pointer (some ⟨P, 0, none⟩), .string (S t)] w (DefPost B P M vd (syms ++ [(t, 4 * ds.length)]) ds w) := by
  obtain ⟨i0, hi, hz0, hz1, hz2⟩ := info_parts info_sym
  have c0 := cell_blk h.blk 0 rfl
  have c1 := cell_blk h.blk 1 rfl
  have c2 := cell_blk h.blk 2 rfl
  have hlk := lookS_no h.map hl
  have hps : (Instr.mapUpdate 107 (.map (some M)) (.string (S t)) (.int .u32 (4 * (ds.length : Int)))).run Tryd.prog w = .ok () (setB w M (symM (syms ++ [(t, 4 * ds.length)]))) := pushS h.map hl (4 * ds.length)
  obtain ⟨g1, g2, g3, g4⟩ := setB_prg h (syms ++ [(t, 4 * ds.length)])
  have d0 := cell_blk g1 0 rfl
  have hPlt := lt_of_block h.blk
  have hMlt := lt_of_block h.map
  have hz := setB_size w M (symM (syms ++ [(t, 4 * ds.length)]))
  have hset : ∀ k, k ≠ M → (setB w M (symM (syms ++ [(t, 4 * ds.length)]))).heap[k]? = w.heap[k]? := fun k hk => setB_other hk
  have hbw : Below B w (setB w M (symM (syms ++ [(t, 4 * ds.length)]))) := ⟨rfl, rfl, rfl, by rw [hz]; exact Nat.le_refl _, fun k hk => hset k (by omega)⟩
  have H := Lib.hid h
  have G1 := Lib.hid g1
  have G2 := Lib.hid g2
  have HZ := Lib.hid hz
  have HSET := Lib.hid hset
  have hlen : ∃ n cap, vd = .slice n ds.length cap := by
    rcases h.rd.2 with ⟨rfl, h0⟩ | ⟨g, cap, cur, rfl, _⟩
    · exact ⟨none, 0, by rw [h0]⟩
    · exact ⟨_, _, rfl⟩
  obtain ⟨na, ncap, rfl⟩ := hlen
  clear h hl g1 g2 hz hset
  generalize hW : setB w M (symM (syms ++ [(t, 4 * ds.length)])) = W at *
  have HW := Lib.hid hW
  clear hW
  go_enter Tryd.func95, Tryd.ntmps95
  go_wp2_with (at_builtin; refine wpList_append_own _ rfl _ _ 44 rfl B 51 i0 _ 2 24 Tryd.underlying44 hi hz0 hz1 hz2 rfl (by decide) _ _ _ rfl (g3.alloc _) ⟨_, 0, none⟩ 1 1 (symC (t, 4 * ds.length)) rfl rfl (new_cells _ _ _ _ rfl) (one_sym _) (by unfold maxLen; omega) (by omega) (by have := HZ.out; simp; omega) ?_)
  intro v' w1 hown3 hg1 _
  obtain ⟨ga, gcap, hv⟩ := own_some hown3 (by omega)
  subst hv
  have keep := Lib.hid (keep_type g3 hg1)
  have blk1 := keep.out P _ G1.out (by intro c z h; cases h)
  have map1 := Lib.hid (keep.out M _ G2.out (by intro c z h; unfold symM at h; cases h))
  have e0 := cell_blk blk1 0 rfl
  have f0 := free_blk blk1 0
  have OWN := Lib.hid (own_row_eq hown3 (show _ = (syms ++ [(t, 4 * ds.length)]).length by simp) (flatS_snoc syms (t, 4 * ds.length)).symm)
  have RD := Lib.hid (own_other g4 fun g cur _ hg => keep.out g _ hg (by intro c z h; cases h))
  have BLK := Lib.hid blk1
  have hb1 : Below B w w1 := (hbw.alloc (by have := HZ.out; omega) _).grown hg1 (by have := HZ.out; simp; omega) (fun k hk => (g3.lt k hk).1)
  clear hown3 hg1 g3 g4 c0 c1 c2 hlk hps d0 G1 G2 blk1 hbw
  go_wp2
  go_ret
  have hsb := set_blk BLK.out 0 (.slice (some ⟨ga, 0, none⟩) (syms.length + 1) gcap)
  refine ⟨rfl, ⟨_, hsb, set_prg (cs := #[]) (T := 0) 0 _ M _ map1.out ?_, ?_, ?_⟩, hb1.setCell hP _, fun k o hk h1 h2 h3 => ?_⟩
  · intro e; have := map1.out; rw [e, BLK.out] at this; unfold symM at this; cases this
  · exact ownsRow_setCell_other OWN.out (own_ne OWN.out BLK.out (by decide)) _
  · exact ownsRow_setCell_other RD.out (own_ne RD.out BLK.out (by decide)) _
  · exact set_prg (cs := #[]) (T := 0) 0 _ k o (keep.out k o (by rw [HSET.out k h2]; exact hk) h3) h1
end Go.Proofs.YtegaookkfjgepaaDoor
