import Derived.Test.YthghbcjaokpilaaDoorAsmGf
import Derived.OneCell
import Derived.Test.YthghbcjaokpilaaDoorAsmFn9
import Derived.StillTailTactics
import Derived.Deep.RegionLaw
import Derived.Test.YthghbcjaokpilaaDoorAsmTab2
import Derived.Test.YthghbcjaokpilaaDoorFn
import Derived.Deep.RegionHeld3
namespace Go.Proofs.YthghbcjaokpilaaDoor
set_option linter.unusedVariables false
set_option linter.unusedSimpArgs false
open Go.ChangeShapes Go.WideShapes Go.ChangeAt Go.RowKit Go.Proofs.YthghbcjaokpilaaDoor.Num Go.Proofs.YthghbcjaokpilaaDoor.Mem Go.Proofs.YthghbcjaokpilaaDoor.Asm
theorem cell_blk {w : World} {b : Nat} {cs : Array Value} {T : TypeId} (h : w.heap[b]? = some (.cells cs T (0, 0))) (i : Nat) {v : Value} (hv : cs[i]? = some v) : w.cell? ⟨b, i, none⟩ = some v := by simp [World.cell?, h, hv]
theorem free_blk {w : World} {b : Nat} {cs : Array Value} {T : TypeId} (h : w.heap[b]? = some (.cells cs T (0, 0))) (i : Nat) : w.frozen? ⟨b, i, none⟩ = false := by simp [World.frozen?, h]
theorem set_blk {w : World} {b : Nat} {cs : Array Value} {T : TypeId} (h : w.heap[b]? = some (.cells cs T (0, 0))) (i : Nat) (u : Value) : (w.setCell ⟨b, i, none⟩ u).heap[b]? = some (.cells (cs.setIfInBounds i u) T (0, 0)) := by
  have hlt := lt_of_block h
  have h' : w.heap[b] = .cells cs T (0, 0) := by simpa [Array.getElem?_eq_getElem hlt] using h
  show (w.heap.modify b _)[b]? = _
  rw [Array.getElem?_eq_getElem (by simpa using hlt), Array.getElem_modify_self, h']
  rfl
/-- The world with another object in one block. -/
def setB (w : World) (b : Nat) (o : Obj) : World := { w with heap := w.heap.setIfInBounds b o }
theorem setB_size (w : World) (b : Nat) (o : Obj) : (setB w b o).heap.size = w.heap.size := by simp [setB]
theorem setB_at {w : World} {b : Nat} {o o' : Obj} (h : w.heap[b]? = some o) : (setB w b o').heap[b]? = some o' := (MapKept.heap_set (o' := o') h).1
theorem setB_other {w : World} {b k : Nat} {o' : Obj} (h : k ≠ b) : (setB w b o').heap[k]? = w.heap[k]? := by
  show (w.heap.setIfInBounds b o')[k]? = _
  rw [Array.getElem?_setIfInBounds]; simp [Ne.symm h]
theorem run_push {P : Program} {w : World} {T K E : TypeId} {r c : Nat} {es : Array MapEntry} {t : Bs} {v : Value} (hT : P.underlying T = some (.map K E)) (hK : P.underlying K = some .string) (hb : w.heap[r]? = some (.map es c))
    (hf : Instr.findNow .string (.string (S t)) es.toList 0 = some none) :
    (Instr.mapUpdate T (.map (some r)) (.string (S t)) v).run P w = .ok () (setB w r (.map (es.push { key := .string (S t), val := v, born := c }) (c + 1))) := by
  have hg := MapKept.run_getObj_map (P := P) hb
  have hk := MapKept.run_findKey (P := P) (w := w) hK hf
  have hs := MapKept.run_setObj_map (P := P) (.map (es.push { key := .string (S t), val := v, born := c }) (c + 1)) hb
  have hc : (Instr.checkKey false 10000 K (.string (S t))).run P w = .ok () w := MapKept.run_checkKey (k := .string (S t)) hK (by simp [MapKept.IsKey]) false 9999
  simp [Instr.mapUpdate, run_underlying hT, hg, hc, hk, Result.andThen]
  exact hs
def symV (s : Bs × Nat) : Value := .int .u32 s.2
def symC (s : Bs × Nat) : List Value := [.string (S s.1), .int .u32 s.2]
def flatS (l : List (Bs × Nat)) : List Value := l.flatMap symC
theorem flatS_len (l : List (Bs × Nat)) : (flatS l).length = l.length * 2 := by
  induction l with
  | nil => rfl
  | cons d ds ih => simp only [flatS, List.flatMap_cons, List.length_append] at ih ⊢; rw [ih]; simp [symC]; omega
theorem flatS_snoc (l : List (Bs × Nat)) (d : Bs × Nat) : flatS (l ++ [d]) = flatS l ++ symC d := by simp [flatS]
theorem mkE_snoc {α : Type} (f : α → Bs) (g : α → Value) (r : α) : ∀ (l : List α) (i : Nat), mkE f g (l ++ [r]) i = mkE f g l i ++ [{ key := .string (S (f r)), val := g r, born := i + l.length }]
  | [], i => rfl
  | q :: l, i => by
    simp only [List.cons_append, mkE, mkE_snoc f g r l, List.length_cons]
    rw [show i + 1 + l.length = i + (l.length + 1) by omega]
/-- The map of the labels. -/
def symM (l : List (Bs × Nat)) : Obj := .map (mkE Prod.fst symV l 0).toArray l.length
/-- The program that is being read, in memory. -/
structure PrgV (B : Nat) (w : World) (P M : Nat) (vs vd : Value) (syms : List (Bs × Nat)) (ds : List Draft) : Prop where
  blk : w.heap[P]? = some (.cells #[vs, .map (some M), vd] 64 (0, 0))
  map : w.heap[M]? = some (symM syms)
  rs : w.ownsRow B 60 2 vs syms.length (flatS syms)
  rd : w.ownsRow B 83 9 vd ds.length (flat ds)
/-- What reading a line leaves as it was, beside what lies below. -/
def Frame (P M : Nat) (w w' : World) : Prop :=
  ∀ k o, w.heap[k]? = some o → k ≠ P → k ≠ M → (∀ c z, o ≠ .cells c 60 z) → (∀ c z, o ≠ .cells c 83 z) → w'.heap[k]? = some o
theorem Frame.refl (P M : Nat) (w : World) : Frame P M w w := fun _ _ h _ _ _ _ => h
theorem Frame.trans {P M : Nat} {a b c : World} (h : Frame P M a b) (k : Frame P M b c) : Frame P M a c := fun i o h0 h1 h2 h3 h4 => k i o (h i o h0 h1 h2 h3 h4) h1 h2 h3 h4
theorem Frame.below {P M : Nat} {a b : World} (h : Below a.heap.size a b) : Frame P M a b := fun i o h0 _ _ _ _ => heap_below h0 h
theorem own_other {w w' : World} {base : Nat} {e : TypeId} {size : Nat} {v : Value} {n : Nat} {xs : List Value} (h : w.ownsRow base e size v n xs) (hk : ∀ g cur, v.ownBlock = some g → w.heap[g]? = some (.cells cur e (0, 0)) → w'.heap[g]? = some (.cells cur e (0, 0))) : w'.ownsRow base e size v n xs := by
  refine ⟨h.1, ?_⟩
  rcases h.2 with h | ⟨g, cap, cur, rfl, h2, h3, h4⟩
  · exact Or.inl h
  · exact Or.inr ⟨g, cap, cur, rfl, h2, hk g cur rfl h3, h4⟩
theorem own_type {w : World} {base : Nat} {e : TypeId} {size : Nat} {v : Value} {n : Nat} {xs : List Value} (h : w.ownsRow base e size v n xs) {g : Nat} (hg : v.ownBlock = some g) : ∃ cur, w.heap[g]? = some (.cells cur e (0, 0)) ∧ base ≤ g := by
  rcases h.2 with ⟨rfl, _⟩ | ⟨g', cap, cur, rfl, h2, h3, h4⟩
  · cases hg
  · simp [Value.ownBlock] at hg; subst hg; exact ⟨cur, h3, h2⟩
theorem PrgV.on {B : Nat} {w w' : World} {P M : Nat} {vs vd : Value} {syms : List (Bs × Nat)} {ds : List Draft} (h : PrgV B w P M vs vd syms ds) (hb : Below w.heap.size w w') : PrgV B w' P M vs vd syms ds :=
  ⟨heap_below h.blk hb, heap_below h.map hb, own_below h.rs hb, own_below h.rd hb⟩
def lookS (l : List (Bs × Nat)) (t : Bs) : Option Nat := (l.find? (fun s => s.1 == t)).map (·.2)
theorem zeroU32 (w : World) : (zeroValue 34).run Tryd.prog w = .ok (.int .u32 0) w := by kernel_rfl
theorem lookS_yes {w : World} {M : Nat} {syms : List (Bs × Nat)} (hb : w.heap[M]? = some (symM syms)) {t : Bs} {n : Nat} (h : lookS syms t = some n) :
    (Instr.lookup 61 (.map (some M)) (.string (S t)) true).run Tryd.prog w = .ok (.tuple #[.int .u32 n, .bool true]) w := by
  unfold lookS at h
  cases hf : syms.find? (fun s => s.1 == t) with
  | none => rw [hf] at h; cases h
  | some q =>
    rw [hf] at h
    obtain ⟨j, hn⟩ := (find_mk Prod.fst symV t syms 0 0).2 q hf
    have := run_look (P := Tryd.prog) Tryd.underlying61 Tryd.underlying9 (by unfold symM at hb; exact hb) hn (zeroU32 w)
    simp only [Option.map_some, Option.some.injEq] at h
    rw [← h]; exact this
theorem lookS_no {w : World} {M : Nat} {syms : List (Bs × Nat)} (hb : w.heap[M]? = some (symM syms)) {t : Bs} (h : lookS syms t = none) :
    (Instr.lookup 61 (.map (some M)) (.string (S t)) true).run Tryd.prog w = .ok (.tuple #[.int .u32 0, .bool false]) w := by
  have hf : syms.find? (fun s => s.1 == t) = none := by simpa [lookS] using h
  exact run_look (P := Tryd.prog) Tryd.underlying61 Tryd.underlying9 (by unfold symM at hb; exact hb) ((find_mk Prod.fst symV t syms 0 0).1 hf) (zeroU32 w)
theorem pushS {w : World} {M : Nat} {syms : List (Bs × Nat)} (hb : w.heap[M]? = some (symM syms)) {t : Bs} (h : lookS syms t = none) (n : Nat) :
    (Instr.mapUpdate 61 (.map (some M)) (.string (S t)) (.int .u32 n)).run Tryd.prog w = .ok () (setB w M (symM (syms ++ [(t, n)]))) := by
  have hf : syms.find? (fun s => s.1 == t) = none := by simpa [lookS] using h
  have := run_push (P := Tryd.prog) (v := .int .u32 n) Tryd.underlying61 Tryd.underlying9 (by unfold symM at hb; exact hb) ((find_mk Prod.fst symV t syms 0 0).1 hf)
  rw [this]
  unfold symM
  rw [mkE_snoc]
  simp [symV]
theorem info_sym : (Tryd.prog.info? 60).map (fun i => (i.zero, i.size, i.bytes)) = some (some (.agg #[.string { data := #[] }, .int .u32 0]), 2, 24) := by kernel_rfl
theorem define_old (B P M : Nat) (vs vd : Value) (syms : List (Bs × Nat)) (ds : List Draft) (t : Bs) (n : Nat) (w : World) (h : PrgV B w P M vs vd syms ds) (hl : lookS syms t = some n) :
    Calls Tryd.prog 45 #[.pointer (some ⟨P, 0, none⟩), .string (S t)] w fun e w' => e = .returned (.bool false) ∧ w = w' := by
  have c1 := cell_blk h.blk 1 rfl
  have hlk := lookS_yes h.map hl
  have H := Lib.hid h
  clear h hl
  go_enter Tryd.func45, Tryd.ntmps45
  go_wp2
  go_ret
  exact ⟨rfl, rfl⟩
theorem setB_prg {B : Nat} {w : World} {P M : Nat} {vs vd : Value} {syms : List (Bs × Nat)} {ds : List Draft} (h : PrgV B w P M vs vd syms ds) (syms' : List (Bs × Nat)) :
    (setB w M (symM syms')).heap[P]? = some (.cells #[vs, .map (some M), vd] 64 (0, 0)) ∧ (setB w M (symM syms')).heap[M]? = some (symM syms') ∧
    (setB w M (symM syms')).ownsRow B 60 2 vs syms.length (flatS syms) ∧ (setB w M (symM syms')).ownsRow B 83 9 vd ds.length (flat ds) := by
  have hm := h.map
  have ne : ∀ k cs T z, w.heap[k]? = some (.cells cs T z) → k ≠ M := fun k cs T z hk e => by
    subst e; rw [hk] at hm; unfold symM at hm; cases hm
  refine ⟨?_, setB_at h.map, own_other h.rs fun g cur _ hg => ?_, own_other h.rd fun g cur _ hg => ?_⟩
  · rw [setB_other (ne _ _ _ _ h.blk)]; exact h.blk
  · rw [setB_other (ne _ _ _ _ hg)]; exact hg
  · rw [setB_other (ne _ _ _ _ hg)]; exact hg
theorem new_cells (w : World) (xs : List Value) (T : TypeId) (g : Nat) (hg : g = w.heap.size) : ∀ j u, xs[j]? = some u → (w.alloc (.cells xs.toArray T)).cell? ((⟨g, 0, none⟩ : Addr).add j) = some u := by
  subst hg; exact new_cells9 w xs T
theorem one_sym (s : Bs × Nat) : ∀ u ∈ symC s, u.oneCell' = true := by simp [symC, Value.oneCell']
theorem own_row_eq {w : World} {base : Nat} {e : TypeId} {size : Nat} {v : Value} {n n' : Nat} {xs xs' : List Value} (h : w.ownsRow base e size v n xs) (hn : n = n') (hx : xs = xs') : w.ownsRow base e size v n' xs' := by subst hn; subst hx; exact h
theorem keep_type {W w1 : World} {o : Obj} {B : Nat} {e : TypeId} {size : Nat} {v : Value} {n : Nat} {xs : List Value} (hown : W.ownsRow B e size v n xs) (hg : (W.alloc o).grownBy w1 v.ownBlock) (k : Nat) (obj : Obj) (hk : W.heap[k]? = some obj) (hne : ∀ c z, obj ≠ .cells c e z) : w1.heap[k]? = some obj := by
  have hlt := lt_of_block hk
  have ne : some k ≠ v.ownBlock := fun he => by
    obtain ⟨cur, hc, _⟩ := own_type hown he.symm
    rw [hk] at hc
    exact hne cur (0, 0) (Option.some.inj hc)
  rw [hg.block k (by simp; omega) ne, heap_alloc_old _ _ hlt]
  exact hk
/-- A store into the program's block turns nothing else. -/
theorem set_prg {w1 : World} {P : Nat} {cs : Array Value} {T : TypeId} (i : Nat) (u : Value) (k : Nat) (obj : Obj) (hk : w1.heap[k]? = some obj) (h : k ≠ P) : (w1.setCell ⟨P, i, none⟩ u).heap[k]? = some obj := by
  rw [Below.heap_setCell _ _ _ _ h]; exact hk
theorem own_ne {w : World} {base : Nat} {e : TypeId} {size : Nat} {v : Value} {n : Nat} {xs : List Value} (h : w.ownsRow base e size v n xs) {P : Nat} {cs : Array Value} {T : TypeId} {z : Nat × Nat} (hP : w.heap[P]? = some (.cells cs T z)) (hT : T ≠ e) : v.ownBlock ≠ some P := fun he => by
  obtain ⟨cur, hc, _⟩ := own_type h he
  rw [hP] at hc
  have := Option.some.inj hc
  injection this with _ h2 _
  exact hT h2
theorem own_some {w : World} {base : Nat} {e : TypeId} {size : Nat} {v : Value} {n : Nat} {xs : List Value} (h : w.ownsRow base e size v n xs) (hn : 0 < n) : ∃ g cap, v = .slice (some ⟨g, 0, none⟩) n cap := by
  rcases h.2 with ⟨_, h0⟩ | ⟨g, cap, cur, rfl, _⟩
  · omega
  · exact ⟨g, cap, rfl⟩
/-- What defining a label leaves as it was. -/
def FrameS (P M : Nat) (w w' : World) : Prop :=
  ∀ k o, w.heap[k]? = some o → k ≠ P → k ≠ M → (∀ c z, o ≠ .cells c 60 z) → w'.heap[k]? = some o
theorem FrameS.frame {P M : Nat} {w w' : World} (h : FrameS P M w w') : Frame P M w w' := fun k o h0 h1 h2 h3 _ => h k o h0 h1 h2 h3
def DefPost (B P M : Nat) (vd : Value) (syms : List (Bs × Nat)) (ds : List Draft) (w : World) (e : Ending) (w' : World) : Prop :=
  e = .returned (.bool true) ∧ (∃ vs', PrgV B w' P M vs' vd syms ds) ∧ Below B w w' ∧ FrameS P M w w'
set_option maxRecDepth 100000 in
set_option maxHeartbeats 2000000 in
theorem define_new (B P M : Nat) (vs vd : Value) (syms : List (Bs × Nat)) (ds : List Draft) (t : Bs) (w : World) (h : PrgV B w P M vs vd syms ds) (hl : lookS syms t = none) (hP : B ≤ P) (hM : B ≤ M) (hd : ds.length ≤ 4096) (hs : syms.length ≤ 100000) :
    Calls Tryd.prog 45 #[.pointer (some ⟨P, 0, none⟩), .string (S t)] w (DefPost B P M vd (syms ++ [(t, 4 * ds.length)]) ds w) := by
  obtain ⟨i0, hi, hz0, hz1, hz2⟩ := info_parts info_sym
  have c0 := cell_blk h.blk 0 rfl
  have c1 := cell_blk h.blk 1 rfl
  have c2 := cell_blk h.blk 2 rfl
  have hlk := lookS_no h.map hl
  have hps : (Instr.mapUpdate 61 (.map (some M)) (.string (S t)) (.int .u32 (4 * (ds.length : Int)))).run Tryd.prog w = .ok () (setB w M (symM (syms ++ [(t, 4 * ds.length)]))) := pushS h.map hl (4 * ds.length)
  obtain ⟨g1, g2, g3, g4⟩ := setB_prg h (syms ++ [(t, 4 * ds.length)])
  have d0 := cell_blk g1 0 rfl
  have hPlt := lt_of_block h.blk
  have hMlt := lt_of_block h.map
  have hz := setB_size w M (symM (syms ++ [(t, 4 * ds.length)]))
  have hset : ∀ k, k ≠ M → (setB w M (symM (syms ++ [(t, 4 * ds.length)]))).heap[k]? = w.heap[k]? := fun k hk => setB_other hk
  have hbw : Below B w (setB w M (symM (syms ++ [(t, 4 * ds.length)]))) := ⟨rfl, rfl, rfl, by rw [hz]; exact Nat.le_refl _, fun k hk => hset k (by omega)⟩
  have H := Lib.hid h
  have G1 := Lib.hid g1
  have G2 := Lib.hid g2
  have HZ := Lib.hid hz
  have HSET := Lib.hid hset
  have hlen : ∃ n cap, vd = .slice n ds.length cap := by
    rcases h.rd.2 with ⟨rfl, h0⟩ | ⟨g, cap, cur, rfl, _⟩
    · exact ⟨none, 0, by rw [h0]⟩
    · exact ⟨_, _, rfl⟩
  obtain ⟨na, ncap, rfl⟩ := hlen
  clear h hl g1 g2 hz hset
  generalize hW : setB w M (symM (syms ++ [(t, 4 * ds.length)])) = W at *
  have HW := Lib.hid hW
  clear hW
  go_enter Tryd.func45, Tryd.ntmps45
  go_wp2_with (at_builtin; refine wpList_append_own _ rfl _ _ 35 rfl B 60 i0 _ 2 24 Tryd.underlying35 hi hz0 hz1 hz2 rfl (by decide) _ _ _ rfl (g3.alloc _) ⟨_, 0, none⟩ 1 1 (symC (t, 4 * ds.length)) rfl rfl (new_cells _ _ _ _ rfl) (one_sym _) (by unfold maxLen; omega) (by omega) (by have := HZ.out; simp; omega) ?_)
  intro v' w1 hown3 hg1 _
  obtain ⟨ga, gcap, hv⟩ := own_some hown3 (by omega)
  subst hv
  have keep := Lib.hid (keep_type g3 hg1)
  have blk1 := keep.out P _ G1.out (by intro c z h; cases h)
  have map1 := Lib.hid (keep.out M _ G2.out (by intro c z h; unfold symM at h; cases h))
  have e0 := cell_blk blk1 0 rfl
  have f0 := free_blk blk1 0
  have OWN := Lib.hid (own_row_eq hown3 (show _ = (syms ++ [(t, 4 * ds.length)]).length by simp) (flatS_snoc syms (t, 4 * ds.length)).symm)
  have RD := Lib.hid (own_other g4 fun g cur _ hg => keep.out g _ hg (by intro c z h; cases h))
  have BLK := Lib.hid blk1
  have hb1 : Below B w w1 := (hbw.alloc (by have := HZ.out; omega) _).grown hg1 (by have := HZ.out; simp; omega) (fun k hk => (g3.lt k hk).1)
  clear hown3 hg1 g3 g4 c0 c1 c2 hlk hps d0 G1 G2 blk1 hbw
  go_wp2
  go_ret
  have hsb := set_blk BLK.out 0 (.slice (some ⟨ga, 0, none⟩) (syms.length + 1) gcap)
  refine ⟨rfl, ⟨_, hsb, set_prg (cs := #[]) (T := 0) 0 _ M _ map1.out ?_, ?_, ?_⟩, hb1.setCell hP _, fun k o hk h1 h2 h3 => ?_⟩
  · intro e; have := map1.out; rw [e, BLK.out] at this; unfold symM at this; cases this
  · exact ownsRow_setCell_other OWN.out (own_ne OWN.out BLK.out (by decide)) _
  · exact ownsRow_setCell_other RD.out (own_ne RD.out BLK.out (by decide)) _
  · exact set_prg (cs := #[]) (T := 0) 0 _ k o (keep.out k o (by rw [HSET.out k h2]; exact hk) h3) h1
end Go.Proofs.YthghbcjaokpilaaDoor

namespace Go.Proofs.YthghbcjaokpilaaDoor
set_option linter.unusedVariables false
set_option linter.unusedSimpArgs false
open Go.ChangeShapes Go.WideShapes Go.ChangeAt Go.RowKit Go.Proofs.YthghbcjaokpilaaDoor.Num Go.Proofs.YthghbcjaokpilaaDoor.Mem Go.Proofs.YthghbcjaokpilaaDoor.Asm
/-- Where the row lies behind an append: where it lay, or in a block that is new. -/
theorem append_where {P : Program} {w w' : World} {base : Nat} {t ty e : TypeId} {i : TypeInfo} {z v v' : Value} {size bytes n m c : Nat} {xs news : List Value} {a : Addr} (ht : P.underlying t = some (.slice e)) (hi : P.info? e = some i) (hz : i.zero = some z)
    (hsize : i.size = size) (hby : i.bytes = bytes) (hown : w.ownsRow base e size v n xs) (hl : news.length = m * size) (hnews : ∀ j u, news[j]? = some u → w.cell? (a.add j) = some u) (h1 : ∀ u ∈ news, u.oneCell' = true)
    (h63 : n + m ≤ maxLen) (hbytes : (n + m) * bytes ≤ 140737488355328) (hm : 0 < m) (hr : (Builtin.append_ #[t, t] ty #[v, .slice (some a) m c]).run P w = .ok v' w') : v'.ownBlock = v.ownBlock ∨ v'.ownBlock = some w.heap.size := by
  subst hsize hby
  have hsmall : n + m ≤ 9223372036854775807 := by simp only [maxLen] at h63; omega
  rcases hown.2 with ⟨rfl, rfl⟩ | ⟨g, cap, cur, rfl, hbg, hg, hnc, hcm, hcs, htake⟩
  · have h := run_append_nil (P := P) w t ty e i z ht hi hz a m c news hl hnews (by omega) (by omega) (by have hb := hbytes; simp only [Nat.zero_add] at hb; omega)
    rw [h] at hr
    injection hr with h1 h2
    exact Or.inr (by rw [← h1]; rfl)
  · by_cases hroom : n + m ≤ cap
    · have hfit : n * i.size + news.length ≤ cur.size := by rw [hl, hcs, ← Nat.add_mul]; exact Nat.mul_le_mul_right _ hroom
      have h := run_append_room (P := P) w t ty e i ht hi g n cap cur hg a m c news hl hnews h1 hroom hfit
      rw [h] at hr
      injection hr with h1 h2
      exact Or.inl (by rw [← h1]; rfl)
    · have h := run_append_grow (P := P) w t ty e i z ht hi hz ⟨g, 0, none⟩ n cap xs hown.1 (hown.cells (g := g) rfl) a m c news hl hnews (by omega) (by omega) (growslice_fits (by omega) hbytes)
      rw [h] at hr
      injection hr with h1 h2
      exact Or.inr (by rw [← h1]; rfl)
theorem wpList_append_own2 {P : Program} (w : World) {ops : Array Oper} {rest : List Oper} {o : Oper} {a : Act} {Q : Exit → Act → World → Prop} (hgd : o.guard = none) (s x : Operand) (t : TypeId)
    (ho : o.op = .call { callee := .builtin .append, args := #[s, x], argTypes := #[t, t] })
    (base : Nat) (e : TypeId) (i : TypeInfo) (z : Value) (size bytes : Nat) (ht : P.underlying t = some (.slice e)) (hi : P.info? e = some i) (hz : i.zero = some z)
    (hsize : i.size = size) (hby : i.bytes = bytes) (hzs : z.cells.size = size) (hsz : 0 < size)
    (v : Value) (n : Nat) (xs : List Value) (hs : a.eval s = v) (hown : w.ownsRow base e size v n xs)
    (ad : Addr) (m c : Nat) (news : List Value) (hx : a.eval x = .slice (some ad) m c) (hl : news.length = m * size) (hnews : ∀ j u, news[j]? = some u → w.cell? (ad.add j) = some u) (h1 : ∀ u ∈ news, u.oneCell' = true)
    (h63 : n + m ≤ maxLen) (hbytes : (n + m) * bytes ≤ 140737488355328) (hbase : base ≤ w.heap.size) (hm : 0 < m)
    (h : ∀ v' w', w'.ownsRow base e size v' (n + m) (xs ++ news) → w.grownBy w' v.ownBlock → (v'.ownBlock = v.ownBlock ∨ v'.ownBlock = some w.heap.size) → wpList P ops Q rest (a.put o.dst v') w') : wpList P ops Q (o :: rest) a w :=
  wpList_plain hgd fun _ hK => by
    obtain ⟨v', w', hr, h2, h3, _⟩ := run_append_own (P := P) w base t o.type e i z size bytes ht hi hz hsize hby hzs hsz v n xs hown ad m c news hl hnews h1 h63 hbytes hbase
    have h5 := append_where ht hi hz hsize hby hown hl hnews h1 h63 hbytes hm hr
    unfold Oper.wp execOp
    simp only [ho, resolve, invoke, builtin, Sem.run_bind, Sem.run_pure, Result.andThen_ok, List.map_toArray, List.map_cons, List.map_nil, hs, hx, hr]
    exact hK _ _ (h v' w' h2 h3 h5)
theorem statement_toks (r : Nat) (v : Value) (ts : List Bs) (w : World) (h : Toks w v ts) (hb : w.heap[r]? = some (.map (tabA 49) 49)) (hl : ts.length ≤ 1000000) (hne : ∀ t ∈ ts, t ≠ []) : Calls Tryd.prog 44 #[.map (some r), v] w (WordsPost (stmtL ts) w) := by
  match ts, h with
  | [], h =>
    rcases h with ⟨_, oa, cap, rfl⟩ | ⟨b, off, cap, rfl, _⟩
    · exact statement_nil r oa cap w
    · exact statement_nil r (some ⟨b, off, none⟩) cap w
  | m :: ts, h =>
    rcases h with ⟨h, _⟩ | ⟨b, off, cap, rfl, hcap, hc⟩
    · cases h
    · exact statement_cons r b off cap m ts w hb hcap (by simp at hl; omega) hc (fun t ht => hne t (by simp [ht]))
/-- A line: its label, and the words of its statement. -/
def lineR (l : Bs) : Option (Bs × List Draft) := (labelL (toksL l)).bind fun x => (stmtL x.2).map fun ds => (x.1, ds)
def numbered (n : Int) (ds : List Draft) : List Draft := ds.map fun d => { d with line := n }
def addSyms (syms : List (Bs × Nat)) (ds : List Draft) (lab : Bs) : List (Bs × Nat) := if lab = [] then syms else syms ++ [(lab, 4 * ds.length)]
theorem labelL_ne {ts : List Bs} (h : ∀ t ∈ ts, t ≠ []) {x : Bs × List Bs} (hx : labelL ts = some x) : (∀ t ∈ x.2, t ≠ []) ∧ x.2.length ≤ ts.length := by
  unfold labelL at hx
  split at hx
  · split at hx
    · split at hx
      · simp at hx; subst hx; exact ⟨fun t ht => h t (by simp [ht]), by simp; omega⟩
      · simp at hx
    · simp at hx; subst hx; exact ⟨fun t ht => h t (by simpa using ht), Nat.le_refl _⟩
  · simp at hx; subst hx; exact ⟨h, Nat.le_refl _⟩
theorem toks_len (l : Bs) : (toksL l).length ≤ 1 + 2 * l.length := by
  unfold toksL
  have h1 := tokGo_len (l.takeWhile (· != 59)) []
  have h2 : (l.takeWhile (· != 59)).length ≤ l.length := (List.takeWhile_sublist _).length_le
  omega
theorem below_step' {B m : Nat} {a b c : World} (h : Below a.heap.size a b) (hB : B ≤ a.heap.size) (k : Below (b.drewN m).heap.size (b.drewN m) c) : Below B a c :=
  (below_step (below_drewN h m) k).mono hB
theorem lineR_some {l lab : Bs} {dd : List Draft} (h : lineR l = some (lab, dd)) : ∃ rest, labelL (toksL l) = some (lab, rest) ∧ stmtL rest = some dd := by
  unfold lineR at h
  cases hx : labelL (toksL l) with
  | none => rw [hx] at h; cases h
  | some x =>
    rw [hx] at h
    cases hy : stmtL x.2 with
    | none => simp [hy] at h
    | some d =>
      simp [hy] at h
      obtain ⟨h1, h2⟩ := h
      exact ⟨x.2, by rw [← h1], by rw [hy, h2]⟩
def AddPost (B P M : Nat) (number : Int) (syms : List (Bs × Nat)) (ds : List Draft) (r : Option (Bs × List Draft)) (w : World) (e : Ending) (w' : World) : Prop :=
  match r with
  | none => e = .returned (.int .i64 301) ∧ Below B w w'
  | some (lab, dd) =>
    if lab ≠ [] ∧ (lookS syms lab).isSome = true then e = .returned (.int .i64 303) ∧ Below B w w'
    else if 1024 < (ds ++ numbered number dd).length then e = .returned (.int .i64 305) ∧ Below B w w'
    else e = .returned (.int .i64 0) ∧ (∃ vs vd, PrgV B w' P M vs vd (addSyms syms ds lab) (ds ++ numbered number dd)) ∧ Below B w w' ∧ Frame P M w w'
theorem toks_ct (line : ByteArray) (w : World) (hs : line.size ≤ 100000) : Calls Tryd.prog 43 #[.string line] w fun e w' => (∃ v, e = .returned v ∧ Toks w' v (toksL line.data.toList)) ∧ Below w.heap.size w w' :=
  (toks_asm line w hs).mono fun e w' ⟨v, he, hown, hb⟩ => ⟨⟨v, he, Toks.of hown⟩, hb⟩
theorem tk_bound (line : ByteArray) (hs : line.size ≤ 100000) : (toksL line.data.toList).length ≤ 1000000 := by
  have := toks_len line.data.toList
  rw [len_size] at this; omega
set_option maxRecDepth 100000 in
set_option maxHeartbeats 4000000 in
theorem add_form (B R P M : Nat) (line : ByteArray) (number : Int) (syms : List (Bs × Nat)) (ds : List Draft) (w : World) (hs : line.size ≤ 100000) (hR : w.heap[R]? = some (.map (tabA 49) 49)) (hB : B ≤ w.heap.size) (hl : lineR line.data.toList = none) :
    Calls Tryd.prog 30 #[.pointer (some ⟨P, 0, none⟩), .map (some R), .string line, .int .i64 number] w fun e w' => e = .returned (.int .i64 301) ∧ Below B w w' := by
  have HT := Lib.hid (fun W => toks_ct line W hs)
  have hne := toksL_ne line.data.toList
  have hbd := tk_bound line hs
  unfold lineR at hl
  generalize toksL line.data.toList = ts at *
  have HR := Lib.hid hR
  have HN := Lib.hid hne
  clear hR
  cases hlab : labelL ts with
  | none =>
    have hlb := fun v W (h : Toks W v ts) => label_asm v ts W h hne hbd
    rw [hlab] at hlb
    have HL := Lib.hid (show ∀ v W, Toks W v ts → Calls Tryd.prog 42 #[v] W fun e w' => e = .returned (.tuple #[.string { data := #[] }, .slice none 0 0, .bool false]) ∧ ∃ m, w' = W.drewN m from hlb)
    clear hlb hlab hl hne
    go_enter Tryd.func30, Tryd.ntmps30
    go_wp2_with (first
      | (go_at_call 43; (with_reducible refine (HT.out _).mono ?_); rintro e w1 ⟨⟨v1, rfl, ht1⟩, hb1⟩; have HT1 := Lib.hid ht1; clear ht1)
      | (go_at_call 42; (with_reducible refine (HL.out _ _ HT1.out).mono ?_); rintro e w2 ⟨rfl, m, rfl⟩))
    go_ret
    exact ⟨rfl, below_drewN (hb1.mono hB) m⟩
  | some x =>
    obtain ⟨lab, rest⟩ := x
    rw [hlab] at hl
    have hst : stmtL rest = none := by simpa using hl
    obtain ⟨hn2, hl2⟩ := labelL_ne hne hlab
    have hlb := fun v W (h : Toks W v ts) => label_asm v ts W h hne hbd
    rw [hlab] at hlb
    have HL := Lib.hid (show ∀ v W, Toks W v ts → Calls Tryd.prog 42 #[v] W fun e w' => (∃ v', e = .returned (.tuple #[.string (S lab), v', .bool true]) ∧ Toks W v' rest) ∧ ∃ m, w' = W.drewN m from hlb)
    have hsm := fun v W (h : Toks W v rest) (hb : W.heap[R]? = some (.map (tabA 49) 49)) => statement_toks R v rest W h hb (by dsimp only at hl2; omega) hn2
    rw [hst] at hsm
    have HSM := Lib.hid (show ∀ v W, Toks W v rest → W.heap[R]? = some (.map (tabA 49) 49) → Calls Tryd.prog 44 #[.map (some R), v] W fun e w' => e = .returned (.tuple #[.slice none 0 0, .bool false]) ∧ Below W.heap.size W w' from hsm)
    clear hlb hlab hl hne hsm hst hn2 hl2
    go_enter Tryd.func30, Tryd.ntmps30
    go_wp2_with (first
      | (go_at_call 43; (with_reducible refine (HT.out _).mono ?_); rintro e w1 ⟨⟨v1, rfl, ht1⟩, hb1⟩; have HT1 := Lib.hid ht1; have HR1 := Lib.hid (heap_below HR.out hb1); clear ht1)
      | (go_at_call 42; (with_reducible refine (HL.out _ _ HT1.out).mono ?_); rintro e w2 ⟨⟨v2, rfl, ht2⟩, m, rfl⟩; have HT2 := Lib.hid (ht2.on (drewN_below w1 m)); have HR2 := Lib.hid (heap_below HR1.out (drewN_below w1 m)); clear ht2)
      | (go_at_call 44; (with_reducible refine (HSM.out _ _ HT2.out HR2.out).mono ?_); rintro e w3 ⟨rfl, hb3⟩))
    go_ret
    exact ⟨rfl, below_step' hb1 hB hb3⟩
set_option maxRecDepth 100000 in
set_option maxHeartbeats 4000000 in
theorem add_twice (B R P M : Nat) (vs vd : Value) (line : ByteArray) (number : Int) (syms : List (Bs × Nat)) (ds : List Draft) (w : World) (lab : Bs) (dd : List Draft) (n : Nat) (hs : line.size ≤ 100000) (hR : w.heap[R]? = some (.map (tabA 49) 49)) (hB : B ≤ w.heap.size)
    (hp : PrgV B w P M vs vd syms ds) (hl : lineR line.data.toList = some (lab, dd)) (h0 : lab ≠ []) (ht : lookS syms lab = some n) :
    Calls Tryd.prog 30 #[.pointer (some ⟨P, 0, none⟩), .map (some R), .string line, .int .i64 number] w fun e w' => e = .returned (.int .i64 303) ∧ Below B w w' := by
  have HT := Lib.hid (fun W => toks_ct line W hs)
  have hne := toksL_ne line.data.toList
  have hbd := tk_bound line hs
  replace hl := lineR_some hl
  generalize toksL line.data.toList = ts at *
  have HR := Lib.hid hR
  have HN := Lib.hid hne
  clear hR
  obtain ⟨rest, hlab, hst⟩ := hl
  obtain ⟨hn2, hl2⟩ := labelL_ne hne hlab
  have hlb := fun v W (h : Toks W v ts) => label_asm v ts W h hne hbd
  rw [hlab] at hlb
  have HL := Lib.hid (show ∀ v W, Toks W v ts → Calls Tryd.prog 42 #[v] W fun e w' => (∃ v', e = .returned (.tuple #[.string (S lab), v', .bool true]) ∧ Toks W v' rest) ∧ ∃ m, w' = W.drewN m from hlb)
  have hsm := fun v W (h : Toks W v rest) (hb : W.heap[R]? = some (.map (tabA 49) 49)) => statement_toks R v rest W h hb (by dsimp only at hl2; omega) hn2
  rw [hst] at hsm
  have HSM := Lib.hid (show ∀ v W, Toks W v rest → W.heap[R]? = some (.map (tabA 49) 49) → Calls Tryd.prog 44 #[.map (some R), v] W fun e w' => (∃ vd', e = .returned (.tuple #[vd', .bool true]) ∧ w'.ownsRow W.heap.size 83 9 vd' dd.length (flat dd)) ∧ Below W.heap.size W w' from hsm)
  have HP := Lib.hid hp
  have q1 := toL_ne (S_pos h0)
  have q2 := toL_ne' (S_pos h0)
  have HDF := Lib.hid (fun W h => define_old B P M vs vd syms ds lab n W h ht)
  clear hlb hlab hne hsm hst hn2 hl2 hp h0 ht
  go_enter Tryd.func30, Tryd.ntmps30
  go_wp2_with (first
      | (go_at_call 43; (with_reducible refine (HT.out _).mono ?_); rintro e w1 ⟨⟨v1, rfl, ht1⟩, hb1⟩; have HT1 := Lib.hid ht1; have HR1 := Lib.hid (heap_below HR.out hb1); have HP1 := Lib.hid (HP.out.on hb1); clear ht1)
      | (go_at_call 42; (with_reducible refine (HL.out _ _ HT1.out).mono ?_); rintro e w2 ⟨⟨v2, rfl, ht2⟩, m, rfl⟩; have HT2 := Lib.hid (ht2.on (drewN_below w1 m)); have HR2 := Lib.hid (heap_below HR1.out (drewN_below w1 m)); have HP2 := Lib.hid (HP1.out.on (drewN_below w1 m)); clear ht2)
      | (go_at_call 44; (with_reducible refine (HSM.out _ _ HT2.out HR2.out).mono ?_); rintro e w3 ⟨⟨vd3, rfl, hown3⟩, hb3⟩; have HD3 := Lib.hid hown3; have HP3 := Lib.hid (HP2.out.on hb3); have HB3 := Lib.hid hb3; clear hown3 hb3)
      | (go_at_call 45; (with_reducible refine (HDF.out _ HP3.out).mono ?_); rintro e w4 ⟨rfl, rfl⟩))
  go_ret
  exact ⟨rfl, below_step' hb1 hB HB3.out⟩
end Go.Proofs.YthghbcjaokpilaaDoor

namespace Go.Proofs.YthghbcjaokpilaaDoor
set_option linter.unusedVariables false
set_option linter.unusedSimpArgs false
open Go.ChangeShapes Go.WideShapes Go.ChangeAt Go.RowKit Go.Proofs.YthghbcjaokpilaaDoor.Num Go.Proofs.YthghbcjaokpilaaDoor.Mem Go.Proofs.YthghbcjaokpilaaDoor.Asm
theorem step_append_own2 {P : Program} {w : World} {ops : Array Oper} {o : Oper} {a : Act} {K : Act → World → Prop} {Q : Exit → Act → World → Prop} {E : Prop} (hgd : o.guard = none) (s x : Operand) (t : TypeId)
    (ho : o.op = .call { callee := .builtin .append, args := #[s, x], argTypes := #[t, t] })
    (base : Nat) (e : TypeId) (i : TypeInfo) (z : Value) (size bytes : Nat) (ht : P.underlying t = some (.slice e)) (hi : P.info? e = some i) (hz : i.zero = some z)
    (hsize : i.size = size) (hby : i.bytes = bytes) (hzs : z.cells.size = size) (hsz : 0 < size)
    (v : Value) (n : Nat) (xs : List Value) (hs : a.eval s = v) (hown : w.ownsRow base e size v n xs)
    (ad : Addr) (m c : Nat) (news : List Value) (hx : a.eval x = .slice (some ad) m c) (hl : news.length = m * size) (hnews : ∀ j u, news[j]? = some u → w.cell? (ad.add j) = some u) (h1 : ∀ u ∈ news, u.oneCell' = true)
    (h63 : n + m ≤ maxLen) (hbytes : (n + m) * bytes ≤ 140737488355328) (hbase : base ≤ w.heap.size) (hm : 0 < m)
    (h : ∀ v' w', w'.ownsRow base e size v' (n + m) (xs ++ news) → w.grownBy w' v.ownBlock → (v'.ownBlock = v.ownBlock ∨ v'.ownBlock = some w.heap.size) → K (a.put o.dst v') w') :
    if Region.wanted o (yielded ops a.tmps) = true then Oper.wp P o a w K Q else E := by
  have hw : Region.wanted o (yielded ops a.tmps) = true := by simp [Region.wanted, hgd]
  rw [if_pos hw]
  obtain ⟨v', w', hr, h2, h3, _⟩ := run_append_own (P := P) w base t o.type e i z size bytes ht hi hz hsize hby hzs hsz v n xs hown ad m c news hl hnews h1 h63 hbytes hbase
  have h5 := append_where ht hi hz hsize hby hown hl hnews h1 h63 hbytes hm hr
  unfold Oper.wp execOp
  simp only [ho, resolve, invoke, builtin, Sem.run_bind, Sem.run_pure, Result.andThen_ok, List.map_toArray, List.map_cons, List.map_nil, hs, hx, hr]
  exact h v' w' h2 h3 h5
theorem new_cells_g {W : World} {g : Nat} {xs : List Value} {T : TypeId} (hh : W.heap[g]? = some (.cells xs.toArray T (0, 0))) : ∀ j u, xs[j]? = some u → W.cell? ((⟨g, 0, none⟩ : Addr).add j) = some u := by
  intro j u h
  rw [add_plain, Nat.zero_add]
  exact cell_blk hh j (by simpa using h)
theorem heap2 (wr : World) (o o2 : Obj) : ((wr.alloc o).alloc o2).heap[wr.heap.size + 1]? = some o2 := by
  have := heap_alloc_new (wr.alloc o) o2
  simpa using this
theorem keep_g {W w1 : World} {B : Nat} {e : TypeId} {size : Nat} {v : Value} {n : Nat} {xs : List Value} (hown : W.ownsRow B e size v n xs) (hg : W.grownBy w1 v.ownBlock) (k : Nat) (obj : Obj) (hk : W.heap[k]? = some obj) (hne : ∀ c z, obj ≠ .cells c e z) : w1.heap[k]? = some obj := by
  have ne : some k ≠ v.ownBlock := fun he => by
    obtain ⟨cur, hc, _⟩ := own_type hown he.symm
    rw [hk] at hc
    exact hne cur (0, 0) (Option.some.inj hc)
  rw [hg.block k (lt_of_block hk) ne]
  exact hk
theorem num_len (n : Int) (ds dd : List Draft) (k : Nat) (hk : k ≤ dd.length) : (ds ++ numbered n (dd.take k)).length = ds.length + k := by
  simp [numbered, Nat.min_eq_left hk]
theorem own_lt {w : World} {base : Nat} {e : TypeId} {size : Nat} {v : Value} {n : Nat} {xs : List Value} (h : w.ownsRow base e size v n xs) {g : Nat} (hg : v.ownBlock = some g) : g < w.heap.size := by
  obtain ⟨cur, hc, _⟩ := own_type h hg
  exact lt_of_block hc
theorem after5 {B P M b0 n : Nat} {w wr W w5 : World} {vs' vd' v5 vd3 : Value} {syms : List (Bs × Nat)} {L : List Draft} {d : Draft} {xs : List Value} (hP : PrgV B wr P M vs' vd' syms L) (hW : Below wr.heap.size wr W) (hg : W.grownBy w5 vd'.ownBlock)
    (hown : w5.ownsRow B 83 9 v5 (L.length + 1) (flat L ++ dCells d)) (hwh : v5.ownBlock = vd'.ownBlock ∨ v5.ownBlock = some W.heap.size) (hD : wr.ownsRow b0 83 9 vd3 n xs) (hne : ∀ g, vd3.ownBlock = some g → vd'.ownBlock ≠ some g)
    (hb : Below B w wr) (hBw : B ≤ wr.heap.size) (hBP : B ≤ P) :
    w5.heap[P]? = some (.cells #[vs', .map (some M), vd'] 64 (0, 0)) ∧ PrgV B (w5.setCell ⟨P, 2, none⟩ v5) P M vs' v5 syms (L ++ [d]) ∧ Frame P M wr (w5.setCell ⟨P, 2, none⟩ v5) ∧ Below B w (w5.setCell ⟨P, 2, none⟩ v5) ∧
    (w5.setCell ⟨P, 2, none⟩ v5).ownsRow b0 83 9 vd3 n xs ∧ (∀ g, vd3.ownBlock = some g → v5.ownBlock ≠ some g) := by
  have hPW := hP.on hW
  have keep := keep_g hPW.rd hg
  have blk := keep P _ hPW.blk (by intro c z h; cases h)
  have map := keep M _ hPW.map (by intro c z h; unfold symM at h; cases h)
  have hown' : w5.ownsRow B 83 9 v5 (L ++ [d]).length (flat (L ++ [d])) := by rw [flat_snoc]; simpa using hown
  have hrs : w5.ownsRow B 60 2 vs' syms.length (flatS syms) := own_other hPW.rs fun g cur _ hg => keep g _ hg (by intro c z h; cases h)
  have hDW := own_below hD hW
  have hD5 : w5.ownsRow b0 83 9 vd3 n xs := own_other hDW fun g cur hv hg' => by
    rw [hg.block g (lt_of_block hg') (fun e => hne g hv e.symm)]; exact hg'
  refine ⟨blk, ⟨set_blk blk 2 v5, set_prg (cs := #[]) (T := 0) 2 v5 M _ map ?_, ?_, ?_⟩, fun k o hk h1 h2 h3 h4 => ?_, ?_, ?_, ?_⟩
  · intro e; rw [e, blk] at map; unfold symM at map; cases map
  · exact ownsRow_setCell_other hrs (own_ne hrs blk (by decide)) v5
  · exact ownsRow_setCell_other hown' (own_ne hown' blk (by decide)) v5
  · exact set_prg (cs := #[]) (T := 0) 2 v5 k o (keep k o (heap_below hk hW) h4) h1
  · have h1 : Below B w W := hb.trans (hW.mono hBw)
    exact (h1.grown hg (Nat.le_trans hBw hW.size) (fun k hk => (hPW.rd.lt k hk).1)).setCell hBP _
  · exact ownsRow_setCell_other hD5 (own_ne hD5 blk (by decide)) v5
  · intro g hv he
    rcases hwh with h | h
    · exact hne g hv (h ▸ he)
    · rw [h] at he
      injection he with he
      have := own_lt hDW hv
      omega
theorem num_step {B P M : Nat} {w : World} {vs vd : Value} {syms : List (Bs × Nat)} {ds dd : List Draft} {n : Int} {k : Nat} {hk : k < dd.length} {d : Draft} {L : List Draft} (hd : dd[k] = d) (hL : ds ++ numbered n (dd.take k) = L) (h : PrgV B w P M vs vd syms (L ++ [{ d with line := n }])) :
    PrgV B w P M vs vd syms (ds ++ numbered n (dd.take (k + 1))) := by
  subst hL
  rw [List.take_succ_eq_append_getElem hk, hd]
  simpa [numbered] using h
theorem addPost_large {B P M : Nat} {number : Int} {syms : List (Bs × Nat)} {ds dd : List Draft} {lab : Bs} {w w' : World} (h : ¬ (lab ≠ [] ∧ (lookS syms lab).isSome = true)) (hbig : 1024 < (ds ++ numbered number dd).length) (hb : Below B w w') :
    AddPost B P M number syms ds (some (lab, dd)) w (.returned (.int .i64 305)) w' := by
  unfold AddPost
  dsimp only
  rw [if_neg h, if_pos hbig]
  exact ⟨rfl, hb⟩
theorem addPost_ok {B P M : Nat} {number : Int} {syms : List (Bs × Nat)} {ds dd : List Draft} {lab : Bs} {w w' : World} {vs vd : Value} (h : ¬ (lab ≠ [] ∧ (lookS syms lab).isSome = true)) (hbig : ¬ 1024 < (ds ++ numbered number dd).length)
    (hp : PrgV B w' P M vs vd (addSyms syms ds lab) (ds ++ numbered number dd)) (hb : Below B w w') (hf : Frame P M w w') :
    AddPost B P M number syms ds (some (lab, dd)) w (.returned (.int .i64 0)) w' := by
  unfold AddPost
  dsimp only
  rw [if_neg h, if_neg hbig]
  exact ⟨rfl, ⟨vs, vd, hp⟩, hb, hf⟩
theorem addPost_twice {B P M : Nat} {number : Int} {syms : List (Bs × Nat)} {ds dd : List Draft} {lab : Bs} {w w' : World} {e : Ending} (h : lab ≠ [] ∧ (lookS syms lab).isSome = true) (hx : e = .returned (.int .i64 303) ∧ Below B w w') :
    AddPost B P M number syms ds (some (lab, dd)) w e w' := by
  unfold AddPost
  dsimp only
  rw [if_pos h]
  exact hx
/-- The state of addLine's loop. -/
def AddRel (B P M : Nat) (number : Int) (syms : List (Bs × Nat)) (ds dd : List Draft) (b0 : Nat) (vd3 : Value) (w : World) (i : Value) (wr : World) : Prop :=
  ∃ (k : Nat) (vs vd : Value), k ≤ dd.length ∧ i = .int .i64 k ∧ PrgV B wr P M vs vd syms (ds ++ numbered number (dd.take k)) ∧ wr.ownsRow b0 83 9 vd3 dd.length (flat dd) ∧ (∀ g, vd3.ownBlock = some g → vd.ownBlock ≠ some g) ∧ Below B w wr ∧ Frame P M w wr
theorem own_shape {w : World} {base : Nat} {e : TypeId} {size : Nat} {v : Value} {n : Nat} {xs : List Value} (h : w.ownsRow base e size v n xs) : ∃ oa cap, v = .slice oa n cap := by
  rcases h.2 with ⟨rfl, rfl⟩ | ⟨g, cap, cur, rfl, _⟩
  · exact ⟨none, 0, rfl⟩
  · exact ⟨_, cap, rfl⟩
theorem own_at {w : World} {base : Nat} {e : TypeId} {oa : Option Addr} {n cap : Nat} {ds : List Draft} (h : w.ownsRow base e 9 (.slice oa n cap) n (flat ds)) (hn : 0 < n) : ∃ g, oa = some ⟨g, 0, none⟩ ∧ ∀ j, j < n * 9 → w.cell? ⟨g, j, none⟩ = (flat ds)[j]? := by
  have h' := h
  rcases h.2 with ⟨h1, h2⟩ | ⟨g, cap', cur, h1, _⟩
  · omega
  · injection h1 with h1 _ _
    subst h1
    exact ⟨g, rfl, fun j hj => h'.cellAt j hj⟩
theorem flat_get (ds : List Draft) : ∀ (k : Nat) (hk : k < ds.length) (i : Nat), i < 9 → (flat ds)[k * 9 + i]? = (dCells ds[k])[i]? := by
  induction ds with
  | nil => intro k hk; simp at hk
  | cons d ds ih =>
    intro k hk i hi
    have e : flat (d :: ds) = dCells d ++ flat ds := rfl
    rw [e]
    cases k with
    | zero => rw [List.getElem?_append_left (by simp [dCells]; omega)]; simp
    | succ k =>
      rw [List.getElem?_append_right (by simp [dCells]; omega)]
      have := ih k (by simpa using hk) i hi
      rw [show (k + 1) * 9 + i - (dCells d).length = k * 9 + i by simp [dCells]; omega, this]
      simp
set_option maxRecDepth 100000 in
set_option maxHeartbeats 8000000 in
theorem add_plain (B R P M : Nat) (vs vd : Value) (line : ByteArray) (number : Int) (syms : List (Bs × Nat)) (ds : List Draft) (w : World) (dd : List Draft) (hs : line.size ≤ 100000) (hR : w.heap[R]? = some (.map (tabA 49) 49)) (hB : B ≤ w.heap.size) (hBP : B ≤ P)
    (hp : PrgV B w P M vs vd syms ds) (lab : Bs) (hl : lineR line.data.toList = some (lab, dd)) (h0 : lab = []) (hd : ds.length ≤ 2048) (hd2 : dd.length ≤ 1024) :
    Calls Tryd.prog 30 #[.pointer (some ⟨P, 0, none⟩), .map (some R), .string line, .int .i64 number] w (AddPost B P M number syms ds (some (lab, dd)) w) := by
  have HT := Lib.hid (fun W => toks_ct line W hs)
  have hne := toksL_ne line.data.toList
  have hbd := tk_bound line hs
  replace hl := lineR_some hl
  generalize toksL line.data.toList = ts at *
  have HR := Lib.hid hR
  have HN := Lib.hid hne
  clear hR
  obtain ⟨rest, hlab, hst⟩ := hl
  obtain ⟨hn2, hl2⟩ := labelL_ne hne hlab
  have hlb := fun v W (h : Toks W v ts) => label_asm v ts W h hne hbd
  rw [hlab] at hlb
  have HL := Lib.hid (show ∀ v W, Toks W v ts → Calls Tryd.prog 42 #[v] W fun e w' => (∃ v', e = .returned (.tuple #[.string (S lab), v', .bool true]) ∧ Toks W v' rest) ∧ ∃ m, w' = W.drewN m from hlb)
  have hsm := fun v W (h : Toks W v rest) (hb : W.heap[R]? = some (.map (tabA 49) 49)) => statement_toks R v rest W h hb (by dsimp only at hl2; omega) hn2
  rw [hst] at hsm
  have HSM := Lib.hid (show ∀ v W, Toks W v rest → W.heap[R]? = some (.map (tabA 49) 49) → Calls Tryd.prog 44 #[.map (some R), v] W fun e w' => (∃ vd', e = .returned (.tuple #[vd', .bool true]) ∧ w'.ownsRow W.heap.size 83 9 vd' dd.length (flat dd)) ∧ Below W.heap.size W w' from hsm)
  have HP := Lib.hid hp
  have q1 : (S lab).toList = [] := by rw [toL, S_list, h0]
  have q2 : (S lab).toList.isEmpty = true := by rw [q1]; rfl
  have H0 := Lib.hid h0
  clear h0
  clear hlb hlab hne hsm hst hn2 hl2 hp
  go_enter Tryd.func30, Tryd.ntmps30
  go_wp2_with (first
      | (go_at_call 43; (with_reducible refine (HT.out _).mono ?_); rintro e w1 ⟨⟨v1, rfl, ht1⟩, hb1⟩; have HT1 := Lib.hid ht1; have HR1 := Lib.hid (heap_below HR.out hb1); have HP1 := Lib.hid (HP.out.on hb1); clear ht1)
      | (go_at_call 42; (with_reducible refine (HL.out _ _ HT1.out).mono ?_); rintro e w2 ⟨⟨v2, rfl, ht2⟩, m, rfl⟩; have HT2 := Lib.hid (ht2.on (drewN_below w1 m)); have HR2 := Lib.hid (heap_below HR1.out (drewN_below w1 m)); have HP2 := Lib.hid (HP1.out.on (drewN_below w1 m)); clear ht2)
      | (go_at_call 44; (with_reducible refine (HSM.out _ _ HT2.out HR2.out).mono ?_); rintro e w3 ⟨⟨vd3, rfl, hown3⟩, hb3⟩; obtain ⟨oa, cap3, rfl⟩ := own_shape hown3; have HD3 := Lib.hid hown3; have HP3 := Lib.hid (HP2.out.on hb3); have HB3 := Lib.hid hb3; clear hown3 hb3))
  go_loopw [42] (fun i wr => AddRel B P M number syms ds dd (w1.drewN m).heap.size (.slice oa dd.length cap3) w i wr) (fun i _ => dd.length - (intOf i).toNat)
  case atStart =>
    refine ⟨0, vs, vd, by omega, rfl, by simpa [numbered] using HP3.out, HD3.out, fun g hg he => ?_, ?_, ?_⟩
    · obtain ⟨_, _, h2⟩ := own_type HD3.out hg
      have := own_lt HP2.out.rd he
      omega
    · exact below_step' hb1 hB HB3.out
    · exact Frame.below (below_step (below_drewN hb1 m) HB3.out)
  case round =>
    obtain ⟨k, vs', vd', hk, rfl, hP, hD, hne', hbw, hfr⟩ := hrel
    by_cases hlt : k < dd.length
    · obtain ⟨G, hG, hcell⟩ := own_at hD (by omega)
      subst hG
      obtain ⟨d, hd⟩ : ∃ d, dd[k] = d := ⟨_, rfl⟩
      have hc : ∀ i v, i < 9 → (dCells d)[i]? = some v → wr.cell? ⟨G, k * 9 + i, none⟩ = some v := fun i v hi hv => by
        rw [hcell _ (by omega), flat_get dd k hlt i hi, hd]; exact hv
      have e0 : wr.cell? ⟨G, k * 9, none⟩ = some (.int .i64 d.line) := hc 0 _ (by omega) rfl
      have e1 := hc 1 _ (by omega) rfl
      have e2 := hc 2 _ (by omega) rfl
      have e3 := hc 3 _ (by omega) rfl
      have e4 := hc 4 _ (by omega) rfl
      have e5 := hc 5 _ (by omega) rfl
      have e6 := hc 6 _ (by omega) rfl
      have e7 := hc 7 _ (by omega) rfl
      have e8 := hc 8 _ (by omega) rfl
      have HP := Lib.hid hP
      have HD := Lib.hid hD
      have HNE := Lib.hid hne'
      have HF := Lib.hid hfr
      have Hd := Lib.hid hd
      clear hP hD hne' hfr hd hcell hc
      have hL2 : (ds ++ numbered number (dd.take k)).length ≤ 4000 := by rw [num_len number ds dd k hk]; omega
      generalize hLL : ds ++ numbered number (dd.take k) = L at *
      have HLL := Lib.hid hLL
      clear hLL
      have hBw : B ≤ wr.heap.size := Nat.le_trans hB hbw.size
      have p2 : wr.cell? ⟨P, 2, none⟩ = some vd' := cell_blk HP.out.blk 2 rfl
      have p3 : ∀ o, (wr.alloc o).cell? ⟨P, 2, none⟩ = some vd' := fun o => still p2 ((Below.refl _ _).alloc (Nat.le_refl _) _)
      have p4 : ∀ o o2, ((wr.alloc o).alloc o2).cell? ⟨P, 2, none⟩ = some vd' := fun o o2 => still (p3 o) ((Below.refl _ _).alloc (Nat.le_refl _) _)
      obtain ⟨i0, hi, hz0, hz1, hz2⟩ := info_parts info_draft
      go_wp2
      go_region_law ((refine step_append_own2 (by rfl) (.tmp 52) (.tmp 54) 62 (by rfl) B 83 i0 _ 9 80 Tryd.underlying62 hi hz0 hz1 hz2 (by rfl) (by decide) vd' L.length (flat L) (by first | rfl | simp [Act.eval, Act.put]) (own_below HP.out.rd (by repeat' (first | with_reducible exact Below.refl _ _ | with_reducible apply below_drewN | with_reducible apply Below.drew | with_reducible apply Below.alloc | (simp; done) | (simp; omega)))) ⟨wr.heap.size + 1, 0, none⟩ 1 1 (dCells { d with line := number }) (by first | rfl | simp [Act.eval, Act.put]) (by rfl) (new_cells_g (heap2 wr _ _)) (one_cells9 _) (by unfold maxLen; omega) (by omega) (by simp; omega) (by omega) ?_; intro v' w5 hown5 hg5 hwh; obtain ⟨ga, gcap, hv⟩ := own_some hown5 (by omega); subst hv; have A5 := Lib.hid (after5 HP.out (by repeat' (first | with_reducible exact Below.refl _ _ | with_reducible apply below_drewN | with_reducible apply Below.drew | with_reducible apply Below.alloc | (simp; done) | (simp; omega))) hg5 hown5 hwh HD.out HNE.out hbw hBw hBP); have k2 := cell_blk A5.out.1 2 rfl; have z2 := free_blk A5.out.1 2; clear hown5 hg5 hwh))
      all_goals go_wp2
      all_goals (go_roundw; (case rel => exact ⟨k + 1, vs', _, by omega, by go_num, num_step Hd.out HLL.out A5.out.2.1, A5.out.2.2.2.2.1, A5.out.2.2.2.2.2, A5.out.2.2.2.1, HF.out.trans A5.out.2.2.1⟩); (case measure => simp [intOf]; omega))
    · have hke : k = dd.length := by omega
      subst hke
      rw [List.take_length] at hP
      obtain ⟨od, dcap, hv⟩ := own_shape hP.rd
      subst hv
      have p2 := cell_blk hP.blk 2 rfl
      have HP := Lib.hid hP
      have HF := Lib.hid hfr
      have hL := Lib.hid (num_len number ds dd dd.length (Nat.le_refl _))
      rw [List.take_length] at hL
      have hL2 : (ds ++ numbered number dd).length ≤ 4000 := by rw [hL.out]; omega
      clear hP hD hne' hfr
      by_cases hbig : 1024 < (ds ++ numbered number dd).length
      · have hbI : (1024 : Int) < (ds.length : Int) + ((numbered number dd).length : Int) := by have h := hbig; simp only [List.length_append] at h; omega
        go_wp2
        go_ret
        exact addPost_large (by rw [H0.out]; simp) hbig hbw
      · have hbI : (ds.length : Int) + ((numbered number dd).length : Int) ≤ 1024 := by have h := hbig; simp only [List.length_append] at h; omega
        go_wp2
        go_ret
        have hs2 : addSyms syms ds lab = syms := by unfold addSyms; rw [if_pos H0.out]
        exact addPost_ok (by rw [H0.out]; simp) hbig (hs2.symm ▸ HP.out) hbw HF.out
set_option maxRecDepth 100000 in
set_option maxHeartbeats 8000000 in
theorem add_label (B R P M : Nat) (vs vd : Value) (line : ByteArray) (number : Int) (syms : List (Bs × Nat)) (ds : List Draft) (w : World) (dd : List Draft) (hs : line.size ≤ 100000) (hR : w.heap[R]? = some (.map (tabA 49) 49)) (hB : B ≤ w.heap.size) (hBP : B ≤ P)
    (hp : PrgV B w P M vs vd syms ds) (lab : Bs) (hl : lineR line.data.toList = some (lab, dd)) (h0 : lab ≠ []) (ht : lookS syms lab = none) (hBM : B ≤ M) (hsy : syms.length ≤ 100000) (hd : ds.length ≤ 2048) (hd2 : dd.length ≤ 1024) :
    Calls Tryd.prog 30 #[.pointer (some ⟨P, 0, none⟩), .map (some R), .string line, .int .i64 number] w (AddPost B P M number syms ds (some (lab, dd)) w) := by
  have HT := Lib.hid (fun W => toks_ct line W hs)
  have hne := toksL_ne line.data.toList
  have hbd := tk_bound line hs
  replace hl := lineR_some hl
  generalize toksL line.data.toList = ts at *
  have HR := Lib.hid hR
  have HN := Lib.hid hne
  clear hR
  obtain ⟨rest, hlab, hst⟩ := hl
  obtain ⟨hn2, hl2⟩ := labelL_ne hne hlab
  have hlb := fun v W (h : Toks W v ts) => label_asm v ts W h hne hbd
  rw [hlab] at hlb
  have HL := Lib.hid (show ∀ v W, Toks W v ts → Calls Tryd.prog 42 #[v] W fun e w' => (∃ v', e = .returned (.tuple #[.string (S lab), v', .bool true]) ∧ Toks W v' rest) ∧ ∃ m, w' = W.drewN m from hlb)
  have hsm := fun v W (h : Toks W v rest) (hb : W.heap[R]? = some (.map (tabA 49) 49)) => statement_toks R v rest W h hb (by dsimp only at hl2; omega) hn2
  rw [hst] at hsm
  have HSM := Lib.hid (show ∀ v W, Toks W v rest → W.heap[R]? = some (.map (tabA 49) 49) → Calls Tryd.prog 44 #[.map (some R), v] W fun e w' => (∃ vd', e = .returned (.tuple #[vd', .bool true]) ∧ w'.ownsRow W.heap.size 83 9 vd' dd.length (flat dd)) ∧ Below W.heap.size W w' from hsm)
  have HP := Lib.hid hp
  have q1 := toL_ne (S_pos h0)
  have q2 := toL_ne' (S_pos h0)
  have H0 := Lib.hid h0
  have H1 := Lib.hid ht
  have HDF := Lib.hid (show ∀ W, PrgV B W P M vs vd syms ds → Calls Tryd.prog 45 #[.pointer (some ⟨P, 0, none⟩), .string (S lab)] W fun e w' => e = .returned (.bool true) ∧ (∃ vs', PrgV B w' P M vs' vd (syms ++ [(lab, 4 * ds.length)]) ds) ∧ Below B W w' ∧ FrameS P M W w' from
    fun W h => define_new B P M vs vd syms ds lab W h ht hBP hBM (by omega) hsy)
  have hs2 : addSyms syms ds lab = syms ++ [(lab, 4 * ds.length)] := by unfold addSyms; rw [if_neg h0]
  have HS2 := Lib.hid hs2
  clear h0 ht hs2
  clear hlb hlab hne hsm hst hn2 hl2 hp
  go_enter Tryd.func30, Tryd.ntmps30
  go_wp2_with (first
      | (go_at_call 43; (with_reducible refine (HT.out _).mono ?_); rintro e w1 ⟨⟨v1, rfl, ht1⟩, hb1⟩; have HT1 := Lib.hid ht1; have HR1 := Lib.hid (heap_below HR.out hb1); have HP1 := Lib.hid (HP.out.on hb1); clear ht1)
      | (go_at_call 42; (with_reducible refine (HL.out _ _ HT1.out).mono ?_); rintro e w2 ⟨⟨v2, rfl, ht2⟩, m, rfl⟩; have HT2 := Lib.hid (ht2.on (drewN_below w1 m)); have HR2 := Lib.hid (heap_below HR1.out (drewN_below w1 m)); have HP2 := Lib.hid (HP1.out.on (drewN_below w1 m)); clear ht2)
      | (go_at_call 44; (with_reducible refine (HSM.out _ _ HT2.out HR2.out).mono ?_); rintro e w3 ⟨⟨vd3, rfl, hown3⟩, hb3⟩; obtain ⟨oa, cap3, rfl⟩ := own_shape hown3; have HD3 := Lib.hid hown3; have HP3 := Lib.hid (HP2.out.on hb3); have HB3 := Lib.hid hb3; clear hown3 hb3)
      | (go_at_call 45; (with_reducible refine (HDF.out _ HP3.out).mono ?_); rintro e w4 ⟨rfl, ⟨vs4, hp4⟩, hb4, hf4⟩; have HP4 := Lib.hid hp4; have HF4 := Lib.hid hf4; clear hp4 hf4))
  go_loopw [42] (fun i wr => AddRel B P M number (syms ++ [(lab, 4 * ds.length)]) ds dd (w1.drewN m).heap.size (.slice oa dd.length cap3) w i wr) (fun i _ => dd.length - (intOf i).toNat)
  case atStart =>
    refine ⟨0, vs4, vd, by omega, rfl, by simpa [numbered] using HP4.out, ?_, fun g hg he => ?_, ?_, ?_⟩
    · exact own_other HD3.out fun g cur hv hg => HF4.out g _ hg (fun e => by have := HP3.out.blk; rw [← e, hg] at this; cases this) (fun e => by have := HP3.out.map; rw [← e, hg] at this; unfold symM at this; cases this) (by intro c z h; cases h)
    · obtain ⟨_, _, h2⟩ := own_type HD3.out hg
      have := own_lt HP2.out.rd he
      omega
    · exact (below_step' hb1 hB HB3.out).trans hb4
    · exact (Frame.below (below_step (below_drewN hb1 m) HB3.out)).trans HF4.out.frame
  case round =>
    obtain ⟨k, vs', vd', hk, rfl, hP, hD, hne', hbw, hfr⟩ := hrel
    by_cases hlt : k < dd.length
    · obtain ⟨G, hG, hcell⟩ := own_at hD (by omega)
      subst hG
      obtain ⟨d, hd⟩ : ∃ d, dd[k] = d := ⟨_, rfl⟩
      have hc : ∀ i v, i < 9 → (dCells d)[i]? = some v → wr.cell? ⟨G, k * 9 + i, none⟩ = some v := fun i v hi hv => by
        rw [hcell _ (by omega), flat_get dd k hlt i hi, hd]; exact hv
      have e0 : wr.cell? ⟨G, k * 9, none⟩ = some (.int .i64 d.line) := hc 0 _ (by omega) rfl
      have e1 := hc 1 _ (by omega) rfl
      have e2 := hc 2 _ (by omega) rfl
      have e3 := hc 3 _ (by omega) rfl
      have e4 := hc 4 _ (by omega) rfl
      have e5 := hc 5 _ (by omega) rfl
      have e6 := hc 6 _ (by omega) rfl
      have e7 := hc 7 _ (by omega) rfl
      have e8 := hc 8 _ (by omega) rfl
      have HP := Lib.hid hP
      have HD := Lib.hid hD
      have HNE := Lib.hid hne'
      have HF := Lib.hid hfr
      have Hd := Lib.hid hd
      clear hP hD hne' hfr hd hcell hc
      have hL2 : (ds ++ numbered number (dd.take k)).length ≤ 4000 := by rw [num_len number ds dd k hk]; omega
      generalize hLL : ds ++ numbered number (dd.take k) = L at *
      have HLL := Lib.hid hLL
      clear hLL
      have hBw : B ≤ wr.heap.size := Nat.le_trans hB hbw.size
      have p2 : wr.cell? ⟨P, 2, none⟩ = some vd' := cell_blk HP.out.blk 2 rfl
      have p3 : ∀ o, (wr.alloc o).cell? ⟨P, 2, none⟩ = some vd' := fun o => still p2 ((Below.refl _ _).alloc (Nat.le_refl _) _)
      have p4 : ∀ o o2, ((wr.alloc o).alloc o2).cell? ⟨P, 2, none⟩ = some vd' := fun o o2 => still (p3 o) ((Below.refl _ _).alloc (Nat.le_refl _) _)
      obtain ⟨i0, hi, hz0, hz1, hz2⟩ := info_parts info_draft
      go_wp2
      go_region_law ((refine step_append_own2 (by rfl) (.tmp 52) (.tmp 54) 62 (by rfl) B 83 i0 _ 9 80 Tryd.underlying62 hi hz0 hz1 hz2 (by rfl) (by decide) vd' L.length (flat L) (by first | rfl | simp [Act.eval, Act.put]) (own_below HP.out.rd (by repeat' (first | with_reducible exact Below.refl _ _ | with_reducible apply below_drewN | with_reducible apply Below.drew | with_reducible apply Below.alloc | (simp; done) | (simp; omega)))) ⟨wr.heap.size + 1, 0, none⟩ 1 1 (dCells { d with line := number }) (by first | rfl | simp [Act.eval, Act.put]) (by rfl) (new_cells_g (heap2 wr _ _)) (one_cells9 _) (by unfold maxLen; omega) (by omega) (by simp; omega) (by omega) ?_; intro v' w5 hown5 hg5 hwh; obtain ⟨ga, gcap, hv⟩ := own_some hown5 (by omega); subst hv; have A5 := Lib.hid (after5 HP.out (by repeat' (first | with_reducible exact Below.refl _ _ | with_reducible apply below_drewN | with_reducible apply Below.drew | with_reducible apply Below.alloc | (simp; done) | (simp; omega))) hg5 hown5 hwh HD.out HNE.out hbw hBw hBP); have k2 := cell_blk A5.out.1 2 rfl; have z2 := free_blk A5.out.1 2; clear hown5 hg5 hwh))
      all_goals go_wp2
      all_goals (go_roundw; (case rel => exact ⟨k + 1, vs', _, by omega, by go_num, num_step Hd.out HLL.out A5.out.2.1, A5.out.2.2.2.2.1, A5.out.2.2.2.2.2, A5.out.2.2.2.1, HF.out.trans A5.out.2.2.1⟩); (case measure => simp [intOf]; omega))
    · have hke : k = dd.length := by omega
      subst hke
      rw [List.take_length] at hP
      obtain ⟨od, dcap, hv⟩ := own_shape hP.rd
      subst hv
      have p2 := cell_blk hP.blk 2 rfl
      have HP := Lib.hid hP
      have HF := Lib.hid hfr
      have hL := Lib.hid (num_len number ds dd dd.length (Nat.le_refl _))
      rw [List.take_length] at hL
      have hL2 : (ds ++ numbered number dd).length ≤ 4000 := by rw [hL.out]; omega
      clear hP hD hne' hfr
      by_cases hbig : 1024 < (ds ++ numbered number dd).length
      · have hbI : (1024 : Int) < (ds.length : Int) + ((numbered number dd).length : Int) := by have h := hbig; simp only [List.length_append] at h; omega
        go_wp2
        go_ret
        exact addPost_large (by rw [H1.out]; simp) hbig hbw
      · have hbI : (ds.length : Int) + ((numbered number dd).length : Int) ≤ 1024 := by have h := hbig; simp only [List.length_append] at h; omega
        go_wp2
        go_ret
        exact addPost_ok (by rw [H1.out]; simp) hbig (HS2.out.symm ▸ HP.out) hbw HF.out
end Go.Proofs.YthghbcjaokpilaaDoor

namespace Go.Proofs.YthghbcjaokpilaaDoor
set_option linter.unusedVariables false
set_option linter.unusedSimpArgs false
open Go.ChangeShapes Go.WideShapes Go.ChangeAt Go.RowKit Go.Proofs.YthghbcjaokpilaaDoor.Num Go.Proofs.YthghbcjaokpilaaDoor.Mem Go.Proofs.YthghbcjaokpilaaDoor.Asm
theorem words_len {kind : Nat} {op : Int} {o : Opds} {ds : List Draft} (h : wordsL kind op o = some ds) : ds.length ≤ 1024 := by
  unfold wordsL at h
  split at h
  · cases h; simp
  · split at h
    · cases h; simp
    · split at h
      · cases h; simp
      · split at h
        · split at h
          · cases h
          · cases h; simp; omega
        · cases h
theorem stmt_len {ts : List Bs} {ds : List Draft} (h : stmtL ts = some ds) : ds.length ≤ 1024 := by
  cases ts with
  | nil => simp [stmtL] at h; subst h; simp
  | cons m ts =>
    change ((stmOf m).bind fun q => (opsL q.pat ts).bind fun o => wordsL q.kind q.op o) = some ds at h
    cases hq : stmOf m with
    | none => rw [hq] at h; cases h
    | some q =>
      rw [hq] at h
      cases ho : opsL q.pat ts with
      | none => simp [ho] at h
      | some o => simp [ho] at h; exact words_len h
theorem line_len {l lab : Bs} {dd : List Draft} (h : lineR l = some (lab, dd)) : dd.length ≤ 1024 := by
  obtain ⟨rest, _, h2⟩ := lineR_some h
  exact stmt_len h2
theorem add_any (B R P M : Nat) (vs vd : Value) (l : Bs) (number : Int) (syms : List (Bs × Nat)) (ds : List Draft) (w : World) (hs : l.length ≤ 100000) (hR : w.heap[R]? = some (.map (tabA 49) 49)) (hB : B ≤ w.heap.size) (hBP : B ≤ P) (hBM : B ≤ M)
    (hp : PrgV B w P M vs vd syms ds) (hd : ds.length ≤ 2048) (hsy : syms.length ≤ 100000) :
    Calls Tryd.prog 30 #[.pointer (some ⟨P, 0, none⟩), .map (some R), .string (S l), .int .i64 number] w (AddPost B P M number syms ds (lineR l) w) := by
  have hs' : (S l).size ≤ 100000 := by rw [S_size]; exact hs
  have hl : lineR (S l).data.toList = lineR l := by rw [S_list]
  cases hr : lineR l with
  | none =>
    rw [hr] at hl
    exact add_form B R P M (S l) number syms ds w hs' hR hB hl
  | some x =>
    obtain ⟨lab, dd⟩ := x
    rw [hr] at hl
    by_cases h0 : lab = []
    · exact add_plain B R P M vs vd (S l) number syms ds w dd hs' hR hB hBP hp lab hl h0 hd (line_len hr)
    · cases ht : lookS syms lab with
      | none => exact add_label B R P M vs vd (S l) number syms ds w dd hs' hR hB hBP hp lab hl h0 ht hBM hsy hd (line_len hr)
      | some n => exact (add_twice B R P M vs vd (S l) number syms ds w lab dd n hs' hR hB hp hl h0 ht).mono fun e w' h => addPost_twice ⟨h0, by rw [ht]; rfl⟩ h
/-- The first pass: the labels and the words, or the first error and its line. -/
def readL : List Bs → Nat → List (Bs × Nat) → List Draft → Sum (Nat × Nat) (List (Bs × Nat) × List Draft)
  | [], _, syms, ds => .inr (syms, ds)
  | l :: ls, i, syms, ds =>
    match lineR l with
    | none => .inl (301, i + 1)
    | some (lab, dd) =>
      if lab ≠ [] ∧ (lookS syms lab).isSome = true then .inl (303, i + 1)
      else if 1024 < (ds ++ numbered ((i : Int) + 1) dd).length then .inl (305, i + 1)
      else readL ls (i + 1) (addSyms syms ds lab) (ds ++ numbered ((i : Int) + 1) dd)
def ProgPost (r : Sum (Nat × Nat) (List (Bs × Nat) × List Draft)) (w : World) (e : Ending) (w' : World) : Prop :=
  (match r with
  | .inl (err, line) => e = .returned (.tuple #[.agg #[.slice none 0 0, .map none, .slice none 0 0], .agg #[.int .i64 err, .int .i64 line]])
  | .inr (syms, ds) => ∃ vs vd M, e = .returned (.tuple #[.agg #[vs, .map (some M), vd], .agg #[.int .i64 0, .int .i64 0]]) ∧ w'.heap[M]? = some (symM syms) ∧ w'.ownsRow w.heap.size 60 2 vs syms.length (flatS syms) ∧ w'.ownsRow w.heap.size 83 9 vd ds.length (flat ds)) ∧ Below w.heap.size w w'
theorem al_new (w : World) (o : Obj) (n : Nat) (h : n = w.heap.size) : (w.alloc o).heap[n]? = some o := by subst h; exact heap_alloc_new w o
theorem al_old {w : World} {o x : Obj} {n : Nat} (h : w.heap[n]? = some x) : (w.alloc o).heap[n]? = some x := by
  rw [heap_alloc_old w o (lt_of_block h)]; exact h
/-- The state of readProgram's loop. -/
def ReadRel (ls : List Bs) (w : World) (P M R : Nat) (v : Value) (b0 : Nat) (i : Value) (wr : World) : Prop :=
  ∃ (k : Nat) (vs vd : Value) (syms : List (Bs × Nat)) (ds : List Draft), k ≤ ls.length ∧ i = .int .i64 k ∧ PrgV M wr P M vs vd syms ds ∧ wr.heap[R]? = some (.map (tabA 49) 49) ∧
    wr.ownsRow b0 9 1 v ls.length (ls.map strV) ∧ wr.heap[w.heap.size]? = some (.cells #[.slice none 0 0, .map none, .slice none 0 0] 64 (0, 0)) ∧ wr.heap[w.heap.size + 1]? = some (.cells #[.int .i64 0, .int .i64 0] 31 (0, 0)) ∧
    Below w.heap.size w wr ∧ readL ls 0 [] [] = readL (ls.drop k) k syms ds ∧ ds.length ≤ 1024 ∧ syms.length ≤ k
theorem read_none {l : Bs} {ls : List Bs} {i : Nat} {syms : List (Bs × Nat)} {ds : List Draft} (h : lineR l = none) : readL (l :: ls) i syms ds = .inl (301, i + 1) := by simp [readL, h]
theorem read_twice {l : Bs} {ls : List Bs} {i : Nat} {syms : List (Bs × Nat)} {ds dd : List Draft} {lab : Bs} (h : lineR l = some (lab, dd)) (ht : lab ≠ [] ∧ (lookS syms lab).isSome = true) : readL (l :: ls) i syms ds = .inl (303, i + 1) := by
  simp only [readL, h, if_pos ht]
theorem read_large {l : Bs} {ls : List Bs} {i : Nat} {syms : List (Bs × Nat)} {ds dd : List Draft} {lab : Bs} (h : lineR l = some (lab, dd)) (ht : ¬ (lab ≠ [] ∧ (lookS syms lab).isSome = true)) (hb : 1024 < (ds ++ numbered ((i : Int) + 1) dd).length) : readL (l :: ls) i syms ds = .inl (305, i + 1) := by
  simp only [readL, h, if_neg ht, if_pos hb]
theorem read_next {l : Bs} {ls : List Bs} {i : Nat} {syms : List (Bs × Nat)} {ds dd : List Draft} {lab : Bs} (h : lineR l = some (lab, dd)) (ht : ¬ (lab ≠ [] ∧ (lookS syms lab).isSome = true)) (hb : ¬ 1024 < (ds ++ numbered ((i : Int) + 1) dd).length) : readL (l :: ls) i syms ds = readL ls (i + 1) (addSyms syms ds lab) (ds ++ numbered ((i : Int) + 1) dd) := by
  simp only [readL, h, if_neg ht, if_neg hb]
/-- What a line does: an error, or the next state. -/
theorem add_cases (B P M : Nat) (syms : List (Bs × Nat)) (ds : List Draft) (l : Bs) (ls : List Bs) (i : Nat) : 
    (∃ c : Nat, (c = 301 ∨ c = 303 ∨ c = 305) ∧ readL (l :: ls) i syms ds = .inl (c, i + 1) ∧ ∀ w e w', AddPost B P M ((i : Int) + 1) syms ds (lineR l) w e w' → e = .returned (.int .i64 c) ∧ Below B w w') ∨
    (∃ syms' ds', readL (l :: ls) i syms ds = readL ls (i + 1) syms' ds' ∧ ds'.length ≤ 1024 ∧ syms'.length ≤ syms.length + 1 ∧ ∀ w e w', AddPost B P M ((i : Int) + 1) syms ds (lineR l) w e w' → e = .returned (.int .i64 0) ∧ (∃ vs vd, PrgV B w' P M vs vd syms' ds') ∧ Below B w w' ∧ Frame P M w w') := by
  cases h : lineR l with
  | none => exact Or.inl ⟨301, Or.inl rfl, read_none h, fun w e w' hp => hp⟩
  | some x =>
    obtain ⟨lab, dd⟩ := x
    by_cases ht : lab ≠ [] ∧ (lookS syms lab).isSome = true
    · refine Or.inl ⟨303, Or.inr (Or.inl rfl), read_twice h ht, fun w e w' hp => ?_⟩
      unfold AddPost at hp
      dsimp only at hp
      rw [if_pos ht] at hp
      exact hp
    · by_cases hb : 1024 < (ds ++ numbered ((i : Int) + 1) dd).length
      · refine Or.inl ⟨305, Or.inr (Or.inr rfl), read_large h ht hb, fun w e w' hp => ?_⟩
        unfold AddPost at hp
        dsimp only at hp
        rw [if_neg ht, if_pos hb] at hp
        exact hp
      · refine Or.inr ⟨_, _, read_next h ht hb, by omega, by unfold addSyms; split <;> simp, fun w e w' hp => ?_⟩
        unfold AddPost at hp
        dsimp only at hp
        rw [if_neg ht, if_neg hb] at hp
        exact hp
theorem own_at1 {w : World} {base : Nat} {e : TypeId} {oa : Option Addr} {n cap : Nat} {xs : List Value} (h : w.ownsRow base e 1 (.slice oa n cap) n xs) (hn : 0 < n) : ∃ g, oa = some ⟨g, 0, none⟩ ∧ ∀ j, j < n → w.cell? ⟨g, j, none⟩ = xs[j]? := by
  have h' := h
  rcases h.2 with ⟨h1, h2⟩ | ⟨g, cap', cur, h1, _⟩
  · omega
  · injection h1 with h1 _ _
    subst h1
    exact ⟨g, rfl, fun j hj => h'.cellAt j (by omega)⟩
theorem own_low {w : World} {base : Nat} {e : TypeId} {size : Nat} {v : Value} {n : Nat} {xs : List Value} (h : w.ownsRow base e size v n xs) {k : Nat} (hk : k < base) : v.ownBlock ≠ some k := fun he => by
  obtain ⟨_, _, h2⟩ := own_type h he
  omega
theorem results_two {fn : Func} {p q : Tmp} {ty ty' : TypeId} (h : fn.results = #[.cell p ty, .cell q ty']) (tmps : Array Value) (P : Program) (w : World) :
    (results fn tmps).run P w =
      ((asAddr (tmps.getD p undef)).run P w).andThen fun a w₁ => ((loadVar ty a).run P w₁).andThen fun v w₂ => ((asAddr (tmps.getD q undef)).run P w₂).andThen fun b w₃ => ((loadVar ty' b).run P w₃).andThen fun u w₄ => .ok (.tuple #[v, u]) w₄ := by
  simp only [results, h]
  simp [Sem.run_bind, Result.andThen]
set_option maxRecDepth 100000 in
set_option maxHeartbeats 8000000 in
theorem read_asm (src : ByteArray) (w : World) (hs : src.size ≤ 8192) : Calls Tryd.prog 21 #[.string src] w (ProgPost (readL (linesL src.data.toList) 0 [] []) w) := by
  have hmm := @run_makeMap Tryd.prog
  have HL := Lib.hid (fun W => lines_asm src W (by omega))
  have HTB := Lib.hid (fun W => table_asm W)
  have hll : (linesL src.data.toList).length ≤ 10000 := by
    have := lineGo_len src.data.toList []
    rw [len_size] at this
    unfold linesL; omega
  have hlm : ∀ x ∈ linesL src.data.toList, x.length ≤ 100000 := fun x hx => by
    have := lineGo_sum src.data.toList [] x hx
    rw [len_size] at this
    simp at this; omega
  generalize linesL src.data.toList = ls at *
  have HLM := Lib.hid hlm
  clear hlm
  go_enter Tryd.func21, Tryd.ntmps21
  go_wp2_with (first
    | (go_at_call 28; (with_reducible refine (HTB.out _).mono ?_); rintro e w1 ⟨rfl, rfl⟩)
    | (go_at_call 29; (with_reducible refine (HL.out _).mono ?_); rintro e w2 ⟨vl, rfl, hrow, hb2⟩; obtain ⟨oa, cap, rfl⟩ := own_shape hrow; have HROW := Lib.hid hrow; have HB2 := Lib.hid hb2; clear hrow hb2))
  go_loopw [15] (fun i wr => ReadRel ls w (w.heap.size + 1 + 1 + 1) (w.heap.size + 1 + 1) (w.heap.size + 1 + 1 + 1 + 1) (.slice oa ls.length cap) (w.heap.size + 5) i wr) (fun i _ => ls.length - (intOf i).toNat)
  case atStart =>
    have hb := HB2.out
    refine ⟨0, .slice none 0 0, .slice none 0 0, [], [], by omega, rfl, ⟨heap_below ?_ hb, heap_below ?_ hb, World.ownsRow_nil _ _ _ _, World.ownsRow_nil _ _ _ _⟩, heap_below ?_ hb, own_base HROW.out (by simp), heap_below ?_ hb, heap_below ?_ hb, ?_, rfl, by simp, by simp⟩
    · exact al_old (al_new _ _ _ (by simp))
    · exact al_old (al_old (al_new _ _ _ (by simp)))
    · exact al_new _ _ _ (by simp)
    · exact al_old (al_old (al_old (al_old (al_new _ _ _ (by simp)))))
    · exact al_old (al_old (al_old (al_new _ _ _ (by simp))))
    · refine below_step ?_ hb
      repeat' (first | with_reducible exact Below.refl _ _ | with_reducible apply Below.alloc | (simp; done) | (simp; omega))
  case round =>
    obtain ⟨k, vs, vd, syms, ds, hk, rfl, hP, hR, hrow, hr0, hr1, hbw, hrd, hds, hsy⟩ := hrel
    have hws := hbw.size
    have hPlt := lt_of_block hP.blk
    by_cases hlt : k < ls.length
    · obtain ⟨G, hG, hcell⟩ := own_at1 hrow (by omega)
      subst hG
      have ck : wr.cell? ⟨G, k, none⟩ = some (.string (S ls[k])) := by
        rw [hcell k hlt, List.getElem?_map, List.getElem?_eq_getElem hlt]; rfl
      have hdr : ls.drop k = ls[k] :: ls.drop (k + 1) := List.drop_eq_getElem_cons hlt
      rw [hdr] at hrd
      have hadd := add_any (w.heap.size + 1 + 1) (w.heap.size + 1 + 1 + 1 + 1) (w.heap.size + 1 + 1 + 1) (w.heap.size + 1 + 1) vs vd ls[k] ((k : Int) + 1) syms ds wr (HLM.out _ (List.getElem_mem hlt)) hR (by omega) (by omega) (by omega) hP (by omega) (by omega)
      have HROWr := Lib.hid hrow
      have HR0 := Lib.hid hr0
      have HR1 := Lib.hid hr1
      have HRR := Lib.hid hR
      have HRD := Lib.hid hrd
      have HPr := Lib.hid hP
      clear hcell hdr hrow hr0 hr1 hP hrd hR
      rcases add_cases (w.heap.size + 1 + 1) (w.heap.size + 1 + 1 + 1) (w.heap.size + 1 + 1) syms ds ls[k] (ls.drop (k + 1)) k with ⟨c, hc, hrd2, hA⟩ | ⟨syms', ds', hrd2, hl1, hl2, hA⟩
      · have HADD := Lib.hid (hadd.mono fun e w' h => hA wr e w' h)
        have hcI : ((c : Int) != 0) = true := by rw [bne_iff_ne]; omega
        have hcb : (c : Int) ≤ 305 := by omega
        have HRES := Lib.hid (HRD.out.trans hrd2)
        clear hadd hA hc hrd2
        generalize ls[k] = lk at *
        go_wp2_with (go_at_call 30; (with_reducible refine (HADD.out).mono ?_); rintro e w3 ⟨rfl, hb3⟩; have HB3 := Lib.hid hb3; have g0 := cell_blk ((hb3.block w.heap.size (by omega)).trans HR0.out); have f0 := free_blk ((hb3.block w.heap.size (by omega)).trans HR0.out); have g1 := cell_blk ((hb3.block (w.heap.size + 1) (by omega)).trans HR1.out); have f1 := free_blk ((hb3.block (w.heap.size + 1) (by omega)).trans HR1.out); have c0 := g0 0 rfl; have c1 := g0 1 rfl; have c2 := g0 2 rfl; have d0 := g1 0 rfl; have d1 := g1 1 rfl; have e0 := f0 0; have e1 := f0 1; have e2 := f0 2; have i0 := f1 0; have i1 := f1 1; clear g0 f0 g1 f1 hb3)
        rw [HRES.out]
        have hB3 : Below w.heap.size w w3 := hbw.trans (HB3.out.mono (by omega))
        refine bodyPost_ret (v := .tuple #[.agg #[.slice none 0 0, .map none, .slice none 0 0], .agg #[.int .i64 c, .int .i64 ((k : Int) + 1)]]) ?_ rfl ⟨rfl, ?_⟩
        · rw [results_two rfl]; go_simp
        · have h0 : w.heap.size ≤ w.heap.size := Nat.le_refl _
          have h1 : w.heap.size ≤ w.heap.size + 1 := by omega
          exact ((((hB3.setCell h0 _).setCell h0 _).setCell h0 _).setCell h1 _).setCell h1 _
      · have HADD := Lib.hid (hadd.mono fun e w' h => hA wr e w' h)
        have HRES := Lib.hid (HRD.out.trans hrd2)
        clear hadd hA hrd2
        generalize ls[k] = lk at *
        go_wp2_with (go_at_call 30; (with_reducible refine (HADD.out).mono ?_); rintro e w3 ⟨rfl, ⟨vs3, vd3, hp3⟩, hb3, hf3⟩; have HP3 := Lib.hid hp3; have HB3 := Lib.hid hb3; have HF3 := Lib.hid hf3; clear hp3 hb3 hf3)
        go_roundw
        case rel =>
          refine ⟨k + 1, vs3, vd3, syms', ds', by omega, by go_num, HP3.out, HF3.out _ _ HRR.out (by omega) (by omega) (by intro c z h; cases h) (by intro c z h; cases h), ?_, (HB3.out.block _ (by omega)).trans HR0.out, (HB3.out.block _ (by omega)).trans HR1.out, hbw.trans (HB3.out.mono (by omega)), HRES.out, hl1, by omega⟩
          exact own_other HROWr.out fun g cur hv hg => HF3.out g _ hg (fun e => by subst e; have := HPr.out.blk; rw [hg] at this; cases this) (fun e => by subst e; have := HPr.out.map; rw [hg] at this; unfold symM at this; cases this) (by intro c z h; cases h) (by intro c z h; cases h)
        case measure => simp [intOf]; omega
    · have hke : k = ls.length := by omega
      subst hke
      rw [List.drop_length] at hrd
      have HRES := Lib.hid (show readL ls 0 [] [] = .inr (syms, ds) from hrd)
      obtain ⟨oa1, cap1, hv⟩ := own_shape hP.rs
      subst hv
      obtain ⟨oa2, cap2, hv⟩ := own_shape hP.rd
      subst hv
      have g0 := cell_blk hP.blk
      have p0 := g0 0 rfl
      have p1 := g0 1 rfl
      have p2 := g0 2 rfl
      have g0 := cell_blk hr0
      have f0 := free_blk hr0
      have g1 := cell_blk hr1
      have f1 := free_blk hr1
      have c0 := g0 0 rfl
      have c1 := g0 1 rfl
      have c2 := g0 2 rfl
      have d0 := g1 0 rfl
      have d1 := g1 1 rfl
      have e0 := f0 0
      have e1 := f0 1
      have e2 := f0 2
      have i0 := f1 0
      have i1 := f1 1
      have HP := Lib.hid hP
      have HR0 := Lib.hid hr0
      have HR1 := Lib.hid hr1
      clear g0 f0 g1 f1 hP hr0 hr1 hR hrow hrd
      go_wp2
      rw [HRES.out]
      refine bodyPost_ret (v := .tuple #[.agg #[.slice oa1 syms.length cap1, .map (some (w.heap.size + 1 + 1)), .slice oa2 ds.length cap2], .agg #[.int .i64 0, .int .i64 0]]) ?_ rfl ⟨⟨_, _, _, rfl, ?_, ?_, ?_⟩, ?_⟩
      · rw [results_two rfl]; go_simp
      · have n0 : w.heap.size + 1 + 1 ≠ w.heap.size := by omega
        have n1 : w.heap.size + 1 + 1 ≠ w.heap.size + 1 := by omega
        exact set_prg (cs := #[]) (T := 0) _ _ _ _ (set_prg (cs := #[]) (T := 0) _ _ _ _ (set_prg (cs := #[]) (T := 0) _ _ _ _ (set_prg (cs := #[]) (T := 0) _ _ _ _ (set_prg (cs := #[]) (T := 0) _ _ _ _ HP.out.map n0) n0) n0) n1) n1
      · have n0 := own_low HP.out.rs (k := w.heap.size) (by omega)
        have n1 := own_low HP.out.rs (k := w.heap.size + 1) (by omega)
        exact own_base (ownsRow_setCell_other (ownsRow_setCell_other (ownsRow_setCell_other (ownsRow_setCell_other (ownsRow_setCell_other HP.out.rs n0 _) n0 _) n0 _) n1 _) n1 _) (by omega)
      · have n0 := own_low HP.out.rd (k := w.heap.size) (by omega)
        have n1 := own_low HP.out.rd (k := w.heap.size + 1) (by omega)
        exact own_base (ownsRow_setCell_other (ownsRow_setCell_other (ownsRow_setCell_other (ownsRow_setCell_other (ownsRow_setCell_other HP.out.rd n0 _) n0 _) n0 _) n1 _) n1 _) (by omega)
      · have h0 : w.heap.size ≤ w.heap.size := Nat.le_refl _
        have h1 : w.heap.size ≤ w.heap.size + 1 := by omega
        exact ((((hbw.setCell h0 _).setCell h0 _).setCell h0 _).setCell h1 _).setCell h1 _
end Go.Proofs.YthghbcjaokpilaaDoor

namespace Go.Proofs.YthghbcjaokpilaaDoor
set_option linter.unusedVariables false
set_option linter.unusedSimpArgs false
open Go.ChangeShapes Go.WideShapes Go.ChangeAt Go.RowKit Go.Proofs.YthghbcjaokpilaaDoor.Num Go.Proofs.YthghbcjaokpilaaDoor.Isa Go.Proofs.YthghbcjaokpilaaDoor.Mem Go.Proofs.YthghbcjaokpilaaDoor.Asm
/-- A word, or an immediate out of its range. -/
def encI (op a b c m : Int) : Int × Int := if Ok op a b c m then (word op a b c m, 0) else (0, 304)
theorem encI_ok {op a b c m : Int} (h : Ok op a b c m) : encI op a b c m = (word op a b c m, 0) := by unfold encI; rw [if_pos h]
theorem encI_no {op a b c m : Int} (h : ¬ Ok op a b c m) : encI op a b c m = (0, 304) := by unfold encI; rw [if_neg h]
theorem wrap32_bd' (m : Int) : -2147483648 ≤ wrap32 m ∧ wrap32 m ≤ 2147483647 := by unfold wrap32; omega
set_option maxHeartbeats 2000000 in
theorem encode_asm (op a b c m : Int) (w : World) (h0 : -9223372036854775808 ≤ m) (h1 : m ≤ 9223372036854775807) :
    Calls Tryd.prog 47 #[.agg #[.int .i64 op, .int .i64 a, .int .i64 b, .int .i64 c, .int .i32 0], .int .i64 m] w fun e w' => e = .returned (.tuple #[.int .u32 (encI op a b c m).1, .int .i64 (encI op a b c m).2]) ∧ Below w.heap.size w w' := by
  by_cases hr : -2147483648 ≤ m ∧ m ≤ 2147483647
  · obtain ⟨r1, r2⟩ := hr
    by_cases hk : Ok op a b c m
    · have q1 : eW op a b c m = word op a b c m := by unfold eW; rw [if_pos hk]
      have q2 : eE op a b c m = 0 := by unfold eE; rw [if_pos hk]
      rw [encI_ok hk]
      clear hk
      go_enter Tryd.func47, Tryd.ntmps47
      go_wp2_with (go_at_call 59; (with_reducible refine (encode_any _ _ _ _ _ _ r1 r2).mono ?_); rintro e w1 ⟨rfl, hb1⟩; obtain ⟨c0, c1, c2, c3, c4⟩ := box_cells hb1)
      go_ret2
      exact ⟨rfl, box_below hb1⟩
    · have q2 : eE op a b c m = 200 := by unfold eE; rw [if_neg hk]
      rw [encI_no hk]
      clear hk
      go_enter Tryd.func47, Tryd.ntmps47
      go_wp2_with (go_at_call 59; (with_reducible refine (encode_any _ _ _ _ _ _ r1 r2).mono ?_); rintro e w1 ⟨rfl, hb1⟩; obtain ⟨c0, c1, c2, c3, c4⟩ := box_cells hb1)
      go_ret2
      exact ⟨rfl, box_below hb1⟩
  · have hk : ¬ Ok op a b c m := fun h => by have := ok_bound h; omega
    rw [encI_no hk]
    have hb := wrap32_bd' m
    have hne : ¬ wrap32 m = m := fun e => by rw [← e] at hr; omega
    clear hk hr
    go_enter Tryd.func47, Tryd.ntmps47
    go_wp2_with (go_at_call 59; (with_reducible refine (encode_any _ _ _ _ _ _ hb.1 hb.2).mono ?_); rintro e w1 ⟨rfl, hb1⟩; obtain ⟨c0, c1, c2, c3, c4⟩ := box_cells hb1)
    all_goals go_ret2
    all_goals exact ⟨rfl, box_below hb1⟩
/-- What a draft's operand comes to. -/
def finX (syms : List (Bs × Nat)) (d : Draft) (at' : Int) : Option Int :=
  if d.l = [] then some d.n else (lookS syms d.l).map fun t => if d.role = 0 then ((t : Int) - at').tdiv 4 else (t : Int)
def finR (d : Draft) (x : Int) : Int × Int :=
  if d.role = 1 then (x % 4294967296, 0) else if d.role = 2 then encI d.op d.a d.b d.c (x % 4294967296 / 65536) else if d.role = 3 then encI d.op d.a d.b d.c (x % 65536) else encI d.op d.a d.b d.c x
/-- A draft's word, or its error. -/
def finL (syms : List (Bs × Nat)) (d : Draft) (at' : Int) : Int × Int := match finX syms d at' with | none => (0, 302) | some x => finR d x
def DraftOk (d : Draft) : Prop := -2147483648 ≤ d.n ∧ d.n ≤ 4294967295 ∧ 0 ≤ d.role ∧ d.role ≤ 3
def FinPost (r : Int × Int) (w : World) (e : Ending) (w' : World) : Prop := e = .returned (.tuple #[.int .u32 r.1, .int .i64 r.2]) ∧ Below w.heap.size w w'
theorem fU (w : Int) (h0 : 0 ≤ w) (h1 : w ≤ 4294967295) : fieldR w 16 16 = w / 65536 := by
  rw [fieldR_yes (by decide) (by decide) (by decide), field_eq w 16 16 h0 h1 (by decide)]
  have e : (2 : Nat) ^ (16 : Int).toNat = 65536 := by decide
  have e2 : (2 : Nat) ^ (min (16 : Int).toNat 32) = 65536 := by decide
  rw [e, e2]
  omega
set_option maxHeartbeats 4000000 in
set_option maxRecDepth 100000 in
theorem finish_num (P : Nat) (d : Draft) (at' : Int) (syms : List (Bs × Nat)) (w : World) (h0 : d.l = []) (hd : DraftOk d) (ha : 0 ≤ at' ∧ at' ≤ 4294967295) :
    Calls Tryd.prog 31 #[.pointer (some ⟨P, 0, none⟩), .agg #[.int .i64 d.line, .int .i64 d.role, .int .i64 d.op, .int .i64 d.a, .int .i64 d.b, .int .i64 d.c, .int .i32 0, .int .i64 d.n, .string (S d.l)], .int .u32 at'] w (FinPost (finL syms d at') w) := by
  have e : finL syms d at' = finR d d.n := by unfold finL finX; rw [if_pos h0]
  rw [e]
  clear e
  have q1 : (S d.l).toList = [] := by rw [toL, S_list, h0]
  have q2 : (S d.l).toList.isEmpty = true := by rw [q1]; rfl
  obtain ⟨n1, n2, r1, r2⟩ := hd
  clear h0
  have m0 : 0 ≤ d.n % 4294967296 := by omega
  have m1 : d.n % 4294967296 ≤ 4294967295 := by omega
  have hU := fU _ m0 m1
  have hL : fieldR (d.n % 4294967296) 0 16 = d.n % 65536 := by rw [f0 _ m0 m1]; unfold dL; omega
  generalize hr : d.role = r at *
  unfold finR
  rw [hr]
  clear hr
  rcases (show r = 0 ∨ r = 1 ∨ r = 2 ∨ r = 3 by omega) with rfl | rfl | rfl | rfl
  · rw [if_neg (by decide), if_neg (by decide), if_neg (by decide)]
    go_enter Tryd.func31, Tryd.ntmps31
    go_wp2_with (first
      | (go_at_call 46; (with_reducible refine (field_any _ _ _ _ (by omega) (by omega)).mono ?_); rintro e w2 ⟨rfl, m2, rfl⟩)
      | (go_at_call 47; (with_reducible refine (encode_asm _ _ _ _ _ _ (by omega) (by omega)).mono ?_); rintro e w3 ⟨rfl, hb3⟩))
    go_ret2
    exact ⟨rfl, below_step (by repeat' (first | with_reducible exact Below.refl _ _ | with_reducible apply below_drewN | with_reducible apply Below.drew | with_reducible apply Below.alloc | (simp; done) | (simp; omega))) hb3⟩
  · rw [if_pos rfl]
    go_enter Tryd.func31, Tryd.ntmps31
    go_wp2
    go_ret2
    exact ⟨rfl, by repeat' (first | with_reducible exact Below.refl _ _ | with_reducible apply below_drewN | with_reducible apply Below.drew | with_reducible apply Below.alloc | (simp; done) | (simp; omega))⟩
  · rw [if_neg (by decide), if_pos rfl]
    go_enter Tryd.func31, Tryd.ntmps31
    go_wp2_with (first
      | (go_at_call 46; (with_reducible refine (field_any _ _ _ _ (by omega) (by omega)).mono ?_); rintro e w2 ⟨rfl, m2, rfl⟩)
      | (go_at_call 47; (with_reducible refine (encode_asm _ _ _ _ _ _ (by omega) (by omega)).mono ?_); rintro e w3 ⟨rfl, hb3⟩))
    go_ret2
    exact ⟨rfl, below_step (by repeat' (first | with_reducible exact Below.refl _ _ | with_reducible apply below_drewN | with_reducible apply Below.drew | with_reducible apply Below.alloc | (simp; done) | (simp; omega))) hb3⟩
  · rw [if_neg (by decide), if_neg (by decide), if_pos rfl]
    go_enter Tryd.func31, Tryd.ntmps31
    go_wp2_with (first
      | (go_at_call 46; (with_reducible refine (field_any _ _ _ _ (by omega) (by omega)).mono ?_); rintro e w2 ⟨rfl, m2, rfl⟩)
      | (go_at_call 47; (with_reducible refine (encode_asm _ _ _ _ _ _ (by omega) (by omega)).mono ?_); rintro e w3 ⟨rfl, hb3⟩))
    go_ret2
    exact ⟨rfl, below_step (by repeat' (first | with_reducible exact Below.refl _ _ | with_reducible apply below_drewN | with_reducible apply Below.drew | with_reducible apply Below.alloc | (simp; done) | (simp; omega))) hb3⟩
set_option maxHeartbeats 4000000 in
set_option maxRecDepth 100000 in
theorem finish_lost (P M : Nat) (vs vd : Value) (d : Draft) (at' : Int) (syms : List (Bs × Nat)) (w : World) (hP : w.heap[P]? = some (.cells #[vs, .map (some M), vd] 64 (0, 0))) (hM : w.heap[M]? = some (symM syms)) (h0 : d.l ≠ []) (hd : DraftOk d) (ha : 0 ≤ at' ∧ at' ≤ 4294967295) (ht : lookS syms d.l = none) :
    Calls Tryd.prog 31 #[.pointer (some ⟨P, 0, none⟩), .agg #[.int .i64 d.line, .int .i64 d.role, .int .i64 d.op, .int .i64 d.a, .int .i64 d.b, .int .i64 d.c, .int .i32 0, .int .i64 d.n, .string (S d.l)], .int .u32 at'] w (FinPost (finL syms d at') w) := by
  have e : finL syms d at' = (0, 302) := by unfold finL finX; rw [if_neg h0, ht]; rfl
  rw [e]
  clear e
  have q1 := toL_ne (S_pos h0)
  have q2 := toL_ne' (S_pos h0)
  have hlk : ∀ o n, (Instr.lookup 61 (.map (some M)) (.string (S d.l)) true).run Tryd.prog ((w.alloc o).drewN n) = .ok (.tuple #[.int .u32 0, .bool false]) ((w.alloc o).drewN n) := fun o n => lookS_no (w := (w.alloc o).drewN n) (al_old hM) ht
  have p1 : w.cell? ⟨P, 1, none⟩ = some (.map (some M)) := cell_blk hP 1 rfl
  have hPl := lt_of_block hP
  clear h0 hM hP ht
  go_enter Tryd.func31, Tryd.ntmps31
  go_wp2
  go_quiet (fail)
  go_wp2
  go_ret2
  exact ⟨rfl, by repeat' (first | with_reducible exact Below.refl _ _ | with_reducible apply below_drewN | with_reducible apply Below.alloc | (simp; done) | (simp; omega))⟩
set_option maxHeartbeats 4000000 in
set_option maxRecDepth 100000 in
theorem finish_found (P M : Nat) (vs vd : Value) (d : Draft) (at' : Int) (syms : List (Bs × Nat)) (w : World) (hP : w.heap[P]? = some (.cells #[vs, .map (some M), vd] 64 (0, 0))) (hM : w.heap[M]? = some (symM syms)) (h0 : d.l ≠ []) (hd : DraftOk d) (ha : 0 ≤ at' ∧ at' ≤ 4294967295) (t : Nat) (ht : lookS syms d.l = some t) (htb : t ≤ 1000000) :
    Calls Tryd.prog 31 #[.pointer (some ⟨P, 0, none⟩), .agg #[.int .i64 d.line, .int .i64 d.role, .int .i64 d.op, .int .i64 d.a, .int .i64 d.b, .int .i64 d.c, .int .i32 0, .int .i64 d.n, .string (S d.l)], .int .u32 at'] w (FinPost (finL syms d at') w) := by
  have e : finL syms d at' = finR d (if d.role = 0 then ((t : Int) - at').tdiv 4 else (t : Int)) := by unfold finL finX; rw [if_neg h0, ht]; rfl
  rw [e]
  clear e
  have q1 := toL_ne (S_pos h0)
  have q2 := toL_ne' (S_pos h0)
  have hlk : ∀ o n, (Instr.lookup 61 (.map (some M)) (.string (S d.l)) true).run Tryd.prog ((w.alloc o).drewN n) = .ok (.tuple #[.int .u32 t, .bool true]) ((w.alloc o).drewN n) := fun o n => lookS_yes (w := (w.alloc o).drewN n) (al_old hM) ht
  have p1 : w.cell? ⟨P, 1, none⟩ = some (.map (some M)) := cell_blk hP 1 rfl
  have hPl := lt_of_block hP
  clear h0 hM hP ht
  obtain ⟨n1, n2, r1, r2⟩ := hd
  have htI : (t : Int) ≤ 1000000 := by omega
  have htI0 : 0 ≤ (t : Int) := by omega
  have hq : -4294967296 ≤ ((t : Int) - at').tdiv 4 ∧ ((t : Int) - at').tdiv 4 ≤ 4294967296 := by
    rcases Int.lt_or_le ((t : Int) - at') 0 with h | h
    · rw [show (t : Int) - at' = -(at' - t) by omega, Int.neg_tdiv]
      have := Int.tdiv_eq_ediv_of_nonneg (a := at' - t) (b := 4) (by omega)
      omega
    · have := Int.tdiv_eq_ediv_of_nonneg (a := (t : Int) - at') (b := 4) h
      omega
  have m0 : 0 ≤ (t : Int) % 4294967296 := by omega
  have m1 : (t : Int) % 4294967296 ≤ 4294967295 := by omega
  have m2 : (t : Int) % 4294967296 = t := by omega
  have hU : fieldR (t : Int) 16 16 = (t : Int) / 65536 := fU _ (by omega) (by omega)
  have hL : fieldR (t : Int) 0 16 = (t : Int) % 65536 := by rw [f0 _ (by omega) (by omega)]; unfold dL; omega
  have M2 := Lib.hid m2
  clear m2
  generalize hr : d.role = r at *
  unfold finR
  rw [hr]
  clear hr
  rcases (show r = 0 ∨ r = 1 ∨ r = 2 ∨ r = 3 by omega) with rfl | rfl | rfl | rfl
  · rw [if_neg (by decide), if_neg (by decide), if_neg (by decide), if_pos rfl]
    go_enter Tryd.func31, Tryd.ntmps31
    go_wp2
    go_quiet (fail)
    go_wp2_with (first
      | (go_at_call 46; (with_reducible refine (field_any _ _ _ _ (by omega) (by omega)).mono ?_); rintro e w2 ⟨rfl, m2, rfl⟩)
      | (go_at_call 47; (with_reducible refine (encode_asm _ _ _ _ _ _ (by omega) (by omega)).mono ?_); rintro e w3 ⟨rfl, hb3⟩))
    go_ret2
    exact ⟨rfl, below_step (by repeat' (first | with_reducible exact Below.refl _ _ | with_reducible apply below_drewN | with_reducible apply Below.drew | with_reducible apply Below.alloc | (simp; done) | (simp; omega))) hb3⟩
  · rw [if_pos rfl, if_neg (by decide), M2.out]
    go_enter Tryd.func31, Tryd.ntmps31
    go_wp2
    go_quiet (fail)
    go_wp2
    go_ret2
    exact ⟨rfl, by repeat' (first | with_reducible exact Below.refl _ _ | with_reducible apply below_drewN | with_reducible apply Below.drew | with_reducible apply Below.alloc | (simp; done) | (simp; omega))⟩
  · rw [if_neg (by decide), if_pos rfl, if_neg (by decide), M2.out]
    go_enter Tryd.func31, Tryd.ntmps31
    go_wp2
    go_quiet (fail)
    go_wp2_with (first
      | (go_at_call 46; (with_reducible refine (field_any _ _ _ _ (by omega) (by omega)).mono ?_); rintro e w2 ⟨rfl, m2, rfl⟩)
      | (go_at_call 47; (with_reducible refine (encode_asm _ _ _ _ _ _ (by omega) (by omega)).mono ?_); rintro e w3 ⟨rfl, hb3⟩))
    go_ret2
    exact ⟨rfl, below_step (by repeat' (first | with_reducible exact Below.refl _ _ | with_reducible apply below_drewN | with_reducible apply Below.drew | with_reducible apply Below.alloc | (simp; done) | (simp; omega))) hb3⟩
  · rw [if_neg (by decide), if_neg (by decide), if_pos rfl, if_neg (by decide)]
    go_enter Tryd.func31, Tryd.ntmps31
    go_wp2
    go_quiet (fail)
    go_wp2_with (first
      | (go_at_call 46; (with_reducible refine (field_any _ _ _ _ (by omega) (by omega)).mono ?_); rintro e w2 ⟨rfl, m2, rfl⟩)
      | (go_at_call 47; (with_reducible refine (encode_asm _ _ _ _ _ _ (by omega) (by omega)).mono ?_); rintro e w3 ⟨rfl, hb3⟩))
    go_ret2
    exact ⟨rfl, below_step (by repeat' (first | with_reducible exact Below.refl _ _ | with_reducible apply below_drewN | with_reducible apply Below.drew | with_reducible apply Below.alloc | (simp; done) | (simp; omega))) hb3⟩
theorem finish_any (P M : Nat) (vs vd : Value) (d : Draft) (at' : Int) (syms : List (Bs × Nat)) (w : World) (hP : w.heap[P]? = some (.cells #[vs, .map (some M), vd] 64 (0, 0))) (hM : w.heap[M]? = some (symM syms)) (hd : DraftOk d) (ha : 0 ≤ at' ∧ at' ≤ 4294967295) (hsy : ∀ s ∈ syms, s.2 ≤ 1000000) :
    Calls Tryd.prog 31 #[.pointer (some ⟨P, 0, none⟩), .agg #[.int .i64 d.line, .int .i64 d.role, .int .i64 d.op, .int .i64 d.a, .int .i64 d.b, .int .i64 d.c, .int .i32 0, .int .i64 d.n, .string (S d.l)], .int .u32 at'] w (FinPost (finL syms d at') w) := by
  by_cases h0 : d.l = []
  · exact finish_num P d at' syms w h0 hd ha
  · cases ht : lookS syms d.l with
    | none => exact finish_lost P M vs vd d at' syms w hP hM h0 hd ha ht
    | some t =>
      refine finish_found P M vs vd d at' syms w hP hM h0 hd ha t ht ?_
      unfold lookS at ht
      obtain ⟨q, hq, he⟩ := Option.map_eq_some_iff.1 ht
      rw [← he]
      exact hsy q (List.mem_of_find?_eq_some hq)
end Go.Proofs.YthghbcjaokpilaaDoor

namespace Go.Proofs.YthghbcjaokpilaaDoor
set_option linter.unusedVariables false
set_option linter.unusedSimpArgs false
open Go.ChangeShapes Go.WideShapes Go.ChangeAt Go.RowKit Go.Proofs.YthghbcjaokpilaaDoor.Num Go.Proofs.YthghbcjaokpilaaDoor.Isa Go.Proofs.YthghbcjaokpilaaDoor.Mem Go.Proofs.YthghbcjaokpilaaDoor.Asm
/-- The second pass: the words, or the first error and its line. -/
def codeL (syms : List (Bs × Nat)) : List Draft → List Int → Sum (Int × Int) (List Int)
  | [], acc => .inr acc
  | d :: ds, acc => if (finL syms d (4 * (acc.length : Int))).2 = 0 then codeL syms ds (acc ++ [(finL syms d (4 * (acc.length : Int))).1]) else .inl ((finL syms d (4 * (acc.length : Int))).2, d.line)
theorem code_ok {syms : List (Bs × Nat)} {d : Draft} {ds : List Draft} {acc : List Int} (h : (finL syms d (4 * (acc.length : Int))).2 = 0) : codeL syms (d :: ds) acc = codeL syms ds (acc ++ [(finL syms d (4 * (acc.length : Int))).1]) := by simp only [codeL, if_pos h]
theorem code_bad {syms : List (Bs × Nat)} {d : Draft} {ds : List Draft} {acc : List Int} (h : ¬ (finL syms d (4 * (acc.length : Int))).2 = 0) : codeL syms (d :: ds) acc = .inl ((finL syms d (4 * (acc.length : Int))).2, d.line) := by simp only [codeL, if_neg h]
def u32V (x : Int) : Value := .int .u32 x
theorem info_u32 : (Tryd.prog.info? 34).map (fun i => (i.zero, i.size, i.bytes)) = some (some (.int .u32 0), 1, 4) := by kernel_rfl
theorem one_u32 (x : Int) : ∀ u ∈ [Value.int .u32 x], u.oneCell' = true := by simp [Value.oneCell']
theorem snoc_u32 {w : World} {base : Nat} {v : Value} {n : Nat} {acc : List Int} {t : Int} (h : w.ownsRow base 34 1 v (n + 1) (acc.map u32V ++ [.int .u32 t])) (hn : n = acc.length) : w.ownsRow base 34 1 v (acc ++ [t]).length ((acc ++ [t]).map u32V) := by
  subst hn; simpa [u32V] using h
def CodePost (r : Sum (Int × Int) (List Int)) (w : World) (e : Ending) (w' : World) : Prop :=
  (match r with
  | .inl (err, line) => e = .returned (.tuple #[.slice none 0 0, .agg #[.int .i64 err, .int .i64 line]])
  | .inr ws => ∃ v, e = .returned (.tuple #[v, .agg #[.int .i64 0, .int .i64 0]]) ∧ w'.ownsRow w.heap.size 34 1 v ws.length (ws.map u32V)) ∧ Below w.heap.size w w'
theorem results_slot_cell {fn : Func} {p u : Tmp} {ty : TypeId} (h : fn.results = #[.tmp u, .cell p ty]) (tmps : Array Value) (P : Program) (w : World) :
    (results fn tmps).run P w =
      ((asAddr (tmps.getD p undef)).run P w).andThen fun a w₁ => ((loadVar ty a).run P w₁).andThen fun v w₂ => .ok (.tuple #[tmps.getD u undef, v]) w₂ := by
  simp only [results, h]
  simp [Sem.run_bind, Result.andThen]
/-- The state of code's loop. -/
def CodeRel (syms : List (Bs × Nat)) (ds : List Draft) (w : World) (v i : Value) (wr : World) : Prop :=
  ∃ (k : Nat) (acc : List Int), k ≤ ds.length ∧ i = .int .i64 k ∧ acc.length = k ∧ wr.ownsRow (w.heap.size + 1) 34 1 v acc.length (acc.map u32V) ∧ wr.heap[w.heap.size]? = some (.cells #[.int .i64 0, .int .i64 0] 31 (0, 0)) ∧
    codeL syms ds [] = codeL syms (ds.drop k) acc ∧ Below w.heap.size w wr
theorem code_after {w wr W w1 w2 : World} {v : Value} {n : Nat} {xs : List Value} (hbw : Below w.heap.size w wr) (hW : Below wr.heap.size wr W) (h1 : Below W.heap.size W w1) (hown : wr.ownsRow (w.heap.size + 1) 34 1 v n xs) (o : Obj) (hg : (w1.alloc o).grownBy w2 v.ownBlock) {obj : Obj} (h0 : wr.heap[w.heap.size]? = some obj) :
    w2.heap[w.heap.size]? = some obj ∧ Below w.heap.size w w2 := by
  have hws := hbw.size
  have s1 := hW.size
  have s2 := h1.size
  have hlt := lt_of_block h0
  have hB1 : Below wr.heap.size wr w1 := hW.trans (h1.mono s1)
  have hB2 : Below wr.heap.size wr (w1.alloc o) := hB1.alloc (by omega) o
  have hown1 := own_below hown hB1
  refine ⟨?_, (hbw.trans (hB2.mono hws)).grown hg (by simp; omega) (fun k hk => by have := (hown1.lt k hk).1; omega)⟩
  have hne : some w.heap.size ≠ v.ownBlock := fun e => by have := (hown1.lt _ e.symm).1; omega
  rw [hg.block w.heap.size (by simp; omega) hne]
  exact heap_below h0 hB2
set_option maxRecDepth 100000 in
set_option maxHeartbeats 8000000 in
theorem code_asm (P M b0 : Nat) (vs vd : Value) (syms : List (Bs × Nat)) (ds : List Draft) (w : World) (hP : w.heap[P]? = some (.cells #[vs, .map (some M), vd] 64 (0, 0))) (hM : w.heap[M]? = some (symM syms)) (hD : w.ownsRow b0 83 9 vd ds.length (flat ds))
    (hok : ∀ d ∈ ds, DraftOk d) (hsy : ∀ s ∈ syms, s.2 ≤ 1000000) (hl : ds.length ≤ 1024) :
    Calls Tryd.prog 22 #[.pointer (some ⟨P, 0, none⟩)] w (CodePost (codeL syms ds []) w) := by
  obtain ⟨i0, hi, hz0, hz1, hz2⟩ := info_parts info_u32
  obtain ⟨oa, cap, hv⟩ := own_shape hD
  subst hv
  have HP := Lib.hid hP
  have HM := Lib.hid hM
  have HD := Lib.hid hD
  have HOK := Lib.hid hok
  have HSY := Lib.hid hsy
  have p2 : w.cell? ⟨P, 2, none⟩ = some (.slice oa ds.length cap) := cell_blk hP 2 rfl
  have p3 : ∀ o, (w.alloc o).cell? ⟨P, 2, none⟩ = some (.slice oa ds.length cap) := fun o => still p2 ((Below.refl _ _).alloc (Nat.le_refl _) _)
  clear hP hM hD hok hsy
  go_enter Tryd.func22, Tryd.ntmps22
  go_wp2
  go_loopw [4, 14] (fun v i wr => CodeRel syms ds w v i wr) (fun _ i _ => ds.length - (intOf i).toNat)
  case atStart =>
    exact ⟨0, [], by omega, rfl, rfl, World.ownsRow_nil _ _ _ _, al_new _ _ _ rfl, rfl, (Below.refl _ _).alloc (Nat.le_refl _) _⟩
  case round =>
    obtain ⟨k, acc, hk, rfl, hka, hown, h0, hE, hbw⟩ := hrel
    have hws := hbw.size
    have hlt0 := lt_of_block h0
    obtain ⟨ca, ccap, hv⟩ := own_shape hown
    subst hv
    by_cases hlt : k < ds.length
    · obtain ⟨G, hG, hcell⟩ := own_at (own_below HD.out hbw) (by omega)
      subst hG
      have hdr : ds.drop k = ds[k] :: ds.drop (k + 1) := List.drop_eq_getElem_cons hlt
      rw [hdr] at hE
      have hdk := HOK.out _ (List.getElem_mem hlt)
      have hc : ∀ i v, i < 9 → (dCells ds[k])[i]? = some v → wr.cell? ⟨G, k * 9 + i, none⟩ = some v := fun i v hi hv => by
        rw [hcell _ (by omega), flat_get ds k hlt i hi]; exact hv
      generalize ds[k] = d at *
      have e0 : wr.cell? ⟨G, k * 9, none⟩ = some (.int .i64 d.line) := hc 0 _ (by omega) rfl
      have e1 := hc 1 _ (by omega) rfl
      have e2 := hc 2 _ (by omega) rfl
      have e3 := hc 3 _ (by omega) rfl
      have e4 := hc 4 _ (by omega) rfl
      have e5 := hc 5 _ (by omega) rfl
      have e6 := hc 6 _ (by omega) rfl
      have e7 := hc 7 _ (by omega) rfl
      have e8 := hc 8 _ (by omega) rfl
      subst hka
      have hfin := fun W (h : Below wr.heap.size wr W) => finish_any P M vs (.slice (some ⟨G, 0, none⟩) ds.length cap) d (4 * (acc.length : Int)) syms W (heap_below HP.out (hbw.trans (h.mono hws))) (heap_below HM.out (hbw.trans (h.mono hws))) hdk (by omega) HSY.out
      have HOWN := Lib.hid hown
      have H0 := Lib.hid h0
      by_cases hr : (finL syms d (4 * (acc.length : Int))).2 = 0
      · have hE2 := Lib.hid (hE.trans (code_ok hr))
        generalize finL syms d (4 * (acc.length : Int)) = r at *
        obtain ⟨x, c⟩ := r
        dsimp only at hr
        subst hr
        have HFIN := Lib.hid hfin
        clear hE hdr hc hcell hdk hown h0 hfin
        go_wp2_with (first
          | (go_at_call 31; (with_reducible refine (HFIN.out _ (by repeat' (first | with_reducible exact Below.refl _ _ | with_reducible apply Below.alloc | (simp; done) | (simp; omega)))).mono ?_); rintro e w3 ⟨rfl, hb3⟩; have HB3 := Lib.hid hb3; have hown3 := own_below HOWN.out (((Below.refl _ _).alloc (Nat.le_refl _) _).trans (hb3.mono (by simp))); clear hb3)
          | (at_builtin; refine wpList_append_own _ rfl _ _ 28 rfl (w.heap.size + 1) 34 i0 (.int .u32 0) 1 4 Tryd.underlying28 hi hz0 hz1 hz2 rfl (by decide) _ _ _ rfl (hown3.alloc _) ⟨_, 0, none⟩ 1 1 [.int .u32 x] rfl rfl (new_cell _ _ _) (one_u32 x) (by unfold maxLen; omega) (by omega) (by have := HB3.out.size; simp at this ⊢; omega) ?_))
        intro v' w4 hown4 hgrow _
        obtain ⟨h40, hb4⟩ := code_after hbw ((Below.refl _ _).alloc (Nat.le_refl _) _) HB3.out HOWN.out _ hgrow H0.out
        have HO := Lib.hid (snoc_u32 hown4 rfl)
        have H40 := Lib.hid h40
        clear hown4 hgrow h40
        go_wp2
        go_roundw
        case rel => exact ⟨acc.length + 1, acc ++ [x], by omega, by go_num, by simp, HO.out, H40.out, hE2.out, hb4⟩
        case measure => simp [intOf]; omega
      · have hE2 := Lib.hid (hE.trans (code_bad hr))
        generalize finL syms d (4 * (acc.length : Int)) = r at *
        obtain ⟨x, c⟩ := r
        dsimp only at hr
        have hrb : (c != 0) = true := by rw [bne_iff_ne]; exact hr
        have HFIN := Lib.hid hfin
        clear hE hdr hc hcell hdk hown h0 hfin
        go_wp2_with (first
          | (go_at_call 31; (with_reducible refine (HFIN.out _ (by repeat' (first | with_reducible exact Below.refl _ _ | with_reducible apply Below.alloc | (simp; done) | (simp; omega)))).mono ?_); rintro e w3 ⟨rfl, hb3⟩; have HB3 := Lib.hid hb3; have g0 := cell_blk (heap_below (al_old H0.out) hb3); have f0 := free_blk (heap_below (al_old H0.out) hb3); have c0 := g0 0 rfl; have c1 := g0 1 rfl; have i0 := f0 0; have i1 := f0 1; have l0 := cell_blk (heap_below (al_new wr _ _ rfl) hb3) 0 rfl; clear g0 f0 hb3))
        go_region
        all_goals go_wp2
        all_goals (rw [hE2.out]; refine bodyPost_ret (v := .tuple #[.slice none 0 0, .agg #[.int .i64 c, .int .i64 d.line]]) ?_ rfl ⟨rfl, ?_⟩)
        · rw [results_slot_cell rfl]; go_simp
        · have h0 : w.heap.size ≤ w.heap.size := Nat.le_refl _
          have hB : Below w.heap.size w w3 := hbw.trans ((((Below.refl _ _).alloc (Nat.le_refl _) _).trans (HB3.out.mono (by simp))).mono hws)
          exact ((hB.setCell h0 _).setCell h0 _).drew
    · have hke : acc.length = ds.length := by omega
      have hE2 : codeL syms ds [] = .inr acc := by rw [hE, hka.symm.trans hke, List.drop_length]; rfl
      have HE := Lib.hid hE2
      have HOWN := Lib.hid hown
      have H0 := Lib.hid h0
      have g0 := cell_blk h0
      have f0 := free_blk h0
      have c0 := g0 0 rfl
      have c1 := g0 1 rfl
      have d0 := f0 0
      have d1 := f0 1
      clear hE hE2 hown h0 g0 f0
      go_wp2
      rw [HE.out]
      refine bodyPost_ret (v := .tuple #[.slice ca acc.length ccap, .agg #[.int .i64 0, .int .i64 0]]) ?_ rfl ⟨⟨_, rfl, ?_⟩, ?_⟩
      · rw [results_slot_cell rfl]; go_simp
      · have n0 := own_low HOWN.out (k := w.heap.size) (by omega)
        exact own_base (ownsRow_setCell_other (ownsRow_setCell_other HOWN.out n0 _) n0 _) (by omega)
      · have h0 : w.heap.size ≤ w.heap.size := Nat.le_refl _
        exact (hbw.setCell h0 _).setCell h0 _
end Go.Proofs.YthghbcjaokpilaaDoor
