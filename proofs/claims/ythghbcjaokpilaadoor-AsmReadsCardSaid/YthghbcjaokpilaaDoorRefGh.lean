import Derived.Test.YthghbcjaokpilaaDoorRefGe
import Derived.Test.YthghbcjaokpilaaDoorRefGg
import Derived.Test.YthghbcjaokpilaaDoorRefGf
import Derived.Test.YthghbcjaokpilaaDoorAsmGa
import Derived.Test.YthghbcjaokpilaaDoorExit
import Derived.RegionTactic
import Derived.BigRegion
import Derived.Deep.DeepCutAuto
namespace Go.Proofs.YthghbcjaokpilaaDoor
set_option linter.unusedVariables false
set_option linter.unusedSimpArgs false
open Go.ChangeShapes Go.WideShapes Go.ChangeAt Go.RowKit Go.Proofs.YthghbcjaokpilaaDoor.Num Go.Proofs.YthghbcjaokpilaaDoor.Isa Go.Proofs.YthghbcjaokpilaaDoor.Mem Go.Proofs.YthghbcjaokpilaaDoor.Asm
/- The statements of the reference's second pass, by their shapes. -/
def I64 (v : Int) : Prop := -9223372036854775808 ≤ v ∧ v ≤ 9223372036854775807
theorem mt_num {p : UInt8} {t : Tk} {x : Arg} (h : mtStep p t = some (some x)) : -2147483648 ≤ x.num ∧ x.num ≤ 4294967295 := by
  unfold mtStep at h
  split at h
  · split at h
    · split at h
      · injection h with h; injection h with h; subst h; exact ⟨(by show (-2147483648 : Int) ≤ 0; omega), (by show (0 : Int) ≤ 4294967295; omega)⟩
      · cases h
    · cases h
  · split at h
    · split at h
      · injection h with h; injection h with h; subst h; exact ⟨(by show (-2147483648 : Int) ≤ 0; omega), (by show (0 : Int) ≤ 4294967295; omega)⟩
      · split at h
        · rename_i n hn
          split at h
          · injection h with h; injection h with h; subst h; exact numL_bd hn
          · cases h
        · cases h
    · split at h <;> cases h
theorem go_num : ∀ (ts : List Tk) (ps : Bs) (l : List Arg), mtGo ts ps = some l → ∀ x ∈ l, -2147483648 ≤ x.num ∧ x.num ≤ 4294967295
  | t :: ts, p :: ps, l, h, x, hx => by
    unfold mtGo at h
    cases hs : mtStep p t with
    | none => rw [hs] at h; cases h
    | some o =>
      rw [hs] at h
      simp only [Option.bind_some] at h
      cases hg : mtGo ts ps with
      | none => rw [hg] at h; cases h
      | some r =>
        rw [hg] at h
        simp only [Option.map_some] at h
        injection h with h
        subst h
        rcases List.mem_append.1 hx with hx | hx
        · cases o with
          | none => simp at hx
          | some y =>
            simp at hx
            subst hx
            exact mt_num hs
        · exact go_num ts ps r hg x hx
  | [], ps, l, h, x, hx => by unfold mtGo at h; injection h with h; subst h; cases hx
  | t :: ts, [], l, h, x, hx => by unfold mtGo at h; injection h with h; subst h; cases hx
/-- What a statement's operands can be. -/
inductive StF : StR → Prop
  | word (x : Arg) (size : Int) : StF ⟨wWord, 0, [x], size⟩
  | space (x : Arg) (k : Nat) : x.lab = [] → k ≤ 1024 → StF ⟨wSpace, 0, [x], (k : Int)⟩
  | li (x y : Arg) (size : Int) : 0 ≤ x.reg → x.reg ≤ 15 → StF ⟨wLi, 0, [x, y], size⟩
  | mv (x y : Arg) (size : Int) : 0 ≤ x.reg → x.reg ≤ 15 → 0 ≤ y.reg → y.reg ≤ 15 → StF ⟨wMv, 0, [x, y], size⟩
  | nop (size : Int) : StF ⟨wNop, 0, [], size⟩
  | ins (what : Bs) (op : Int) (l : List Arg) (size : Int) : ¬ what = wWord → ¬ what = wSpace → ¬ what = wLi → ¬ what = wMv → ¬ what = wNop → 0 < op → l.length ≤ 3 →
      (∀ (oa : Option Addr) (cap : Nat) (line at' v : Int) (w : World), RowA w oa l → -9223372036854775808 ≤ v → v ≤ 9223372036854775807 →
        Calls Tryd.prog 20 #[stmV6 what op (.slice oa l.length cap) line at' size, .int .i64 v] w (InsPost op (insR op l v).1 (insR op l v).2.1 (insR op l v).2.2.1 (insR op l v).2.2.2 w)) → StF ⟨what, op, l, size⟩
theorem StF.len {st : StR} (h : StF st) : st.l.length ≤ 3 := by
  cases h with
  | ins what op l size _ _ _ _ _ _ h3 => exact h3
  | _ => simp
theorem st_form {st : StR} {dd : List Draft} (h : StOk st dd) : StF st ∧ (∀ x ∈ st.l, -2147483648 ≤ x.num ∧ x.num ≤ 4294967295) := by
  obtain ⟨q, L, hq, hop, hm, hw, hz⟩ := h
  obtain ⟨hr, hne⟩ := stm_row hq
  have hsh := mt_shape q.pat L st.l (row_facts q hr).1 hm
  obtain ⟨what, op, al, size⟩ := st
  simp only at hop hm hw hz hsh hne
  subst hne
  subst hop
  have hnum : ∀ x ∈ al, -2147483648 ≤ x.num ∧ x.num ≤ 4294967295 := by
    unfold mtL at hm
    split at hm
    · exact go_num _ _ _ hm
    · cases hm
  refine ⟨?_, hnum⟩
  clear hm hq
  have hz0 := op_zero
  rcases row_form q hr with ⟨hk, hnm, hp⟩ | ⟨hk, hnm, hp⟩ | ⟨hk, hnm, hp, h24⟩ | ⟨hk, hi⟩
  · rw [hp] at hsh
    obtain ⟨x, r, rfl, hx, hr'⟩ := sha_l rfl hsh
    obtain rfl : r = [] := hr'
    rw [hnm, hz0.1]
    exact .word x size
  · rw [hp] at hsh hw
    obtain ⟨x, r, rfl, hx, hr'⟩ := sha_l rfl hsh
    obtain rfl : r = [] := hr'
    obtain ⟨_, hxl⟩ := argN hx
    unfold wordsL at hw
    rw [if_neg (by rw [hk]; decide), if_neg (by rw [hk]; decide), if_neg (by rw [hk]; decide), if_pos hk] at hw
    split at hw
    · cases hw
    · rename_i hb
      obtain rfl := Option.some.inj hw
      rw [hnm, hz0.2.1, hz]
      refine .space x _ hxl ?_
      rw [List.length_replicate]
      have := Nat.le_of_not_lt (fun h : 1024 < ((putL q.pat [x] .zero).n).toNat => hb (by rw [hp] at h; right; omega))
      rw [hp] at this
      exact this
  · rw [hp] at hsh
    obtain ⟨x, r, rfl, hx, hr'⟩ := sha_l rfl hsh
    obtain ⟨y, r2, rfl, hy, hr2⟩ := sha_l rfl (sha_s rfl hr')
    obtain rfl : r2 = [] := hr2
    obtain ⟨x0, x1, _, _⟩ := argA hx
    rw [hnm, hz0.2.2.1]
    exact .li x y size x0 x1
  · rcases hi with ⟨hnm, ho, hp⟩ | ⟨hnm, ho, hp⟩ | ⟨w1, w2, w3, w4, w5, hop, hpos, hi⟩
    · rw [hp] at hsh
      obtain ⟨x, r, rfl, hx, hr'⟩ := sha_l rfl hsh
      obtain ⟨y, r2, rfl, hy, hr2⟩ := sha_l rfl (sha_s rfl hr')
      obtain rfl : r2 = [] := hr2
      obtain ⟨x0, x1, _, _⟩ := argA hx
      obtain ⟨y0, y1, _, _⟩ := argB hy
      rw [hnm, hz0.2.2.2.1]
      exact .mv x y size x0 x1 y0 y1
    · rw [hp] at hsh
      obtain rfl : al = [] := hsh
      rw [hnm, hz0.2.2.2.2]
      exact .nop size
    · rw [hop]
      rcases hi with ⟨hp, hf⟩ | ⟨hp, hf, o1, o2⟩ | ⟨hp, hf, ho, h6⟩ | ⟨hp, ho, h1⟩ | ⟨hp, hf, ho, h6, h1⟩
      · rw [hp] at hsh
        obtain ⟨x, r, rfl, hx, hr'⟩ := sha_l rfl hsh
        obtain ⟨y, r2, rfl, hy, hr2⟩ := sha_l rfl (sha_s rfl hr')
        obtain ⟨z, r3, rfl, hz', hr3⟩ := sha_l rfl (sha_s rfl hr2)
        obtain rfl : r3 = [] := hr3
        refine .ins _ _ _ _ w1 w2 w3 w4 w5 hpos (by simp) fun oa cap line at' v w hA v0 v1 => ?_
        have := inst_S2 q.name q.op oa 3 cap x y z [] line at' size v w rfl hA v0 v1 hf
        unfold insR
        rw [if_pos hf]
        exact this
      · rw [hp] at hsh
        obtain ⟨x, r, rfl, hx, hr'⟩ := sha_l rfl hsh
        obtain ⟨y, r2, rfl, hy, hr2⟩ := sha_l rfl (sha_s rfl hr')
        obtain ⟨z, r3, rfl, hz', hr3⟩ := sha_l rfl (sha_s rfl hr2)
        obtain rfl : r3 = [] := sha_s rfl hr3
        refine .ins _ _ _ _ w1 w2 w3 w4 w5 hpos (by simp) fun oa cap line at' v w hA v0 v1 => ?_
        have hy := hnum y (by simp)
        have := inst_SL q.name q.op oa 3 cap x y z [] line at' size v w rfl hA v0 v1 (by omega) (by omega) hf o1 o2 (frm_lw o1 o2).2
        unfold insR
        rw [if_neg hf, if_pos ⟨o1, o2⟩]
        exact this
      · have : ∃ x y, al = [x, y] := by
          rcases hp with hp | hp
          all_goals
            rw [hp] at hsh
            obtain ⟨x, r, rfl, hx, hr'⟩ := sha_l rfl hsh
            obtain ⟨y, r2, rfl, hy, hr2⟩ := sha_l rfl (sha_s rfl hr')
            obtain rfl : r2 = [] := hr2
            exact ⟨x, y, rfl⟩
        obtain ⟨x, y, rfl⟩ := this
        refine .ins _ _ _ _ w1 w2 w3 w4 w5 hpos (by simp) fun oa cap line at' v w hA v0 v1 => ?_
        have := inst_S6 q.name q.op oa 2 cap x [y] line at' size v w rfl hA v0 v1 hf ho h6
        unfold insR
        rw [if_neg hf, if_neg ho, if_pos h6]
        exact this
      · rw [hp] at hsh
        obtain rfl : al = [] := hsh
        refine .ins _ _ _ _ w1 w2 w3 w4 w5 hpos (by simp) fun oa cap line at' v w hA v0 v1 => ?_
        have := inst_S1 q.name q.op oa 0 cap line at' size v w rfl hA v0 v1 ho h1
        unfold insR
        rw [if_neg (by omega), if_neg ho, if_neg (by omega), if_pos h1]
        exact this
      · have : ∃ x y z, al = [x, y, z] := by
          rcases hp with hp | hp
          all_goals
            rw [hp] at hsh
            obtain ⟨x, r, rfl, hx, hr'⟩ := sha_l rfl hsh
            obtain ⟨y, r2, rfl, hy, hr2⟩ := sha_l rfl (sha_s rfl hr')
            obtain ⟨z, r3, rfl, hz', hr3⟩ := sha_l rfl (sha_s rfl hr2)
            obtain rfl : r3 = [] := hr3
            exact ⟨x, y, z, rfl⟩
        obtain ⟨x, y, z, rfl⟩ := this
        refine .ins _ _ _ _ w1 w2 w3 w4 w5 hpos (by simp) fun oa cap line at' v w hA v0 v1 => ?_
        have := inst_SO q.name q.op oa 3 cap x y [z] line at' size v w rfl hA v0 v1 hf ho h6 h1
        unfold insR
        rw [if_neg hf, if_neg ho, if_neg h6, if_neg h1]
        exact this
end Go.Proofs.YthghbcjaokpilaaDoor

namespace Go.Proofs.YthghbcjaokpilaaDoor
set_option linter.unusedVariables false
set_option linter.unusedSimpArgs false
open Go.ChangeShapes Go.WideShapes Go.ChangeAt Go.RowKit Go.Proofs.YthghbcjaokpilaaDoor.Num Go.Proofs.YthghbcjaokpilaaDoor.Isa Go.Proofs.YthghbcjaokpilaaDoor.Mem Go.Proofs.YthghbcjaokpilaaDoor.Asm
theorem own_at6 {w : World} {base : Nat} {e : TypeId} {oa : Option Addr} {n cap : Nat} {Y : List StS} (h : w.ownsRow base e 6 (.slice oa n cap) n (flatX Y)) (hn : 0 < n) : ∃ g, oa = some ⟨g, 0, none⟩ ∧ ∀ j, j < n * 6 → w.cell? ⟨g, j, none⟩ = (flatX Y)[j]? := by
  have h' := h
  rcases h.2 with ⟨h1, h2⟩ | ⟨g, cap', cur, h1, _⟩
  · omega
  · injection h1 with h1 _ _
    subst h1
    exact ⟨g, rfl, fun j hj => h'.cellAt j hj⟩
theorem flatX_get (Y : List StS) : ∀ (k : Nat) (hk : k < Y.length) (i : Nat), i < 6 → (flatX Y)[k * 6 + i]? = (stC Y[k])[i]? := by
  induction Y with
  | nil => intro k hk; simp at hk
  | cons d Y ih =>
    intro k hk i hi
    have e : flatX (d :: Y) = stC d ++ flatX Y := rfl
    have hl : (stC d).length = 6 := rfl
    rw [e]
    cases k with
    | zero => rw [List.getElem?_append_left (by omega)]; simp
    | succ k =>
      rw [List.getElem?_append_right (by omega), hl, show (k + 1) * 6 + i - 6 = k * 6 + i by omega, ih k (by simpa using hk) i hi]
      simp
/-- The six cells of a statement in a block. -/
structure InS (w : World) (b : Nat) (y : StS) : Prop where
  c0 : w.cell? ⟨b, 0, none⟩ = some (.string (S y.x.st.what))
  c1 : w.cell? ⟨b, 1, none⟩ = some (.int .i64 y.x.st.op)
  c2 : w.cell? ⟨b, 2, none⟩ = some y.v
  c3 : w.cell? ⟨b, 3, none⟩ = some (.int .i64 y.x.line)
  c4 : w.cell? ⟨b, 4, none⟩ = some (.int .i64 y.x.at')
  c5 : w.cell? ⟨b, 5, none⟩ = some (.int .i64 y.x.st.size)
  blk : ∃ cs, w.heap[b]? = some (.cells cs 49 (0, 0))
theorem InS.on {w w' : World} {b : Nat} {y : StS} (h : InS w b y) (hb : Below w.heap.size w w') : InS w' b y := ⟨stillW h.c0 hb, stillW h.c1 hb, stillW h.c2 hb, stillW h.c3 hb, stillW h.c4 hb, stillW h.c5 hb, by
  obtain ⟨cs, h6⟩ := h.blk
  exact ⟨cs, (hb.block b (World.block_lt_of_cell? w ⟨b, 0, none⟩ h.c0)).trans h6⟩⟩
theorem own_neT {w : World} {base gb n : Nat} {T T' : TypeId} {v : Value} {xs : List Value} {cs : Array Value} (h : w.ownsRow base T 1 v n xs) (hb : w.heap[gb]? = some (.cells cs T' (0, 0))) (hT : T ≠ T') : some gb ≠ v.ownBlock := by
  rcases h.2 with ⟨rfl, h0⟩ | ⟨g, cap, cur, rfl, hbg, hg, _⟩
  · intro e; cases e
  · intro e
    injection e with e
    subst e
    rw [hb] at hg
    injection hg with hg
    injection hg with h1 h2
    exact hT h2.symm
theorem new_cell2 (w : World) (x y : Value) (T : TypeId) : ∀ j u, [x, y][j]? = some u → (w.alloc (.cells #[x, y] T)).cell? ((⟨w.heap.size, 0, none⟩ : Addr).add j) = some u := by
  intro j u h
  rw [Go.WideShapes.add_plain, World.cell?_alloc_at _ _ _ _ rfl, Nat.zero_add]
  simpa using h
theorem one_u32' (x y : Int) : ∀ u ∈ [Value.int .u32 x, Value.int .u32 y], u.oneCell' = true := by simp [Value.oneCell']
theorem InS.lt {w : World} {b : Nat} {y : StS} (h : InS w b y) : b < w.heap.size := World.block_lt_of_cell? w _ h.c0
/-- The loop of the second pass. -/
def AsRel (syms : List (Bs × Nat)) (sts : List StL) (W2 : World) (v i : Value) (wr : World) : Prop :=
  ∃ (k : Nat) (acc : List Int) (ds : List Draft), k ≤ sts.length ∧ i = .int .i64 k ∧ ExpL (sts.drop k) ds acc.length ∧ acc.length + ds.length ≤ 100000 ∧ wr.ownsRow W2.heap.size 34 1 v acc.length (acc.map u32V) ∧ cdR syms sts [] = cdR syms (sts.drop k) acc ∧ Below W2.heap.size W2 wr
/-- What the last operand gives, behind the statement's own box. -/
def AsV (syms : List (Bs × Nat)) (y : StS) (g : Nat) (wr : World) (s : Value) (wx : World) : Prop := ∃ v : Int, s = .int .i64 v ∧ Hid (lastV syms y.x = some v) ∧ Hid (-9223372036854775808 ≤ v ∧ v ≤ 9223372036854775807) ∧ Hid (InS wx g y) ∧ Hid (Below wr.heap.size wr wx)
theorem rdR_err : ∀ (ls : List Bs) (i : Nat) (A : Int) (syms : List (Bs × Nat)) (sts : List StL) (e n : Nat), rdR ls i A syms sts = .inl (e, n) → e ≠ 0
  | [], i, A, syms, sts, e, n, h => by rw [rd_nil] at h; cases h
  | l :: ls, i, A, syms, sts, e, n, h => by
    unfold rdR at h
    repeat' split at h
    all_goals first
      | (injection h with h; injection h with h1 h2; omega)
      | exact rdR_err ls _ _ _ _ e n h
theorem rdF_err {l : Bs} {e n : Nat} (h : rdF l = .inl (e, n)) : e ≠ 0 := by
  unfold rdF at h
  split at h
  · injection h with h; injection h with h1 h2; omega
  · exact rdR_err _ _ _ _ _ _ _ h
theorem symR_len (syms : List (Bs × Nat)) (lab : Bs) (A : Int) : (symR syms lab A).length ≤ syms.length + 1 := by
  unfold symR
  split
  · omega
  · simp
theorem rdR_syms : ∀ (ls : List Bs) (i : Nat) (A : Int) (syms : List (Bs × Nat)) (sts : List StL) (s' : List (Bs × Nat)) (t' : List StL), rdR ls i A syms sts = .inr (s', t') → s'.length ≤ syms.length + ls.length
  | [], i, A, syms, sts, s', t', h => by rw [rd_nil] at h; injection h with h; injection h with h1 h2; subst h1; simp
  | l :: ls, i, A, syms, sts, s', t', h => by
    unfold rdR at h
    repeat' split at h
    all_goals first
      | (cases h; done)
      | (rename_i x lab h1 o heq h2; have h5 := rdR_syms ls _ _ _ _ s' t' h; have h6 := symR_len syms lab A; simp only [List.length_cons]; omega)
      | (rename_i x lab h1 o st heq h2; have h5 := rdR_syms ls _ _ _ _ s' t' h; have h6 := symR_len syms lab A; simp only [List.length_cons]; omega)
theorem rdR_sts : ∀ (ls : List Bs) (i : Nat) (A : Int) (syms : List (Bs × Nat)) (sts : List StL) (s' : List (Bs × Nat)) (t' : List StL), rdR ls i A syms sts = .inr (s', t') → t'.length ≤ sts.length + ls.length
  | [], i, A, syms, sts, s', t', h => by rw [rd_nil] at h; injection h with h; injection h with h1 h2; subst h2; simp
  | l :: ls, i, A, syms, sts, s', t', h => by
    unfold rdR at h
    repeat' split at h
    all_goals first
      | (cases h; done)
      | (have h5 := rdR_sts ls _ _ _ _ s' t' h; simp only [List.length_cons, List.length_append, List.length_nil] at *; omega)
theorem rdF_sts {l : Bs} {syms : List (Bs × Nat)} {sts : List StL} (h : rdF l = .inr (syms, sts)) : sts.length ≤ 100000 := by
  unfold rdF at h
  split at h
  · cases h
  · have := rdR_sts _ _ _ _ _ _ _ h
    have := lin_cnt l
    simp at *
    omega
theorem rdF_syms {l : Bs} {syms : List (Bs × Nat)} {sts : List StL} (h : rdF l = .inr (syms, sts)) : syms.length ≤ 100000 := by
  unfold rdF at h
  split at h
  · cases h
  · have := rdR_syms _ _ _ _ _ _ _ h
    have := lin_cnt l
    simp at *
    omega
/-- What the reference's first pass gives: statements of the known shapes. -/
theorem rdF_exp {l : Bs} {syms : List (Bs × Nat)} {sts : List StL} (h : rdF l = .inr (syms, sts)) : ∃ ds, ExpL sts ds 0 ∧ ds.length ≤ 1024 ∧ (∀ s ∈ syms, s.2 ≤ 1000000) ∧ (∀ s ∈ syms, s.2 % 4 = 0) := by
  unfold rdF at h
  split at h
  · cases h
  · have hf := first_same l
    rw [h] at hf
    cases hp : readL (linesL l) 0 [] [] with
    | inl x => rw [hp] at hf; exact absurd hf id
    | inr r =>
      rw [hp] at hf
      obtain ⟨s', d⟩ := r
      obtain ⟨rfl, hE⟩ := hf
      have hk := read_ok _ _ _ _ _ hp ⟨by simp, by simp, by simp⟩
      exact ⟨d, hE, hk.2.2, fun x hx => Nat.le_trans (hk.2.1 x hx) (by omega), read_mod _ _ _ _ _ _ hp (by simp)⟩
/-- The two cells of an error in a block. -/
structure InE (w : World) (b : Nat) (a l : Int) : Prop where
  c0 : w.cell? ⟨b, 0, none⟩ = some (.int .i64 a)
  c1 : w.cell? ⟨b, 1, none⟩ = some (.int .i64 l)
  z : ∀ i, w.frozen? ⟨b, i, none⟩ = false
theorem InE.on {w w' : World} {b : Nat} {a l : Int} (h : InE w b a l) (hb : Below w.heap.size w w') : InE w' b a l := ⟨stillW h.c0 hb, stillW h.c1 hb, fun i => (hb.frozen (p := ⟨b, i, none⟩) (show b < w.heap.size from World.block_lt_of_cell? w _ h.c0)).trans (h.z i)⟩
theorem InE.new (w : World) (a l : Int) (T : TypeId) : InE (w.alloc (.cells #[.int .i64 a, .int .i64 l] T)) w.heap.size a l := ⟨by simp [go_sem], by simp [go_sem], fun i => by simp [go_sem]⟩
theorem lt_E {w : World} {b : Nat} {a l : Int} (h : InE w b a l) : b < w.heap.size := World.block_lt_of_cell? w _ h.c0
def cdF (l : Bs) : Sum (Int × Int) (List Int) :=
  match rdF l with
  | .inl r => .inl (r.1, r.2)
  | .inr r => cdR r.1 r.2 []
theorem app_after {W2 w1 w2 : World} {v : Value} {n : Nat} {xs : List Value} {T : TypeId} (hb : Below W2.heap.size W2 w1) (hown : w1.ownsRow W2.heap.size T 1 v n xs) (o : Obj) (hg : (w1.alloc o).grownBy w2 v.ownBlock) : Below W2.heap.size W2 w2 :=
  (hb.alloc hb.size o).grown hg (by have := hb.size; simp; omega) (fun k hk => by have := (hown.lt k hk).1; omega)
theorem as_next {syms : List (Bs × Nat)} {sts : List StL} {W2 w4 : World} {v' i : Value} {k : Nat} {acc ws : List Int} {x : StL} {dd rest : List Draft} (hk : k + 1 ≤ sts.length) (hm : ∀ s ∈ syms, s.2 % 4 = 0) (hst : StOk x.st dd) (hat : x.at' = acc.length)
    (hrest : ExpL (sts.drop (k + 1)) rest ((acc.length : Int) + dd.length)) (hlen : acc.length + (numbered x.line dd ++ rest).length ≤ 100000) (hcd : cdR syms sts [] = cdR syms (x :: sts.drop (k + 1)) acc) (hw : stW syms x = .inr ws)
    (hown : w4.ownsRow W2.heap.size 34 1 v' (acc ++ ws).length ((acc ++ ws).map u32V)) (hb : Below W2.heap.size W2 w4) (hi : i = .int .i64 ((k + 1 : Nat) : Int)) : AsRel syms sts W2 v' i w4 := by
  obtain ⟨st, line, at'⟩ := x
  simp only at hat hst
  subst hat
  have hwl := st_len hm hst line acc ws hw
  rw [List.length_append, numd_len] at hlen
  refine ⟨k + 1, acc ++ ws, rest, hk, hi, ?_, ?_, hown, ?_, hb⟩
  · rw [List.length_append, hwl]; simpa using hrest
  · rw [List.length_append, hwl]; omega
  · rw [hcd, cdR, hw]
set_option maxHeartbeats 0 in
set_option maxRecDepth 100000 in
theorem assemble_ref (s : ByteArray) (w : World) (hs : s.size ≤ 100000) :
    Calls Tryd.prog 10 #[.string s] w (CodePost (cdF s.data.toList) w) := by
  have HRD := Lib.hid (fun W => read_ref (Lib.hid fun l W h => by
    have := parsed_ref (S l) W (by rw [S_size]; exact h)
    rw [S_list] at this
    exact this) s W hs)
  unfold ReadPost at HRD
  unfold cdF
  cases hr : rdF s.data.toList with
  | inl r =>
    obtain ⟨err, line⟩ := r
    rw [hr] at HRD
    simp only at HRD
    have herr : ((err : Int) != 0) = true := by have := rdF_err hr; simp; omega
    clear hr
    unfold CodePost
    simp only
    go_enter Tryd.func10, Tryd.ntmps10
    go_wp2_with (go_at_call 17; (with_reducible refine (HRD.out _).mono ?_); rintro e w1 ⟨rfl, hb1⟩; have E1 := (InE.new w 0 0 31).on hb1; have b1 : Below w.heap.size w w1 := Below.trans (by (repeat' (first | with_reducible exact Below.refl _ _ | with_reducible assumption | with_reducible apply below_drewN | with_reducible apply Below.drew | with_reducible apply Below.setCell | with_reducible apply Below.alloc | (simp; done) | omega | (simp; omega)))) (hb1.mono (by simp <;> omega)); have E2 := fun o => E1.on ((Below.refl _ w1).alloc (Nat.le_refl _) o); have f0 := fun o => (E2 o).c0; have f1 := fun o => (E2 o).c1; have f2 := fun o => (E2 o).z; have l1 := lt_E E1; obtain ⟨e0, e1, ez⟩ := E1; clear E2 hb1)
    go_region
    all_goals go_wp2
    all_goals refine bodyPost_ret (v := .tuple #[.slice none 0 0, .agg #[.int .i64 err, .int .i64 line]]) (by rw [results_slot_cell rfl]; go_simp) rfl ⟨rfl, ?_⟩
    all_goals (repeat' (first | with_reducible exact b1 | with_reducible apply Below.drew | with_reducible apply Below.setCell | with_reducible apply Below.alloc | (simp; done) | (simp; omega)))
  | inr r =>
    obtain ⟨syms, sts⟩ := r
    obtain ⟨ds0, hE0, hd0, hsy, hmod⟩ := rdF_exp hr
    rw [hr] at HRD
    simp only at HRD
    have HE0 := Lib.hid hE0
    have HSY := Lib.hid hsy
    have HMOD := Lib.hid hmod
    obtain ⟨i0, hi, hz0, hz1, hz2⟩ := info_parts info_u32
    clear hmod
    have hsn := rdF_syms hr
    have hst := rdF_sts hr
    clear hE0 hsy hr
    go_enter Tryd.func10, Tryd.ntmps10
    go_wp2_with (go_at_call 17; (with_reducible refine (HRD.out _).mono ?_); rintro e w1 ⟨⟨vs, vd, Y, rfl, hvs, hvd, hY, hA⟩, hb1⟩; have E1 := Lib.hid ((InE.new w 0 0 31).on hb1); have b1 := Lib.hid (show Below w.heap.size w w1 from Below.trans (by (repeat' (first | with_reducible exact Below.refl _ _ | with_reducible assumption | with_reducible apply below_drewN | with_reducible apply Below.drew | with_reducible apply Below.setCell | with_reducible apply Below.alloc | (simp; done) | omega | (simp; omega)))) (hb1.mono (by simp <;> omega))); have HVS := Lib.hid hvs; have HVD := Lib.hid hvd; have HY := Lib.hid hY; have HA := Lib.hid hA; clear hvs hvd hY hA hb1)
    obtain ⟨W2, HW2⟩ : ∃ W, Hid (w1.alloc (.cells #[.int .i64 0, .int .i64 0] 31) = W) := ⟨_, rfl⟩
    have bw : Below w1.heap.size w1 W2 := by rw [← HW2.out]; exact (Below.refl _ _).alloc (Nat.le_refl _) _
    have E2 := Lib.hid (E1.out.on bw)
    have B2 := Lib.hid (below_stepZ b1.out bw b1.out.size)
    have VS := Lib.hid (own_below HVS.out bw)
    have VD := Lib.hid (own_below HVD.out bw)
    have A2 := Lib.hid (fun y hy => (HA.out y hy).on bw)
    rw [HW2.out]
    clear HW2 bw E1 b1 HVS HVD HA
    obtain ⟨oS, cS, rfl, hrS⟩ := rowS_own VS.out
    obtain ⟨oD, cD, rfl⟩ := own_shape VD.out
    have RS := Lib.hid hrS
    clear hrS
    obtain ⟨g1, hg1⟩ : ∃ g, w1.heap.size = g := ⟨_, rfl⟩
    rw [hg1]
    clear hg1 HRD
    obtain ⟨nS, hnS⟩ : ∃ n, Hid (syms.length = n) := ⟨_, rfl⟩
    obtain ⟨nD, hnD⟩ : ∃ n, Hid (Y.length = n) := ⟨_, rfl⟩
    have HSN : Hid (nS ≤ 100000) := Lib.hid (by rw [← hnS.out]; exact hsn)
    clear hsn
    rw [hnS.out, hnD.out]
    have HL : Hid (sts.length = nD) := Lib.hid (by rw [← HY.out, List.length_map]; exact hnD.out)
    have hnDb : nD ≤ 100000 := by rw [← HL.out]; exact hst
    clear hst
    go_loopw [7, 8] (fun v i wr => AsRel syms sts W2 v i wr) (fun _ i _ => nD - (intOf i).toNat)
    case atStart => exact ⟨0, [], ds0, Nat.zero_le _, rfl, HE0.out, by simp; omega, World.ownsRow_nil _ _ _ _, rfl, Below.refl _ _⟩
    case round =>
      obtain ⟨k, acc, ds, hk, rfl, hE, hlen, hown, hcd, hbw⟩ := hrel
      have hws := hbw.size
      obtain ⟨ca, ccap, rfl⟩ := own_shape hown
      rw [HL.out] at hk
      by_cases hlt : k < nD
      · have hkY : k < Y.length := by rw [hnD.out]; exact hlt
        have hkS : k < sts.length := by rw [HL.out]; exact hlt
        obtain ⟨gD, rfl, hcell⟩ := own_at6 (by have := own_below VD.out hbw; rw [hnD.out] at this; exact this) (by omega)
        have hsk : sts[k] = Y[k].x := by have := HY.out; subst this; simp
        have hdr : sts.drop k = sts[k] :: sts.drop (k + 1) := List.drop_eq_getElem_cons hkS
        rw [hdr, hsk] at hE hcd
        have hAk := A2.out _ (List.getElem_mem hkY)
        have hc : ∀ i v, i < 6 → (stC Y[k])[i]? = some v → wr.cell? ⟨gD, k * 6 + i, none⟩ = some v := fun i v hi hv => by
          rw [hcell _ (by omega), flatX_get Y k hkY i hi]; exact hv
        generalize Y[k] = y at *
        obtain ⟨⟨⟨what, op, al, size⟩, line, at'⟩, yv⟩ := y
        have e0 : wr.cell? ⟨gD, k * 6, none⟩ = some (.string (S what)) := hc 0 _ (by omega) rfl
        have e1 := hc 1 _ (by omega) rfl
        have e2 := hc 2 _ (by omega) rfl
        have e3 := hc 3 _ (by omega) rfl
        have e4 := hc 4 _ (by omega) rfl
        have e5 := hc 5 _ (by omega) rfl
        obtain ⟨dd, rest, rfl, hst, hat, hrest⟩ := hE
        obtain ⟨oa, capA, hyv, hcapA, hra, hblk⟩ := hAk
        have HRA := Lib.hid (hra.on (w' := wr) hbw)
        have HST := Lib.hid (st_form hst)
        have HST0 := Lib.hid hst
        have HREST := Lib.hid hrest
        have HCD := Lib.hid hcd
        have HOWN := Lib.hid hown
        have HBW := Lib.hid hbw
        have HAT := Lib.hid hat
        have HDL := Lib.hid hlen
        dsimp only at hyv hcapA e1 e2 e3 e4 e5
        rw [hyv] at e2
        obtain ⟨nA, hnA⟩ : ∃ n, Hid (al.length = n) := ⟨_, rfl⟩
        rw [hnA.out] at e2 hcapA hyv
        clear hcell hc hst hrest hcd hown hat hra hblk hlen hsk hdr hbw
        obtain ⟨Wb, HWb⟩ : ∃ W, Hid (wr.alloc (.cells #[.string (S what), .int .i64 op, .slice oa nA capA, .int .i64 line, .int .i64 at', .int .i64 size] 49) = W) := ⟨_, rfl⟩
        have XB : Hid (InS Wb wr.heap.size ⟨⟨⟨what, op, al, size⟩, line, at'⟩, yv⟩) := by rw [← HWb.out, hyv]; exact Lib.hid ⟨by simp [go_sem], by simp [go_sem], by simp [go_sem], by simp [go_sem], by simp [go_sem], by simp [go_sem], ⟨_, heap_alloc_new _ _⟩⟩
        have BB : Hid (Below wr.heap.size wr Wb) := by rw [← HWb.out]; exact Lib.hid ((Below.refl _ _).alloc (Nat.le_refl _) _)
        go_upto_if 48 with fail
        rw [HWb.out]
        have HYV := Lib.hid hyv
        clear HWb e0 e1 e2 e3 e4 e5 hyv
        obtain ⟨gb, hgb⟩ : ∃ g, Hid (wr.heap.size = g) := ⟨_, rfl⟩
        rw [hgb.out] at XB ⊢
        have HRB := Lib.hid (HRA.out.on (w' := Wb) BB.out)
        have hn3 : nA ≤ 3 := by have := HST.out.1.len; rw [← hnA.out]; exact this
        go_cut [10] (fun s10 wx => AsV syms ⟨⟨⟨what, op, al, size⟩, line, at'⟩, yv⟩ gb wr s10 wx)
        case first =>
          have HNM := Lib.hid HST.out.2
          rcases nA with _ | m
          · have hal : al = [] := List.eq_nil_of_length_eq_zero hnA.out
            subst hal
            go_wp2
            go_meet
            exact ⟨0, rfl, Lib.hid rfl, Lib.hid ⟨by omega, by omega⟩, XB, BB⟩
          · have hm : m < al.length := by rw [hnA.out]; omega
            obtain ⟨bz, oz, rfl, z0, z1, z2⟩ := HRB.out m hm
            have HLV : Hid (al.getLast? = some al[m]) := Lib.hid (by rw [List.getLast?_eq_getElem?, hnA.out, Nat.add_sub_cancel, List.getElem?_eq_getElem hm])
            have hzn := HNM.out _ (List.getElem_mem hm)
            generalize al[m] = az at *
            obtain ⟨zr, zn, zl⟩ := az
            dsimp only at z0 z1 z2 hzn
            obtain ⟨x0, x1, x2, x3, x4, x5, xk⟩ := XB.out
            dsimp only at x0 x1 x2 x3 x4 x5
            rw [HYV.out] at x2
            have hgb' := XB.out.lt
            by_cases hz : zl = []
            · have q1 : (S zl).toList = [] := by rw [toL, S_list, hz]
              have q2 : (S zl).toList.isEmpty = true := by rw [q1]; rfl
              have HV : Hid (lastV syms ⟨⟨what, op, al, size⟩, line, at'⟩ = some zn) := Lib.hid (by show lastV syms ⟨⟨what, op, al, size⟩, line, at'⟩ = _; unfold lastV; rw [HLV.out]; simp only [hz, if_true])
              clear hz
              go_wp2
              go_meet
              exact ⟨zn, rfl, HV, Lib.hid ⟨by omega, by omega⟩, Lib.hid (XB.out.on ((Below.refl _ _).alloc (Nat.le_refl _) _)), Lib.hid (below_stepZ BB.out ((Below.refl _ _).alloc (Nat.le_refl _) _) BB.out.size)⟩
            · have q1 : ¬ (S zl).toList = [] := by rw [toL, S_list]; exact hz
              have q2 : (S zl).toList.isEmpty = false := by
                cases h : (S zl).toList with
                | nil => exact absurd h q1
                | cons a b => rfl
              have HAD := Lib.hid (fun W (hb : Below W2.heap.size W2 W) => address_ref oS nS cS syms zl W hnS.out HSN.out (RS.out.on hb))
              have HV : Hid (lastV syms ⟨⟨what, op, al, size⟩, line, at'⟩ = (lookS syms zl).map fun (t : Nat) => if 0 < op then (t : Int) / 4 - at' else (t : Int)) := Lib.hid (by show lastV syms ⟨⟨what, op, al, size⟩, line, at'⟩ = _; unfold lastV; rw [HLV.out]; simp only [hz, if_false]; cases lookS syms zl <;> rfl)
              clear hz
              cases hlk : lookS syms zl with
              | none =>
                rw [hlk] at HAD HV
                simp only [adrV] at HAD
                have HC2 : Hid (cdR syms sts [] = .inl (302, line)) := Lib.hid (HCD.out.trans (by rw [cdR, stW]; rw [show lastV syms ⟨⟨what, op, al, size⟩, line, at'⟩ = none from HV.out]))
                clear hlk
                have hB3 := below_stepZ HBW.out BB.out hws
                have E3 := E2.out.on ((hB3.alloc hB3.size (.cells #[.int .i64 zr, .int .i64 zn, .string (S zl)] 51)))
                obtain ⟨f0, f1, fz⟩ := E3
                have X3 := XB.out.on ((Below.refl _ Wb).alloc (Nat.le_refl _) (.cells #[.int .i64 zr, .int .i64 zn, .string (S zl)] 51))
                have x33 := X3.c3
                dsimp only at x33
                go_wp2_with (first | go_skip | (go_at_call 18; (with_reducible refine (HAD.out _ (Below.alloc hB3 hB3.size _)).mono ?_); rintro e w5 ⟨rfl, rfl⟩))
                go_region
                (repeat' (first | (with_reducible refine then_normal ?_) | (with_reducible refine wp_exit ?_) | (with_reducible refine wp_ret ?_) | (with_reducible refine then_exit ?_) | (with_reducible refine blk_hit ?_) | (with_reducible refine blk_pass (by decide) ?_) | (with_reducible refine then_ret ?_) | (with_reducible refine blk_ret ?_) | (with_reducible refine blk_normal ?_) | go_values | go_skip | go_guarded | go_step | go_upon | (simp only [Int.not_lt, Int.not_le] at *; go_simp) | (go_values <;> (try go_simp)) | (go_ite <;> go_prune <;> (try go_simp))))
                have hBw := below_stepZ B2.out hB3 B2.out.size
                have h0 : w.heap.size ≤ w.heap.size := Nat.le_refl _
                rw [HC2.out]
                refine bodyPost_ret (v := .tuple #[.slice none 0 0, .agg #[.int .i64 302, .int .i64 line]]) (by rw [results_slot_cell rfl]; go_simp) rfl ⟨rfl, ?_⟩
                repeat' (first | with_reducible exact hBw | with_reducible apply Below.drew | with_reducible apply Below.setCell | with_reducible apply Below.alloc | (simp; done) | exact hBw.size | (simp; omega))
              | some t =>
                rw [hlk] at HAD HV
                simp only [adrV] at HAD
                have hB3 := below_stepZ HBW.out BB.out hws
                have ht := HSY.out _ (look_mem hlk).choose_spec.1
                rw [(look_mem hlk).choose_spec.2] at ht
                have X3 := XB.out.on ((Below.refl _ Wb).alloc (Nat.le_refl _) (.cells #[.int .i64 zr, .int .i64 zn, .string (S zl)] 51))
                have HX3 := Lib.hid X3
                have HB4 := Lib.hid (below_stepZ BB.out ((Below.refl _ Wb).alloc (Nat.le_refl _) (.cells #[.int .i64 zr, .int .i64 zn, .string (S zl)] 51)) BB.out.size)
                obtain ⟨y0, y1, y2, y3, y4, y5, yk⟩ := X3
                dsimp only at y1 y4
                have hat0 : 0 ≤ at' ∧ at' ≤ 100000 := by have := HAT.out; dsimp only at this; have := HDL.out; omega
                clear hlk x0 x1 x3 x4 x5
                by_cases hop : 0 < op
                · have HVV : Hid (lastV syms ⟨⟨what, op, al, size⟩, line, at'⟩ = some ((t : Int) / 4 - at')) := Lib.hid (HV.out.trans (by simp only [Option.map_some, if_pos hop]))
                  go_wp2_with (first | go_skip | (go_at_call 18; (with_reducible refine (HAD.out _ (Below.alloc hB3 hB3.size _)).mono ?_); rintro e w5 ⟨rfl, rfl⟩))
                  go_meet
                  exact ⟨(t : Int) / 4 - at', rfl, HVV, Lib.hid ⟨by omega, by omega⟩, HX3, HB4⟩
                · have HVV : Hid (lastV syms ⟨⟨what, op, al, size⟩, line, at'⟩ = some (t : Int)) := Lib.hid (HV.out.trans (by simp only [Option.map_some, if_neg hop]))
                  go_wp2_with (first | go_skip | (go_at_call 18; (with_reducible refine (HAD.out _ (Below.alloc hB3 hB3.size _)).mono ?_); rintro e w5 ⟨rfl, rfl⟩))
                  go_meet
                  exact ⟨(t : Int), rfl, HVV, Lib.hid ⟨by omega, by omega⟩, HX3, HB4⟩
        case rest =>
          obtain ⟨v, rfl, HV, HVB, HXS, HBX⟩ := hcut
          have hBc := below_stepZ HBW.out HBX.out hws
          have HBC := Lib.hid hBc
          have HOC := Lib.hid (own_below HOWN.out HBX.out)
          have HRC := Lib.hid (HRA.out.on HBX.out)
          have HK : Hid (k + 1 ≤ sts.length) := Lib.hid (by rw [HL.out]; omega)
          have hal : acc.length ≤ 100000 := by have := HDL.out; omega
          have hszc := hBc.size
          have HF := HST.out.1
          obtain ⟨y0, y1, y2, y3, y4, y5, yk⟩ := HXS.out
          dsimp only at y0 y1 y2 y3 y4 y5
          rw [HYV.out] at y2
          clear HRA HRB XB BB hBc
          cases HF with
          | word x =>
            have q0 : ((S wWord).toList == [46, 119, 111, 114, 100]) = true := by rw [lit_eq]; decide
            have HW : Hid (stW syms ⟨⟨wWord, 0, [x], size⟩, line, at'⟩ = .inr [v % 4294967296]) := Lib.hid (by unfold stW; rw [show lastV syms ⟨⟨wWord, 0, [x], size⟩, line, at'⟩ = some v from HV.out]; simp only [if_true])
            have hownc := HOC.out
            go_wp2_with (first
              | (at_builtin; refine wpList_append_own _ rfl _ _ 28 rfl (W2.heap.size) 34 i0 (.int .u32 0) 1 4 Tryd.underlying28 hi hz0 hz1 hz2 rfl (by decide) _ _ _ rfl (hownc.alloc _) ⟨_, 0, none⟩ 1 1 [.int .u32 (v % 4294967296)] rfl rfl (new_cell _ _ _) (one_u32 _) (by unfold maxLen; omega) (by omega) (by simp; omega) ?_))
            intro v' w4 hown4 hgrow _
            have hb4 := app_after HBC.out HOC.out _ hgrow
            have HO := Lib.hid (snoc_u32 hown4 rfl)
            clear hown4 hgrow hownc
            go_wp2
            go_roundw
            case rel => exact as_next HK.out HMOD.out HST0.out HAT.out HREST.out HDL.out HCD.out HW.out HO.out hb4 (by go_num)
            case measure => simp [intOf]; omega
          | space x kk hxl hkk =>
            have q0 : ((S wSpace).toList == [46, 119, 111, 114, 100]) = false := by rw [lit_eq]; decide
            have q1 : ((S wSpace).toList == [46, 115, 112, 97, 99, 101]) = true := by rw [lit_eq]; decide
            have HW : Hid (stW syms ⟨⟨wSpace, 0, [x], kk⟩, line, at'⟩ = .inr (List.replicate kk 0)) := Lib.hid (by unfold stW; rw [show lastV syms ⟨⟨wSpace, 0, [x], kk⟩, line, at'⟩ = some v from HV.out]; simp only [if_neg (show ¬ wSpace = wWord by decide), if_true, Int.toNat_natCast])
            obtain ⟨cs, hblk⟩ := yk
            have HBK := Lib.hid hblk
            clear hblk
            go_wp2_with fail
            go_loopw [7, 14] (fun v7 i wr' => ∃ (j : Nat) (acc' : List Int), j ≤ kk ∧ i = .int .i64 j ∧ acc' = acc ++ List.replicate j 0 ∧ Hid (wr'.ownsRow W2.heap.size 34 1 v7 acc'.length (acc'.map u32V)) ∧ Hid (wr'.heap[gb]? = some (.cells cs 49 (0, 0))) ∧ Hid (wr'.cell? ⟨gb, 5, none⟩ = some (.int .i64 (kk : Int))) ∧ Hid (Below W2.heap.size W2 wr')) (fun _ i _ => kk - (intOf i).toNat)
            case atStart => exact ⟨0, acc, Nat.zero_le _, rfl, by simp, HOC, HBK, Lib.hid y5, HBC⟩
            case round =>
              obtain ⟨j, acc', hj, rfl, hacc, HO1, HB1, H51, HW1⟩ := hrel
              have hl' : acc'.length ≤ 200000 := by rw [hacc, List.length_append, List.length_replicate]; omega
              have HACC := Lib.hid hacc
              have h51 := H51.out
              have hsz1 := HW1.out.size
              obtain ⟨c7, cc7, rfl⟩ := own_shape HO1.out
              clear hacc y0 y1 y2 y3 y4 y5
              by_cases hjk : j < kk
              · have hown1 := HO1.out
                go_wp2_with (first
                  | (at_builtin; refine wpList_append_own _ rfl _ _ 28 rfl (W2.heap.size) 34 i0 (.int .u32 0) 1 4 Tryd.underlying28 hi hz0 hz1 hz2 rfl (by decide) _ _ _ rfl (hown1.alloc _) ⟨_, 0, none⟩ 1 1 [.int .u32 0] rfl rfl (new_cell _ _ _) (one_u32 _) (by unfold maxLen; omega) (by omega) (by simp; omega) ?_))
                intro v' w4 hown4 hgrow _
                have hb4 := app_after HW1.out HO1.out _ hgrow
                have HO := Lib.hid (snoc_u32 hown4 rfl)
                have hgl : gb < wr.heap.size := (Array.getElem?_eq_some_iff.1 HB1.out).1
                have hk4 := (hgrow.block gb (by simp; omega) (own_neT HO1.out HB1.out (by decide))).trans (heap_below HB1.out ((Below.refl _ _).alloc (Nat.le_refl _) _))
                have H54 : Hid (w4.cell? ⟨gb, 5, none⟩ = some (.int .i64 (kk : Int))) := Lib.hid (by
                  have h1 := H51.out
                  simp only [World.cell?, HB1.out] at h1
                  simp only [World.cell?, hk4]
                  exact h1)
                have HK4 := Lib.hid hk4
                clear hown4 hgrow hown1 hk4
                go_wp2
                go_roundw
                case rel => exact ⟨j + 1, acc' ++ [0], by omega, by go_num, by rw [HACC.out, List.append_assoc, ← List.replicate_succ'], HO, HK4, H54, Lib.hid hb4⟩
                case measure => simp [intOf]; omega
              · obtain rfl : j = kk := by omega
                have HO := Lib.hid (show wr.ownsRow W2.heap.size 34 1 (.slice c7 acc'.length cc7) (acc ++ List.replicate j 0).length ((acc ++ List.replicate j 0).map u32V) by rw [← HACC.out]; exact HO1.out)
                go_wp2
                go_roundw
                case rel => exact as_next HK.out HMOD.out HST0.out HAT.out HREST.out HDL.out HCD.out HW.out HO.out HW1.out (by go_num)
                case measure => simp [intOf]; omega
          | li x y _ hx0 hx1 =>
            have q0 : ((S wLi).toList == [46, 119, 111, 114, 100]) = false := by rw [lit_eq]; decide
            have q1 : ((S wLi).toList == [46, 115, 112, 97, 99, 101]) = false := by rw [lit_eq]; decide
            have q2 : ((S wLi).toList == [108, 105]) = true := by rw [lit_eq]; decide
            have HW : Hid (stW syms ⟨⟨wLi, 0, [x, y], size⟩, line, at'⟩ = .inr [word 24 x.reg 0 0 (v % 4294967296 / 65536), word 18 x.reg x.reg 0 (v % 65536)]) := Lib.hid (by unfold stW; rw [show lastV syms ⟨⟨wLi, 0, [x, y], size⟩, line, at'⟩ = some v from HV.out]; simp only [if_neg (show ¬ wLi = wWord by decide), if_neg (show ¬ wLi = wSpace by decide), if_true]; rfl)
            obtain ⟨bx, ox, rfl, c0, c1⟩ := HRC.out.one
            have h2 : nA = 2 := hnA.out.symm
            subst h2
            obtain ⟨xr, xn, xl⟩ := x
            dsimp only at c0 c1 hx0 hx1
            have m0 : 0 ≤ v % 4294967296 / 65536 := by omega
            have m1 : v % 4294967296 / 65536 ≤ 65535 := by omega
            have k0 : 0 ≤ v % 65536 := by omega
            have k1 : v % 65536 ≤ 65535 := by omega
            have HE1 := Lib.hid (fun W => encode_ref 24 xr 0 0 (v % 4294967296 / 65536) W (by omega) (by omega))
            rw [show eW 24 xr 0 0 (v % 4294967296 / 65536) = word 24 xr 0 0 (v % 4294967296 / 65536) from if_pos (ok_lui hx0 hx1 m0 m1)] at HE1
            have HE2 := Lib.hid (fun W => encode_ref 18 xr xr 0 (v % 65536) W (by omega) (by omega))
            rw [show eW 18 xr xr 0 (v % 65536) = word 18 xr xr 0 (v % 65536) from if_pos (ok_ori hx0 hx1 k0 k1)] at HE2
            have hand : bits .and .u32 (v % 4294967296) 65535 = v % 65536 := by
              obtain ⟨V, hV⟩ : ∃ V : Nat, v % 4294967296 = V := ⟨(v % 4294967296).toNat, by omega⟩
              have h1 := u32_and_nat V 65535 (by omega) (by omega)
              rw [hV, show (65535 : Int) = ((65535 : Nat) : Int) from rfl, h1, show (65535 : Nat) = 2 ^ 16 - 1 from rfl, Nat.and_two_pow_sub_one_eq_mod]
              omega
            have hw1 : IntKind.u32.wrap v = v % 4294967296 := by rw [IntKind.wrap_u32]
            have hw2 : IntKind.i32.wrap (v % 65536) = v % 65536 := IntWalk.i32_in _ ⟨by omega, by omega⟩
            generalize word 24 xr 0 0 (v % 4294967296 / 65536) = X1 at *
            generalize word 18 xr xr 0 (v % 65536) = X2 at *
            go_upto_region 34 with (first
              | (go_at_call 19; (with_reducible refine (HE1.out _).mono ?_); rintro e w5 ⟨rfl, hb5⟩; have hown5 := own_below HOC.out hb5; have hbb5 := below_stepZ HBC.out hb5 hszc; have hz5 := hbb5.size; have d2 := stillW y2 hb5; have d3 := stillW c0 hb5; clear hb5))
            have HO5 := Lib.hid hown5
            have HB5 := Lib.hid hbb5
            clear c0 c1 y0 y1 y2 y3 y4 y5
            have bb : Below w5.heap.size w5 w5.drew := (Below.refl _ _).drew
            go_region_held3 (fun w' => w'.cell? ⟨gb, 2, none⟩ = some (.slice (some ⟨bx, ox, none⟩) 2 capA) ∧ w'.cell? ⟨bx, ox, none⟩ = some (.int .i64 xr)) (first | with_reducible exact ⟨stillW d2 bb, stillW d3 bb⟩ | go_keep) (first
              | (go_at_call 19; refine (HE2.out _).mono ?_; rintro e w6 ⟨rfl, hb6⟩; replace bb := below_stepZ bb hb6 bb.size))
            have hown7 := own_below HO5.out bb
            have hbb7 := below_stepZ HB5.out bb HB5.out.size
            have hz7 := hbb7.size
            go_wp2_with (first
              | (at_builtin; refine wpList_append_own _ rfl _ _ 28 rfl (W2.heap.size) 34 i0 (.int .u32 0) 1 4 Tryd.underlying28 hi hz0 hz1 hz2 rfl (by decide) _ _ _ rfl (hown7.alloc _) ⟨_, 0, none⟩ 2 2 [.int .u32 X1, .int .u32 X2] rfl rfl (new_cell2 _ _ _ _) (one_u32' _ _) (by unfold maxLen; omega) (by omega) (by simp; omega) ?_))
            intro v' w4 hown4 hgrow _
            have hb4 := app_after hbb7 hown7 _ hgrow
            have HO : Hid (w4.ownsRow W2.heap.size 34 1 v' (acc ++ [X1, X2]).length ((acc ++ [X1, X2]).map u32V)) := Lib.hid (by simpa [u32V] using hown4)
            clear hown4 hgrow
            go_wp2
            go_roundw
            case rel => exact as_next HK.out HMOD.out HST0.out HAT.out HREST.out HDL.out HCD.out HW.out HO.out hb4 (by go_num)
            case measure => simp [intOf]; omega
          | mv x y _ hx0 hx1 hy0 hy1 =>
            have q0 : ((S wMv).toList == [46, 119, 111, 114, 100]) = false := by rw [lit_eq]; decide
            have q1 : ((S wMv).toList == [46, 115, 112, 97, 99, 101]) = false := by rw [lit_eq]; decide
            have q2 : ((S wMv).toList == [108, 105]) = false := by rw [lit_eq]; decide
            have q3 : ((S wMv).toList == [109, 118]) = true := by rw [lit_eq]; decide
            have HW : Hid (stW syms ⟨⟨wMv, 0, [x, y], size⟩, line, at'⟩ = .inr [word 16 x.reg y.reg 0 0]) := Lib.hid (by unfold stW; rw [show lastV syms ⟨⟨wMv, 0, [x, y], size⟩, line, at'⟩ = some v from HV.out]; simp only [if_neg (show ¬ wMv = wWord by decide), if_neg (show ¬ wMv = wSpace by decide), if_neg (show ¬ wMv = wLi by decide), if_true]; rfl)
            obtain ⟨bx, ox, rfl, c0, c3, c4⟩ := HRC.out.two
            have h2 : nA = 2 := hnA.out.symm
            subst h2
            obtain ⟨xr, xn, xl⟩ := x
            obtain ⟨yr, yn, yl⟩ := y
            dsimp only at c0 c3 hx0 hx1 hy0 hy1
            have HE2 := Lib.hid (fun W => encode_ref 16 xr yr 0 0 W (by omega) (by omega))
            rw [show eW 16 xr yr 0 0 = word 16 xr yr 0 0 from if_pos (ok_addi hx0 hx1 hy0 hy1)] at HE2
            generalize word 16 xr yr 0 0 = X1 at *
            go_upto_region 37 with fail
            have y2' := y2
            have hwl := HXS.out.lt
            clear y0 y1 y3 y4 y5
            have bb : Below wc.heap.size wc wc.drew := (Below.refl _ _).drew
            go_region_held3 (fun w' => w'.cell? ⟨gb, 2, none⟩ = some (.slice (some ⟨bx, ox, none⟩) 2 capA) ∧ w'.cell? ⟨bx, ox, none⟩ = some (.int .i64 xr) ∧ w'.cell? ⟨bx, ox + 3, none⟩ = some (.int .i64 yr)) (first | with_reducible exact ⟨stillW y2' bb, stillW c0 bb, stillW c3 bb⟩ | go_keep) (first
              | (go_at_call 19; refine (HE2.out _).mono ?_; rintro e w6 ⟨rfl, hb6⟩; replace bb := below_stepZ bb hb6 bb.size))
            have hown7 := own_below HOC.out bb
            have hbb7 := below_stepZ HBC.out bb HBC.out.size
            have hz7 := hbb7.size
            go_wp2_with (first
              | (at_builtin; refine wpList_append_own _ rfl _ _ 28 rfl (W2.heap.size) 34 i0 (.int .u32 0) 1 4 Tryd.underlying28 hi hz0 hz1 hz2 rfl (by decide) _ _ _ rfl (hown7.alloc _) ⟨_, 0, none⟩ 1 1 [.int .u32 X1] rfl rfl (new_cell _ _ _) (one_u32 _) (by unfold maxLen; omega) (by omega) (by simp; omega) ?_))
            intro v' w4 hown4 hgrow _
            have hb4 := app_after hbb7 hown7 _ hgrow
            have HO := Lib.hid (snoc_u32 hown4 rfl)
            clear hown4 hgrow
            go_wp2
            go_roundw
            case rel => exact as_next HK.out HMOD.out HST0.out HAT.out HREST.out HDL.out HCD.out HW.out HO.out hb4 (by go_num)
            case measure => simp [intOf]; omega
          | nop =>
            have q0 : ((S wNop).toList == [46, 119, 111, 114, 100]) = false := by rw [lit_eq]; decide
            have q1 : ((S wNop).toList == [46, 115, 112, 97, 99, 101]) = false := by rw [lit_eq]; decide
            have q2 : ((S wNop).toList == [108, 105]) = false := by rw [lit_eq]; decide
            have q3 : ((S wNop).toList == [109, 118]) = false := by rw [lit_eq]; decide
            have q4 : ((S wNop).toList == [110, 111, 112]) = true := by rw [lit_eq]; decide
            have HW : Hid (stW syms ⟨⟨wNop, 0, [], size⟩, line, at'⟩ = .inr [word 16 0 0 0 0]) := Lib.hid (by unfold stW; rw [show lastV syms ⟨⟨wNop, 0, [], size⟩, line, at'⟩ = some v from HV.out]; simp only [if_neg (show ¬ wNop = wWord by decide), if_neg (show ¬ wNop = wSpace by decide), if_neg (show ¬ wNop = wLi by decide), if_neg (show ¬ wNop = wMv by decide), if_true])
            have HE := Lib.hid (fun W => encode_ref 16 0 0 0 0 W (by omega) (by omega))
            rw [show eW 16 0 0 0 0 = word 16 0 0 0 0 from if_pos (ok_addi (by omega) (by omega) (by omega) (by omega))] at HE
            generalize word 16 0 0 0 0 = X at *
            go_wp2_with (first
              | (go_at_call 19; (with_reducible refine (HE.out _).mono ?_); rintro e w5 ⟨rfl, hb5⟩; have hown5 := own_below HOC.out hb5; have hbb5 := below_stepZ HBC.out hb5 hszc; have hz5 := hbb5.size; clear hb5)
              | (at_builtin; refine wpList_append_own _ rfl _ _ 28 rfl (W2.heap.size) 34 i0 (.int .u32 0) 1 4 Tryd.underlying28 hi hz0 hz1 hz2 rfl (by decide) _ _ _ rfl (hown5.alloc _) ⟨_, 0, none⟩ 1 1 [.int .u32 (X)] rfl rfl (new_cell _ _ _) (one_u32 _) (by unfold maxLen; omega) (by omega) (by simp; omega) ?_))
            intro v' w4 hown4 hgrow _
            have hb4 := app_after hbb5 hown5 _ hgrow
            have HO := Lib.hid (snoc_u32 hown4 rfl)
            clear hown4 hgrow
            go_wp2
            go_roundw
            case rel => exact as_next HK.out HMOD.out HST0.out HAT.out HREST.out HDL.out HCD.out HW.out HO.out hb4 (by go_num)
            case measure => simp [intOf]; omega
          | ins _ _ _ _ n1 n2 n3 n4 n5 hop h3 hinst =>
            have q0 : ((S what).toList == [46, 119, 111, 114, 100]) = false := by rw [lit_eq]; exact decide_eq_false n1
            have q1 : ((S what).toList == [46, 115, 112, 97, 99, 101]) = false := by rw [lit_eq]; exact decide_eq_false n2
            have q2 : ((S what).toList == [108, 105]) = false := by rw [lit_eq]; exact decide_eq_false n3
            have q3 : ((S what).toList == [109, 118]) = false := by rw [lit_eq]; exact decide_eq_false n4
            have q4 : ((S what).toList == [110, 111, 112]) = false := by rw [lit_eq]; exact decide_eq_false n5
            have HI := Lib.hid (fun W (hA : RowA W oa al) => hinst oa capA line at' v W hA HVB.out.1 HVB.out.2)
            rw [hnA.out] at HI
            have HSW : Hid (stW syms ⟨⟨what, op, al, size⟩, line, at'⟩ = if Ok op (insR op al v).1 (insR op al v).2.1 (insR op al v).2.2.1 (insR op al v).2.2.2 then .inr [word op (insR op al v).1 (insR op al v).2.1 (insR op al v).2.2.1 (insR op al v).2.2.2] else .inl 304) := Lib.hid (by unfold stW; rw [show lastV syms ⟨⟨what, op, al, size⟩, line, at'⟩ = some v from HV.out]; simp only [if_neg n1, if_neg n2, if_neg n3, if_neg n4, if_neg n5])
            unfold InsPost stmV6 at HI
            clear n1 n2 n3 n4 n5 hinst hop
            by_cases hok : Ok op (insR op al v).1 (insR op al v).2.1 (insR op al v).2.2.1 (insR op al v).2.2.2
            · rw [decide_eq_true hok, show eW op (insR op al v).1 (insR op al v).2.1 (insR op al v).2.2.1 (insR op al v).2.2.2 = word op (insR op al v).1 (insR op al v).2.1 (insR op al v).2.2.1 (insR op al v).2.2.2 from if_pos hok] at HI
              have HW := Lib.hid (HSW.out.trans (if_pos hok))
              clear hok HSW
              generalize word op (insR op al v).1 (insR op al v).2.1 (insR op al v).2.2.1 (insR op al v).2.2.2 = X at *
              go_wp2_with (first
                | (go_at_call 20; (with_reducible refine (HI.out _ HRC.out).mono ?_); rintro e w5 ⟨rfl, hb5⟩; have hown5 := own_below HOC.out hb5; have hbb5 := below_stepZ HBC.out hb5 hszc; have hz5 := hbb5.size; clear hb5)
                | (at_builtin; refine wpList_append_own _ rfl _ _ 28 rfl (W2.heap.size) 34 i0 (.int .u32 0) 1 4 Tryd.underlying28 hi hz0 hz1 hz2 rfl (by decide) _ _ _ rfl (hown5.alloc _) ⟨_, 0, none⟩ 1 1 [.int .u32 (X)] rfl rfl (new_cell _ _ _) (one_u32 _) (by unfold maxLen; omega) (by omega) (by simp; omega) ?_))
              intro v' w4 hown4 hgrow _
              have hb4 := app_after hbb5 hown5 _ hgrow
              have HO := Lib.hid (snoc_u32 hown4 rfl)
              clear hown4 hgrow
              go_wp2
              go_roundw
              case rel => exact as_next HK.out HMOD.out HST0.out HAT.out HREST.out HDL.out HCD.out HW.out HO.out hb4 (by go_num)
              case measure => simp [intOf]; omega

            · rw [decide_eq_false hok] at HI
              have HC2 : Hid (cdR syms sts [] = .inl (304, line)) := Lib.hid (HCD.out.trans (by rw [cdR, HSW.out.trans (if_neg hok)]))
              clear hok HSW
              go_wp2_with (first
                | (go_at_call 20; (with_reducible refine (HI.out _ HRC.out).mono ?_); rintro e w5 ⟨rfl, hb5⟩; have X5 := HXS.out.on hb5; have x53 := X5.c3; dsimp only at x53; have hbb5 := below_stepZ HBC.out hb5 hszc; have E5 := E2.out.on hbb5; have lE := lt_E E5; obtain ⟨f0, f1, fz⟩ := E5; have hz5 := hbb5.size; clear hb5))
              go_region
              (repeat' (first | (with_reducible refine then_normal ?_) | (with_reducible refine wp_exit ?_) | (with_reducible refine wp_ret ?_) | (with_reducible refine then_exit ?_) | (with_reducible refine blk_hit ?_) | (with_reducible refine blk_pass (by decide) ?_) | (with_reducible refine then_ret ?_) | (with_reducible refine blk_ret ?_) | (with_reducible refine blk_normal ?_) | go_values | go_skip | go_guarded | go_step | go_upon | (simp only [Int.not_lt, Int.not_le] at *; go_simp) | (go_values <;> (try go_simp)) | (go_ite <;> go_prune <;> (try go_simp))))
              have hBw := below_stepZ B2.out hbb5 B2.out.size
              have h0 : w.heap.size ≤ w.heap.size := Nat.le_refl _
              rw [HC2.out]
              refine bodyPost_ret (v := .tuple #[.slice none 0 0, .agg #[.int .i64 304, .int .i64 line]]) (by rw [results_slot_cell rfl]; go_simp) rfl ⟨rfl, ?_⟩
              repeat' (first | with_reducible exact hBw | with_reducible apply Below.drew | with_reducible apply Below.setCell | with_reducible apply Below.alloc | (simp; done) | exact hBw.size | (simp; omega))
      · obtain rfl : k = nD := by omega
        have hE2 : cdR syms sts [] = .inr acc := by rw [hcd, ← HL.out, List.drop_length, cdR]
        have HE := Lib.hid hE2
        have HOWN := Lib.hid hown
        have E3 := E2.out.on hbw
        have lE := lt_E E3
        obtain ⟨f0, f1, fz⟩ := E3
        have hBw := below_stepZ B2.out hbw B2.out.size
        have hb2 := B2.out.size
        clear hE hE2 hown hcd
        go_wp2
        rw [HE.out]
        refine bodyPost_ret (v := .tuple #[.slice ca acc.length ccap, .agg #[.int .i64 0, .int .i64 0]]) (by rw [results_slot_cell rfl]; go_simp) rfl ⟨⟨_, rfl, ?_⟩, ?_⟩
        · have hlw : w.heap.size < W2.heap.size := lt_E E2.out
          have n0 := own_low HOWN.out (k := w.heap.size) hlw
          exact own_base (ownsRow_setCell_other (ownsRow_setCell_other HOWN.out n0 _) n0 _) (Nat.le_of_lt hlw)
        · have h0 : w.heap.size ≤ w.heap.size := Nat.le_refl _
          exact (hBw.setCell h0 _).setCell h0 _
end Go.Proofs.YthghbcjaokpilaaDoor
