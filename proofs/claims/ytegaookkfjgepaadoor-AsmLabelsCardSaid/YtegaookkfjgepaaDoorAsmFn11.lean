import Derived.Test.YtegaookkfjgepaaDoorAsmFn10
import Derived.Test.YtegaookkfjgepaaDoorAsmFn9
import Derived.StillTailTactics
namespace Go.Proofs.YtegaookkfjgepaaDoor
set_option linter.unusedVariables false
set_option linter.unusedSimpArgs false
open Go.ChangeShapes Go.WideShapes Go.ChangeAt Go.RowKit Go.Proofs.YtegaookkfjgepaaDoor.Num Go.Proofs.YtegaookkfjgepaaDoor.Mem Go.Proofs.YtegaookkfjgepaaDoor.Asm
/-- Where the row lies behind an append: where it lay, or in a block that is new. -/
theorem append_where {P : Program} {w w' : World} {base : Nat} {t ty e : TypeId} {i : TypeInfo} {z v v' : Value} {size bytes n m c : Nat} {xs news : List Value} {a : Addr} (ht : P.underlying t = some (.slice e)) (hi : P.info? e = some i) (hz : i.zero = some z)
    (hsize : i.size = size) (hby : i.bytes = bytes) (hown : w.ownsRow base e size v n xs) (hl : news.length = m * size) (hnews : ∀ j u, news[j]? = some u → w.cell? (a.add j) = some u) (h1 : ∀ u ∈ news, u.oneCell' = true)
    (h63 : n + m ≤ maxLen) (hbytes : (n + m) * bytes ≤ 140737488355328) (hm : 0 < m) (hr : (Builtin.append_ #[t, t] ty #[v, .slice (some a) m c]).run P w = .ok v' w') : v'.ownBlock = v.ownBlock ∨ v'.ownBlock = some w.heap.size := by
  subst hsize hby
  have hsmall : n + m ≤ 9223372036854775807 := by simp only [maxLen] at h63; omega
  rcases hown.2 with ⟨rfl, rfl⟩ | ⟨g, cap, cur, rfl, hbg, hg, hnc, hcm, hcs, htake⟩
  · have h := run_append_nil (P := P) w t ty e i z ht hi hz a m c news hl hnews (by omega) (by omega) (by have hb := hbytes; simp only [Nat.zero_add] at hb; omega)
    rw [h] at hr
    injection hr with h1 h2
    exact Or.inr (by rw [← h1]; rfl)
  · by_cases hroom : n + m ≤ cap
    · have hfit : n * i.size + news.length ≤ cur.size := by rw [hl, hcs, ← Nat.add_mul]; exact Nat.mul_le_mul_right _ hroom
      have h := run_append_room (P := P) w t ty e i ht hi g n cap cur hg a m c news hl hnews h1 hroom hfit
      rw [h] at hr
      injection hr with h1 h2
      exact Or.inl (by rw [← h1]; rfl)
    · have h := run_append_grow (P := P) w t ty e i z ht hi hz ⟨g, 0, none⟩ n cap xs hown.1 (hown.cells (g := g) rfl) a m c news hl hnews (by omega) (by omega) (growslice_fits (by omega) hbytes)
      rw [h] at hr
      injection hr with h1 h2
      exact Or.inr (by rw [← h1]; rfl)
theorem wpList_append_own2 {P : Program} (w : World) {ops : Array Oper} {rest : List Oper} {o : Oper} {a : Act} {Q : Exit → Act → World → Prop} (hgd : o.guard = none) (s x : Operand) (t : TypeId)
    (ho : o.op = .call { callee := .builtin .append, args := #[s, x], argTypes := #[t, t] })
    (base : Nat) (e : TypeId) (i : TypeInfo) (z : Value) (size bytes : Nat) (ht : P.underlying t = some (.slice e)) (hi : P.info? e = some i) (hz : i.zero = some z)
    (hsize : i.size = size) (hby : i.bytes = bytes) (hzs : z.cells.size = size) (hsz : 0 < size)
    (v : Value) (n : Nat) (xs : List Value) (hs : a.eval s = v) (hown : w.ownsRow base e size v n xs)
    (ad : Addr) (m c : Nat) (news : List Value) (hx : a.eval x = .slice (some ad) m c) (hl : news.length = m * size) (hnews : ∀ j u, news[j]? = some u → w.cell? (ad.add j) = some u) (h1 : ∀ u ∈ news, u.oneCell' = true)
    (h63 : n + m ≤ maxLen) (hbytes : (n + m) * bytes ≤ 140737488355328) (hbase : base ≤ w.heap.size) (hm : 0 < m)
    (h : ∀ v' w', w'.ownsRow base e size v' (n + m) (xs ++ news) → w.grownBy w' v.ownBlock → (v'.ownBlock = v.ownBlock ∨ v'.ownBlock = some w.heap.size) → wpList P ops Q rest (a.put o.dst v') w') : wpList P ops Q (o :: rest) a w :=
  wpList_plain hgd fun _ hK => by
    obtain ⟨v', w', hr, h2, h3, _⟩ := run_append_own (P := P) w base t o.type e i z size bytes ht hi hz hsize hby hzs hsz v n xs hown ad m c news hl hnews h1 h63 hbytes hbase
    have h5 := append_where ht hi hz hsize hby hown hl hnews h1 h63 hbytes hm hr
    unfold Oper.wp execOp
    simp only [ho, resolve, invoke, builtin, Sem.run_bind, Sem.run_pure, Result.andThen_ok, List.map_toArray, List.map_cons, List.map_nil, hs, hx, hr]
    exact hK _ _ (h v' w' h2 h3 h5)
theorem statement_toks (r : Nat) (v : Value) (ts : List Bs) (w : World) (h : Toks w v ts) (hb : w.heap[r]? = some (.map (tabA 49) 49)) (hl : ts.length ≤ 1000000) (hne : ∀ t ∈ ts, t ≠ []) : Calls Tryd.prog 94 #[.map (some r), v] w (WordsPost (stmtL ts) w) := by
  match ts, h with
  | [], h =>
    rcases h with ⟨_, oa, cap, rfl⟩ | ⟨b, off, cap, rfl, _⟩
    · exact statement_nil r oa cap w
    · exact statement_nil r (some ⟨b, off, none⟩) cap w
  | m :: ts, h =>
    rcases h with ⟨h, _⟩ | ⟨b, off, cap, rfl, hcap, hc⟩
    · cases h
    · exact statement_cons r b off cap m ts w hb hcap (by simp at hl; omega) hc (fun t ht => hne t (by simp [ht]))
/-- A line: its label, and the words of its statement. -/
def lineR (l : Bs) : Option (Bs × List Draft) := (labelL (toksL l)).bind fun x => (stmtL x.2).map fun ds => (x.1, ds)
def numbered (n : Int) (ds : List Draft) : List Draft := ds.map fun d => { d with line := n }
def addSyms (syms : List (Bs × Nat)) (ds : List Draft) (lab : Bs) : List (Bs × Nat) := if lab = [] then syms else syms ++ [(lab, 4 * ds.length)]
theorem labelL_ne {ts : List Bs} (h : ∀ t ∈ ts, t ≠ []) {x : Bs × List Bs} (hx : labelL ts = some x) : (∀ t ∈ x.2, t ≠ []) ∧ x.2.length ≤ ts.length := by
  unfold labelL at hx
  split at hx
  · split at hx
    · split at hx
      · simp at hx; subst hx; exact ⟨fun t ht => h t (by simp [ht]), by simp; omega⟩
      · simp at hx
    · simp at hx; subst hx; exact ⟨fun t ht => h t (by simpa using ht), Nat.le_refl _⟩
  · simp at hx; subst hx; exact ⟨h, Nat.le_refl _⟩
theorem toks_len (l : Bs) : (toksL l).length ≤ 1 + 2 * l.length := by
  unfold toksL
  have h1 := tokGo_len (l.takeWhile (· != 59)) []
  have h2 : (l.takeWhile (· != 59)).length ≤ l.length := (List.takeWhile_sublist _).length_le
  omega
theorem below_step' {B m : Nat} {a b c : World} (h : Below a.heap.size a b) (hB : B ≤ a.heap.size) (k : Below (b.drewN m).heap.size (b.drewN m) c) : Below B a c :=
  (below_step (below_drewN h m) k).mono hB
theorem lineR_some {l lab : Bs} {dd : List Draft} (h : lineR l = some (lab, dd)) : ∃ rest, labelL (toksL l) = some (lab, rest) ∧ stmtL rest = some dd := by
  unfold lineR at h
  cases hx : labelL (toksL l) with
  | none => rw [hx] at h; cases h
  | some x =>
    rw [hx] at h
    cases hy : stmtL x.2 with
    | none => simp [hy] at h
    | some d =>
      simp [hy] at h
      obtain ⟨h1, h2⟩ := h
      exact ⟨x.2, by rw [← h1], by rw [hy, h2]⟩
def AddPost (B P M : Nat) (number : Int) (syms : List (Bs × Nat)) (ds : List Draft) (r : Option (Bs × List Draft)) (w : World) (e : Ending) (w' : World) : Prop :=
  match r with
  | none => e = .returned (.int .i64 301) ∧ Below B w w'
  | some (lab, dd) =>
    if lab ≠ [] ∧ (lookS syms lab).isSome = true then e = .returned (.int .i64 303) ∧ Below B w w'
    else if 1024 < (ds ++ numbered number dd).length then e = .returned (.int .i64 305) ∧ Below B w w'
    else e = .returned (.int .i64 0) ∧ (∃ vs vd, PrgV B w' P M vs vd (addSyms syms ds lab) (ds ++ numbered number dd)) ∧ Below B w w' ∧ Frame P M w w'
theorem toks_ct (line : ByteArray) (w : World) (hs : line.size ≤ 100000) : Calls Tryd.prog 93 #[.string line] w fun e w' => (∃ v, e = .returned v ∧ Toks w' v (toksL line.data.toList)) ∧ Below w.heap.size w w' :=
  (toks_asm line w hs).mono fun e w' ⟨v, he, hown, hb⟩ => ⟨⟨v, he, Toks.of hown⟩, hb⟩
theorem tk_bound (line : ByteArray) (hs : line.size ≤ 100000) : (toksL line.data.toList).length ≤ 1000000 := by
  have := toks_len line.data.toList
  rw [len_size] at this; omega
set_option maxRecDepth 100000 in
set_option maxHeartbeats 4000000 in
theorem add_form (B R P M : Nat) (line : ByteArray) (number : Int) (syms : List (Bs × Nat)) (ds : List Draft) (w : World) (hs : line.size ≤ 100000) (hR : w.heap[R]? = some (.map (tabA 49) 49)) (hB : B ≤ w.heap.size) (hl : lineR line.data.toList = none) :
    Calls Tryd.prog 74 #[.pointer (some ⟨P, 0, none⟩), .map (some R), .string line, .int .i64 number] w fun e w' => e = .returned (.int .i64 301) ∧ Below B w w' := by
  have HT := Lib.hid (fun W => toks_ct line W hs)
  have hne := toksL_ne line.data.toList
  have hbd := tk_bound line hs
  unfold lineR at hl
  generalize toksL line.data.toList = ts at *
  have HR := Lib.hid hR
  have HN := Lib.hid hne
  clear hR
  cases hlab : labelL ts with
  | none =>
    have hlb := fun v W (h : Toks W v ts) => label_asm v ts W h hne hbd
    rw [hlab] at hlb
    have HL := Lib.hid (show ∀ v W, Toks W v ts → Calls Tryd.prog 92 #[v] W fun e w' => e = .returned (.tuple #[.string { data := #[] }, .slice none 0 0, .bool false]) ∧ ∃ m, w' = W.drewN m from hlb)
    clear hlb hlab hl hne
    go_enter Tryd.func74, Tryd.ntmps74
    go_wp2_with (first
      | (go_at_call 93; (with_reducible refine (HT.out _).mono ?_); rintro e w1 ⟨⟨v1, rfl, ht1⟩, hb1⟩; have HT1 := Lib.hid ht1; clear ht1)
      | (go_at_call 92; (with_reducible refine (HL.out _ _ HT1.out).mono ?_); rintro e w2 ⟨rfl, m, rfl⟩))
    go_ret
    exact ⟨rfl, below_drewN (hb1.mono hB) m⟩
  | some x =>
    obtain ⟨lab, rest⟩ := x
    rw [hlab] at hl
    have hst : stmtL rest = none := by simpa using hl
    obtain ⟨hn2, hl2⟩ := labelL_ne hne hlab
    have hlb := fun v W (h : Toks W v ts) => label_asm v ts W h hne hbd
    rw [hlab] at hlb
    have HL := Lib.hid (show ∀ v W, Toks W v ts → Calls Tryd.prog 92 #[v] W fun e w' => (∃ v', e = .returned (.tuple #[.string (S lab), v', .bool true]) ∧ Toks W v' rest) ∧ ∃ m, w' = W.drewN m from hlb)
    have hsm := fun v W (h : Toks W v rest) (hb : W.heap[R]? = some (.map (tabA 49) 49)) => statement_toks R v rest W h hb (by dsimp only at hl2; omega) hn2
    rw [hst] at hsm
    have HSM := Lib.hid (show ∀ v W, Toks W v rest → W.heap[R]? = some (.map (tabA 49) 49) → Calls Tryd.prog 94 #[.map (some R), v] W fun e w' => e = .returned (.tuple #[.slice none 0 0, .bool false]) ∧ Below W.heap.size W w' from hsm)
    clear hlb hlab hl hne hsm hst hn2 hl2
    go_enter Tryd.func74, Tryd.ntmps74
    go_wp2_with (first
      | (go_at_call 93; (with_reducible refine (HT.out _).mono ?_); rintro e w1 ⟨⟨v1, rfl, ht1⟩, hb1⟩; have HT1 := Lib.hid ht1; have HR1 := Lib.hid (heap_below HR.out hb1); clear ht1)
      | (go_at_call 92; (with_reducible refine (HL.out _ _ HT1.out).mono ?_); rintro e w2 ⟨⟨v2, rfl, ht2⟩, m, rfl⟩; have HT2 := Lib.hid (ht2.on (drewN_below w1 m)); have HR2 := Lib.hid (heap_below HR1.out (drewN_below w1 m)); clear ht2)
      | (go_at_call 94; (with_reducible refine (HSM.out _ _ HT2.out HR2.out).mono ?_); rintro e w3 ⟨rfl, hb3⟩))
    go_ret
    exact ⟨rfl, below_step' hb1 hB hb3⟩
set_option maxRecDepth 100000 in
set_option maxHeartbeats 4000000 in
theorem add_twice (B R P M : Nat) (vs vd : Value) (line : ByteArray) (number : Int) (syms : List (Bs × Nat)) (ds : List Draft) (w : World) (lab : Bs) (dd : List Draft) (n : Nat) (hs : line.size ≤ 100000) (hR : w.heap[R]? = some (.map (tabA 49) 49)) (hB : B ≤ w.heap.size)
    (hp : PrgV B w P M vs vd syms ds) (hl : lineR line.data.toList = some (lab, dd)) (h0 : lab ≠ []) (ht : lookS syms lab = some n) :
    Calls Tryd.prog 74 #[.pointer (some ⟨P, 0, none⟩), .map (some R), .string line, .int .i64 number] w fun e w' => e = .returned (.int .i64 303) ∧ Below B w w' := by
  have HT := Lib.hid (fun W => toks_ct line W hs)
  have hne := toksL_ne line.data.toList
  have hbd := tk_bound line hs
  replace hl := lineR_some hl
  generalize toksL line.data.toList = ts at *
  have HR := Lib.hid hR
  have HN := Lib.hid hne
  clear hR
  obtain ⟨rest, hlab, hst⟩ := hl
  obtain ⟨hn2, hl2⟩ := labelL_ne hne hlab
  have hlb := fun v W (h : Toks W v ts) => label_asm v ts W h hne hbd
  rw [hlab] at hlb
  have HL := Lib.hid (show ∀ v W, Toks W v ts → Calls Tryd.prog 92 #[v] W fun e w' => (∃ v', e = .returned (.tuple #[.string (S lab), v', .bool true]) ∧ Toks W v' rest) ∧ ∃ m, w' = W.drewN m from hlb)
  have hsm := fun v W (h : Toks W v rest) (hb : W.heap[R]? = some (.map (tabA 49) 49)) => statement_toks R v rest W h hb (by dsimp only at hl2; omega) hn2
  rw [hst] at hsm
  have HSM := Lib.hid (show ∀ v W, Toks W v rest → W.heap[R]? = some (.map (tabA 49) 49) → Calls Tryd.prog 94 #[.map (some R), v] W fun e w' => (∃ vd', e = .returned (.tuple #[vd', .bool true]) ∧ w'.ownsRow W.heap.size 130 9 vd' dd.length (flat dd)) ∧ Below W.heap.size W w' from hsm)
  have HP := Lib.hid hp
  have q1 := toL_ne (S_pos h0)
  have q2 := toL_ne' (S_pos h0)
  have HDF := Lib.hid (fun W h => define_old B P M vs vd syms ds lab n W h ht)
  clear hlb hlab hne hsm hst hn2 hl2 hp h0 ht
  go_enter Tryd.func74, Tryd.ntmps74
  go_wp2_with (first
      | (go_at_call 93; (with_reducible refine (HT.out _).mono ?_); rintro e w1 ⟨⟨v1, rfl, ht1⟩, hb1⟩; have HT1 := Lib.hid ht1; have HR1 := Lib.hid (heap_below HR.out hb1); have HP1 := Lib.hid (HP.out.on hb1); clear ht1)
      | (go_at_call 92; (with_reducible refine (HL.out _ _ HT1.out).mono ?_); rintro e w2 ⟨⟨v2, rfl, ht2⟩, m, rfl⟩; have HT2 := Lib.hid (ht2.on (drewN_below w1 m)); have HR2 := Lib.hid (heap_below HR1.out (drewN_below w1 m)); have HP2 := Lib.hid (HP1.out.on (drewN_below w1 m)); clear ht2)
      | (go_at_call 94; (with_reducible refine (HSM.out _ _ HT2.out HR2.out).mono ?_); rintro e w3 ⟨⟨vd3, rfl, hown3⟩, hb3⟩; have HD3 := Lib.hid hown3; have HP3 := Lib.hid (HP2.out.on hb3); have HB3 := Lib.hid hb3; clear hown3 hb3)
      | (go_at_call 95; (with_reducible refine (HDF.out _ HP3.out).mono ?_); rintro e w4 ⟨rfl, rfl⟩))
  go_ret
  exact ⟨rfl, below_step' hb1 hB HB3.out⟩
end Go.Proofs.YtegaookkfjgepaaDoor
