import Derived.Test.YthghbcjaokpilaaDoorRefGj
import Derived.Test.YthghbcjaokpilaaDoorRefB
import Derived.Test.YthghbcjaokpilaaDoorAsmFn5
namespace Go.Proofs.YthghbcjaokpilaaDoor
set_option linter.unusedVariables false
set_option linter.unusedSimpArgs false
open Go.ChangeShapes Go.WideShapes Go.ChangeAt Go.RowKit Go.Proofs.YthghbcjaokpilaaDoor.Num Go.Proofs.YthghbcjaokpilaaDoor.Isa Go.Proofs.YthghbcjaokpilaaDoor.Mem Go.Proofs.YthghbcjaokpilaaDoor.Asm
/-- An operand, as the reference reads it. -/
structure Arg where
  reg : Int
  num : Int
  lab : Bs
def argV (t : Arg) : List Value := [.int .i64 t.reg, .int .i64 t.num, .string (S t.lab)]
def flatA (l : List Arg) : List Value := (l.map argV).flatten
theorem flatA_snoc (l : List Arg) (t : Arg) : flatA (l ++ [t]) = flatA l ++ argV t := by simp [flatA]
theorem flatA_len (l : List Arg) : (flatA l).length = l.length * 3 := by
  induction l with
  | nil => rfl
  | cons t l ih =>
    have e : flatA (t :: l) = argV t ++ flatA l := rfl
    rw [e, List.length_append, ih]
    simp [argV]; omega
theorem info_arg : (Tryd.prog.info? 51).map (fun i => (i.zero, i.size, i.bytes)) = some (some (.agg #[.int .i64 0, .int .i64 0, .string { data := #[] }]), 3, 32) := by kernel_rfl
theorem one_arg (t : Arg) : ∀ u ∈ argV t, u.oneCell' = true := by simp [argV, Value.oneCell']
/-- The slice a reads as the tokens ts. -/
def RowT (w : World) (a : Option Addr) (ts : List Tk) : Prop := ∀ i (h : i < ts.length), ∃ b off, a = some ⟨b, off, none⟩ ∧ w.cell? ⟨b, off + i * 3, none⟩ = some (.int .i64 ts[i].kind) ∧ w.cell? ⟨b, off + i * 3 + 1, none⟩ = some (.string (S ts[i].text)) ∧ w.cell? ⟨b, off + i * 3 + 2, none⟩ = some (.bool ts[i].gap)
theorem RowT.on {w w' : World} {a : Option Addr} {ts : List Tk} (h : RowT w a ts) (hb : Below w.heap.size w w') : RowT w' a ts := fun i hi => by
  obtain ⟨b, off, h1, h2, h3, h4⟩ := h i hi
  exact ⟨b, off, h1, still h2 hb, still h3 hb, still h4 hb⟩
def mtStep (p : UInt8) (t : Tk) : Option (Option Arg) :=
  if p = 114 then (match regL t.text with | some r => if t.kind = 1 then some (some ⟨r, 0, []⟩) else none | none => none)
  else if p = 110 ∨ p = 120 then
    if p = 120 ∧ t.kind = 1 ∧ nameR t.text = true then some (some ⟨0, 0, t.text⟩)
    else match numL t.text with | some n => if t.kind = 2 then some (some ⟨0, n, []⟩) else none | none => none
  else if t.kind = 3 ∧ t.text = [p] then some none else none
def mtGo : List Tk → Bs → Option (List Arg)
  | t :: ts, p :: ps => (mtStep p t).bind fun o => (mtGo ts ps).map (o.toList ++ ·)
  | _, _ => some []
def mtL (ts : List Tk) (ps : Bs) : Option (List Arg) := if ts.length = ps.length then mtGo ts ps else none
def MtPost (r : Option (List Arg)) (w : World) (e : Ending) (w' : World) : Prop :=
  (match r with
  | some L => ∃ v, e = .returned (.tuple #[v, .bool true]) ∧ w'.ownsRow w.heap.size 51 3 v L.length (flatA L)
  | none => e = .returned (.tuple #[.slice none 0 0, .bool false])) ∧ Below w.heap.size w w'
/-- What the walk knows: the operands so far, and the rest. -/
def MtAt (ts : List Tk) (ps : Bs) (L : List Arg) (k : Nat) : Prop := mtGo ts ps = (mtGo (ts.drop k) (ps.drop k)).map (L ++ ·)
theorem mtat_start (ts : List Tk) (ps : Bs) : MtAt ts ps [] 0 := by unfold MtAt; simp
theorem mtat_next {ts : List Tk} {ps : Bs} {L : List Arg} {k : Nat} (h : MtAt ts ps L k) (h1 : k < ts.length) (h2 : k < ps.length) {o : Option Arg} (hs : mtStep ps[k] ts[k] = some o) : MtAt ts ps (L ++ o.toList) (k + 1) := by
  unfold MtAt at h ⊢
  rw [h, List.drop_eq_getElem_cons h1, List.drop_eq_getElem_cons h2]
  simp only [mtGo, hs, Option.bind_some, Option.map_map]
  congr 1
  funext r
  simp
theorem mtat_bad {ts : List Tk} {ps : Bs} {L : List Arg} {k : Nat} (h : MtAt ts ps L k) (h1 : k < ts.length) (h2 : k < ps.length) (hs : mtStep ps[k] ts[k] = none) : mtGo ts ps = none := by
  unfold MtAt at h
  rw [h, List.drop_eq_getElem_cons h1, List.drop_eq_getElem_cons h2]
  simp [mtGo, hs]
theorem mtat_end {ts : List Tk} {ps : Bs} {L : List Arg} {k : Nat} (h : MtAt ts ps L k) (h1 : ts.length ≤ k) : mtGo ts ps = some L := by
  unfold MtAt at h
  rw [h, List.drop_eq_nil_of_le h1]
  simp [mtGo]
theorem box3 {w w' : World} {T : TypeId} {v0 v1 v2 : Value} (hb : Below (w.alloc (Obj.cells #[v0, v1, v2] T)).heap.size (w.alloc (Obj.cells #[v0, v1, v2] T)) w') :
    w'.cell? ⟨w.heap.size, 0, none⟩ = some v0 ∧ w'.cell? ⟨w.heap.size, 1, none⟩ = some v1 ∧ w'.cell? ⟨w.heap.size, 2, none⟩ = some v2 := by
  have hs : w.heap.size < (w.alloc (Obj.cells #[v0, v1, v2] T)).heap.size := by simp
  refine ⟨?_, ?_, ?_⟩ <;> (rw [hb.cell hs]; simp)
theorem new_cellsB (w : World) (xs : List Value) (T : TypeId) (g : Nat) (hg : g = w.heap.size) : ∀ j u, xs[j]? = some u → (w.alloc (.cells xs.toArray T)).cell? ((⟨g, 0, none⟩ : Addr).add j) = some u := by
  subst hg; exact new_cellsA w xs T
theorem mt_r {c : UInt8} {t : Tk} (hc : (c.toNat : Int) = 114) : mtStep c t = (match regL t.text with | some r => if t.kind = 1 then some (some ⟨r, 0, []⟩) else none | none => none) := by
  have h : c = 114 := (u8_eq c 114 (by decide)).2 hc
  unfold mtStep; rw [if_pos h]
theorem mt_l {c : UInt8} {t : Tk} (hc : (c.toNat : Int) = 120) (hk : t.kind = 1) (hn : nameR t.text = true) : mtStep c t = some (some ⟨0, 0, t.text⟩) := by
  have h : c = 120 := (u8_eq c 120 (by decide)).2 hc
  unfold mtStep; rw [if_neg (by rw [h]; decide), if_pos (Or.inr h), if_pos ⟨h, hk, hn⟩]
theorem mt_n {c : UInt8} {t : Tk} (hc : (c.toNat : Int) = 110 ∨ (c.toNat : Int) = 120) (hn : ¬ ((c.toNat : Int) = 120 ∧ t.kind = 1 ∧ nameR t.text = true)) : mtStep c t = (match numL t.text with | some n => if t.kind = 2 then some (some ⟨0, n, []⟩) else none | none => none) := by
  have h1 : ¬ c = 114 := fun h => by have := (u8_eq c 114 (by decide)).1 h; omega
  have h2 : c = 110 ∨ c = 120 := by
    rcases hc with h | h
    · exact Or.inl ((u8_eq c 110 (by decide)).2 h)
    · exact Or.inr ((u8_eq c 120 (by decide)).2 h)
  unfold mtStep; rw [if_neg h1, if_pos h2, if_neg (fun h => hn ⟨(u8_eq c 120 (by decide)).1 h.1, h.2⟩)]
theorem mt_s {c : UInt8} {t : Tk} (h1 : ¬ (c.toNat : Int) = 114) (h2 : ¬ (c.toNat : Int) = 110) (h3 : ¬ (c.toNat : Int) = 120) : mtStep c t = if t.kind = 3 ∧ t.text = [c] then some none else none := by
  have n1 : ¬ c = 114 := fun h => h1 ((u8_eq c 114 (by decide)).1 h)
  have n2 : ¬ (c = 110 ∨ c = 120) := by
    rintro (h | h)
    · exact h2 ((u8_eq c 110 (by decide)).1 h)
    · exact h3 ((u8_eq c 120 (by decide)).1 h)
  unfold mtStep
  rw [if_neg n1, if_neg n2]
theorem matched_no (a : Option Addr) (cap : Nat) (ts : List Tk) (p : ByteArray) (w : World) (hn : ¬ ts.length = p.size) :
    Calls Tryd.prog 35 #[.slice a ts.length cap, .string p] w (MtPost (mtL ts p.data.toList) w) := by
  have e : mtL ts p.data.toList = none := by unfold mtL; rw [if_neg]; rw [len_size]; exact hn
  rw [e]
  generalize ts.length = n at *
  have h' : ¬ (n : Int) = p.size := by omega
  go_enter Tryd.func35, Tryd.ntmps35
  go_wp2
  all_goals go_ret2
  exact ⟨rfl, Below.refl _ _⟩
set_option maxHeartbeats 8000000 in
set_option maxRecDepth 100000 in
theorem matched_ref (a : Option Addr) (cap : Nat) (ts : List Tk) (p : ByteArray) (w : World) (hR : RowT w a ts) (hts : ∀ t ∈ ts, t.text.length ≤ 100000) (hp : p.size ≤ 100) :
    Calls Tryd.prog 35 #[.slice a ts.length cap, .string p] w (MtPost (mtL ts p.data.toList) w) := by
  by_cases hn : ts.length = p.size
  case neg => exact matched_no a cap ts p w hn
  obtain ⟨i0, hi, hz0, hz1, hz2⟩ := info_parts info_arg
  have e : mtL ts p.data.toList = mtGo ts p.data.toList := by unfold mtL; rw [if_pos]; rw [len_size]; exact hn
  rw [e]
  have HR := Lib.hid hR
  have HTS := Lib.hid hts
  have HN := Lib.hid hn
  clear hR hts e
  generalize hnn : ts.length = n at *
  have HNN := Lib.hid hnn
  subst hn
  clear hnn
  go_enter Tryd.func35, Tryd.ntmps35
  go_wp2
  go_loopw [6, 7] (fun v i wr => ∃ (k : Nat) (L : List Arg), k ≤ p.size ∧ i = .int .i64 k ∧ L.length ≤ k ∧ wr.ownsRow w.heap.size 51 3 v L.length (flatA L) ∧ Below w.heap.size w wr ∧ Hid (MtAt ts p.data.toList L k)) (fun _ i _ => p.size - (intOf i).toNat)
  case atStart => exact ⟨0, [], Nat.zero_le _, rfl, Nat.le_refl _, World.ownsRow_nil _ _ _ _, Below.refl _ _, Lib.hid (mtat_start _ _)⟩
  case round =>
    obtain ⟨k, L, hk, rfl, hL, hown, hbw, hat⟩ := hrel
    have HO := Lib.hid hown
    have HB := Lib.hid hbw
    clear hown hbw
    by_cases hlt : k < p.size
    · have hkt : k < ts.length := by rw [HNN.out]; exact hlt
      have hkp : k < p.data.toList.length := by rw [len_size]; exact hlt
      obtain ⟨b, off, ha, c0, c1, c2⟩ := HR.out.on HB.out k hkt
      have hsz := HTS.out ts[k] (List.getElem_mem hkt)
      have hpk : p.data.toList[k] = p[k] := getL p k hlt
      obtain ⟨t, ht⟩ : ∃ t, ts[k] = t := ⟨_, rfl⟩
      have HNX : Hid (∀ o, mtStep p[k] t = some o → MtAt ts p.data.toList (L ++ o.toList) (k + 1)) := Lib.hid (fun o hs => mtat_next hat.out hkt hkp (by rw [hpk, ht]; exact hs))
      have HBD : Hid (mtStep p[k] t = none → mtGo ts p.data.toList = none) := Lib.hid (fun hs => mtat_bad hat.out hkt hkp (by rw [hpk, ht]; exact hs))
      rw [ht] at c0 c1 c2 hsz
      subst ha
      clear hpk hat ht
      obtain ⟨tk, tx, tg⟩ := t
      dsimp only at c0 c1 c2 hsz
      have hss : (S tx).size ≤ 100000 := by rw [S_size]; exact hsz
      have HRG := Lib.hid (fun W => regOf_ref (S tx) W)
      have HNA := Lib.hid (fun W => name_ref (S tx) W)
      have HNU := Lib.hid (fun W => number_ref (S tx) W (by omega))
      rw [S_list] at HRG HNA HNU
      have HB := Lib.hid HB.out
      have B0 := Lib.hid (show Below wr.heap.size wr (wr.alloc (.cells #[.int .i64 tk, .string (S tx), .bool tg] 90)) from (Below.refl _ _).alloc (Nat.le_refl _) _)
      by_cases hc : (p[k].toNat : Int) = 114
      · have e114 : ((p[k].toNat : Int) == 114) = true := by simpa using hc
        cases hr : regL tx with
        | none =>
          have HF := Lib.hid (HBD.out (by rw [mt_r hc]; simp only [hr]))
          rw [hr] at HRG
          clear hc
          generalize regI tx = ri at *
          by_cases hkk : tk = 1
          · subst hkk
            go_wp2_with (go_at_call 50; (with_reducible refine (HRG.out _).mono ?_); rintro e w1 ⟨rfl, hb1⟩; obtain ⟨d0, d1, d2⟩ := box3 hb1; have bb := below_step B0.out hb1)
            go_ret2
            rw [HF.out]
            exact ⟨rfl, below_step HB.out bb⟩
          · have bk : (tk == 1) = false := by simpa using hkk
            go_wp2_with (go_at_call 50; (with_reducible refine (HRG.out _).mono ?_); rintro e w1 ⟨rfl, hb1⟩; obtain ⟨d0, d1, d2⟩ := box3 hb1; have bb := below_step B0.out hb1)
            go_ret2
            rw [HF.out]
            exact ⟨rfl, below_step HB.out bb⟩
        | some r =>
          have hri : regI tx = r := by unfold regI; rw [hr]
          rw [hr, hri] at HRG
          by_cases hk1 : tk = 1
          · subst hk1
            have HA := Lib.hid (HNX.out (some ⟨r, 0, []⟩) (by rw [mt_r hc]; simp only [hr]; rfl))
            clear hc hr
            go_wp2_with (first
              | (go_at_call 50; (with_reducible refine (HRG.out _).mono ?_); rintro e w1 ⟨rfl, hb1⟩; obtain ⟨d0, d1, d2⟩ := box3 hb1; have bb := below_step B0.out hb1)
              | (at_builtin; (refine wpList_append_own _ rfl _ _ 47 rfl w.heap.size 51 i0 _ 3 32 Tryd.underlying47 hi hz0 hz1 hz2 rfl (by decide) _ _ _ rfl ((own_below HO.out bb).alloc _) ⟨_, 0, none⟩ 1 1 (argV ⟨r, 0, []⟩) rfl rfl (new_cellsA _ _ _) (one_arg _) (by unfold maxLen; omega) (by omega) (by have q1 := HB.out.size; have q2 := bb.size; simp; omega) ?_)))
            intro v' w9 hown3 hgrow _
            have HO4 := Lib.hid (show w9.ownsRow w.heap.size 51 3 v' (L ++ [(⟨r, 0, []⟩ : Arg)]).length (flatA (L ++ [(⟨r, 0, []⟩ : Arg)])) by rw [flatA_snoc]; simpa using hown3)
            have HB5 := Lib.hid (below_step HB.out bb)
            have HB4 := Lib.hid (show Below w.heap.size w w9 from (HB5.out.alloc HB5.out.size _).grown hgrow (by have q1 := HB5.out.size; have q2 := HB.out.size; simp; omega) (fun k hk => ((own_below HO.out bb).lt k hk).1))
            clear hown3 hgrow
            go_wp2
            go_roundw
            case rel => exact ⟨k + 1, L ++ [(⟨r, 0, []⟩ : Arg)], by omega, by go_num, by rw [List.length_append, List.length_singleton]; omega, HO4.out, HB4.out, HA⟩
            case measure => simp [intOf]; omega
          · have HF := Lib.hid (HBD.out (by rw [mt_r hc]; simp only [hr]; exact if_neg hk1))
            have b1 : (tk == 1) = false := by simpa using hk1
            clear hc hr
            go_wp2_with (go_at_call 50; (with_reducible refine (HRG.out _).mono ?_); rintro e w1 ⟨rfl, hb1⟩; obtain ⟨d0, d1, d2⟩ := box3 hb1; have bb := below_step B0.out hb1)
            go_ret2
            rw [HF.out]
            exact ⟨rfl, below_step HB.out bb⟩
      · have e114 : ((p[k].toNat : Int) == 114) = false := by simpa using hc
        by_cases hc2 : (p[k].toNat : Int) = 110 ∨ (p[k].toNat : Int) = 120
        · rcases hc2 with hc2 | hc2
          · -- a number
            have e110 : ((p[k].toNat : Int) == 110) = true := by simpa using hc2
            have e120 : ((p[k].toNat : Int) == 120) = false := by rw [hc2]; rfl
            have hcc : Hid ((p[k].toNat : Int) = 110 ∨ (p[k].toNat : Int) = 120) := Lib.hid (Or.inl hc2)
            have hno : Hid (¬ ((p[k].toNat : Int) = 120 ∧ tk = 1 ∧ nameR tx = true)) := Lib.hid (by rw [hc2]; rintro ⟨h, _⟩; cases h)
            clear hc hc2
            cases hr : numL tx with
            | none =>
              have HF := Lib.hid (HBD.out (by rw [mt_n hcc.out hno.out]; simp only [hr]))
              rw [hr] at HNU
              clear hcc hno
              by_cases hkk : tk = 2
              · subst hkk
                go_wp2_with (first
                  | (go_at_call 51; (with_reducible refine (HNU.out _).mono ?_); rintro e w2 ⟨⟨v2, rfl⟩, rfl⟩; have bb := B0.out))
                go_ret2
                rw [HF.out]
                exact ⟨rfl, below_step HB.out bb⟩
              · have bk : (tk == 2) = false := by simpa using hkk
                go_wp2_with (first
                  | (go_at_call 51; (with_reducible refine (HNU.out _).mono ?_); rintro e w2 ⟨⟨v2, rfl⟩, rfl⟩; have bb := B0.out))
                go_ret2
                rw [HF.out]
                exact ⟨rfl, below_step HB.out bb⟩
            | some n =>
              rw [hr] at HNU
              have hnb := numL_bd hr
              by_cases hk2 : tk = 2
              · subst hk2
                have HA := Lib.hid (HNX.out (some ⟨0, n, []⟩) (by rw [mt_n hcc.out hno.out]; simp only [hr]; rfl))
                clear hcc hno hr
                go_wp2_with (first
                  | (go_at_call 51; (with_reducible refine (HNU.out _).mono ?_); rintro e w2 ⟨rfl, rfl⟩; have bb := B0.out)
                  | (at_builtin; refine wpList_append_own _ rfl _ _ 47 rfl w.heap.size 51 i0 _ 3 32 Tryd.underlying47 hi hz0 hz1 hz2 rfl (by decide) _ _ _ rfl ((own_below HO.out bb).alloc _) ⟨_, 0, none⟩ 1 1 (argV ⟨0, n, []⟩) rfl rfl (new_cellsB _ _ _ _ (by simp)) (one_arg _) (by unfold maxLen; omega) (by omega) (by have q1 := HB.out.size; have q2 := bb.size; simp; omega) ?_))
                intro v' w9 hown3 hgrow _
                have HO4 := Lib.hid (show w9.ownsRow w.heap.size 51 3 v' (L ++ [(⟨0, n, []⟩ : Arg)]).length (flatA (L ++ [(⟨0, n, []⟩ : Arg)])) by rw [flatA_snoc]; simpa using hown3)
                have HB5 := Lib.hid (below_step HB.out bb)
                have HB4 := Lib.hid (show Below w.heap.size w w9 from (HB5.out.alloc HB5.out.size _).grown hgrow (by have q1 := HB5.out.size; have q2 := HB.out.size; simp; omega) (fun k hk => ((own_below HO.out bb).lt k hk).1))
                clear hown3 hgrow
                go_wp2
                go_roundw
                case rel => exact ⟨k + 1, L ++ [(⟨0, n, []⟩ : Arg)], by omega, by go_num, by rw [List.length_append, List.length_singleton]; omega, HO4.out, HB4.out, HA⟩
                case measure => simp [intOf]; omega
              · have HF := Lib.hid (HBD.out (by rw [mt_n hcc.out hno.out]; simp only [hr]; exact if_neg hk2))
                have b2 : (tk == 2) = false := by simpa using hk2
                clear hcc hno hr
                go_wp2_with (first
                  | (go_at_call 51; (with_reducible refine (HNU.out _).mono ?_); rintro e w2 ⟨rfl, rfl⟩; have bb := B0.out))
                go_ret2
                rw [HF.out]
                exact ⟨rfl, below_step HB.out bb⟩
          · have e110 : ((p[k].toNat : Int) == 110) = false := by rw [hc2]; rfl
            have e120 : ((p[k].toNat : Int) == 120) = true := by simpa using hc2
            by_cases hk1 : tk = 1
            · subst hk1
              cases hna : nameR tx with
              | true =>
                have HA := Lib.hid (HNX.out (some ⟨0, 0, tx⟩) (mt_l hc2 rfl hna))
                rw [hna] at HNA
                clear hc hc2
                go_wp2_with (first
                  | (go_at_call 33; (with_reducible refine (HNA.out _).mono ?_); rintro e w1 ⟨rfl, hb1⟩; obtain ⟨d0, d1, d2⟩ := box3 hb1; have bb := below_step B0.out hb1)
                  | (at_builtin; refine wpList_append_own _ rfl _ _ 47 rfl w.heap.size 51 i0 _ 3 32 Tryd.underlying47 hi hz0 hz1 hz2 rfl (by decide) _ _ _ rfl ((own_below HO.out bb).alloc _) ⟨_, 0, none⟩ 1 1 (argV ⟨0, 0, tx⟩) rfl rfl (new_cellsA _ _ _) (one_arg _) (by unfold maxLen; omega) (by omega) (by have q1 := HB.out.size; have q2 := bb.size; simp; omega) ?_))
                intro v' w9 hown3 hgrow _
                have HO4 := Lib.hid (show w9.ownsRow w.heap.size 51 3 v' (L ++ [(⟨0, 0, tx⟩ : Arg)]).length (flatA (L ++ [(⟨0, 0, tx⟩ : Arg)])) by rw [flatA_snoc]; simpa using hown3)
                have HB5 := Lib.hid (below_step HB.out bb)
                have HB4 := Lib.hid (show Below w.heap.size w w9 from (HB5.out.alloc HB5.out.size _).grown hgrow (by have q1 := HB5.out.size; have q2 := HB.out.size; simp; omega) (fun k hk => ((own_below HO.out bb).lt k hk).1))
                clear hown3 hgrow
                go_wp2
                go_roundw
                case rel => exact ⟨k + 1, L ++ [(⟨0, 0, tx⟩ : Arg)], by omega, by go_num, by rw [List.length_append, List.length_singleton]; omega, HO4.out, HB4.out, HA⟩
                case measure => simp [intOf]; omega
              | false =>
                rw [hna] at HNA
                have hcc : Hid ((p[k].toNat : Int) = 110 ∨ (p[k].toNat : Int) = 120) := Lib.hid (Or.inr hc2)
                have hno : Hid (¬ ((p[k].toNat : Int) = 120 ∧ (1 : Int) = 1 ∧ nameR tx = true)) := Lib.hid (by rw [hna]; rintro ⟨_, _, h⟩; cases h)
                clear hc hc2
                cases hr : numL tx with
                | none =>
                  have HF := Lib.hid (HBD.out (by rw [mt_n hcc.out hno.out]; simp only [hr]))
                  rw [hr] at HNU
                  clear hcc hno
                  go_wp2_with (first
                    | (go_at_call 33; (with_reducible refine (HNA.out _).mono ?_); rintro e w1 ⟨rfl, hb1⟩; obtain ⟨d0, d1, d2⟩ := box3 hb1; have bb := below_step B0.out hb1)
                                    | (go_at_call 51; (with_reducible refine (HNU.out _).mono ?_); rintro e w2 ⟨⟨v2, rfl⟩, rfl⟩))
                  go_ret2
                  rw [HF.out]
                  exact ⟨rfl, below_step HB.out bb⟩
                | some n =>
                  rw [hr] at HNU
                  have hnb := numL_bd hr
                  have HF := Lib.hid (HBD.out (by rw [mt_n hcc.out hno.out]; simp only [hr]; exact if_neg (by decide)))
                  clear hcc hno hr
                  go_wp2_with (first
                    | (go_at_call 33; (with_reducible refine (HNA.out _).mono ?_); rintro e w1 ⟨rfl, hb1⟩; obtain ⟨d0, d1, d2⟩ := box3 hb1; have bb := below_step B0.out hb1)
                                  | (go_at_call 51; (with_reducible refine (HNU.out _).mono ?_); rintro e w2 ⟨rfl, rfl⟩))
                  go_ret2
                  rw [HF.out]
                  exact ⟨rfl, below_step HB.out bb⟩
            · have hcc : Hid ((p[k].toNat : Int) = 110 ∨ (p[k].toNat : Int) = 120) := Lib.hid (Or.inr hc2)
              have hno : Hid (¬ ((p[k].toNat : Int) = 120 ∧ tk = 1 ∧ nameR tx = true)) := Lib.hid (fun h => hk1 h.2.1)
              have b1 : (tk == 1) = false := by simpa using hk1
              clear hc hc2 hk1
              cases hr : numL tx with
              | none =>
                have HF := Lib.hid (HBD.out (by rw [mt_n hcc.out hno.out]; simp only [hr]))
                rw [hr] at HNU
                clear hcc hno
                by_cases hkk : tk = 2
                · subst hkk
                  go_wp2_with (first
                    | (go_at_call 51; (with_reducible refine (HNU.out _).mono ?_); rintro e w2 ⟨⟨v2, rfl⟩, rfl⟩; have bb := B0.out))
                  go_ret2
                  rw [HF.out]
                  exact ⟨rfl, below_step HB.out bb⟩
                · have bk : (tk == 2) = false := by simpa using hkk
                  go_wp2_with (first
                    | (go_at_call 51; (with_reducible refine (HNU.out _).mono ?_); rintro e w2 ⟨⟨v2, rfl⟩, rfl⟩; have bb := B0.out))
                  go_ret2
                  rw [HF.out]
                  exact ⟨rfl, below_step HB.out bb⟩
              | some n =>
                rw [hr] at HNU
                have hnb := numL_bd hr
                by_cases hk2 : tk = 2
                · subst hk2
                  have HA := Lib.hid (HNX.out (some ⟨0, n, []⟩) (by rw [mt_n hcc.out hno.out]; simp only [hr]; rfl))
                  clear hcc hno hr
                  go_wp2_with (first
                    | (go_at_call 51; (with_reducible refine (HNU.out _).mono ?_); rintro e w2 ⟨rfl, rfl⟩; have bb := B0.out)
                    | (at_builtin; refine wpList_append_own _ rfl _ _ 47 rfl w.heap.size 51 i0 _ 3 32 Tryd.underlying47 hi hz0 hz1 hz2 rfl (by decide) _ _ _ rfl ((own_below HO.out bb).alloc _) ⟨_, 0, none⟩ 1 1 (argV ⟨0, n, []⟩) rfl rfl (new_cellsB _ _ _ _ (by simp)) (one_arg _) (by unfold maxLen; omega) (by omega) (by have q1 := HB.out.size; have q2 := bb.size; simp; omega) ?_))
                  intro v' w9 hown3 hgrow _
                  have HO4 := Lib.hid (show w9.ownsRow w.heap.size 51 3 v' (L ++ [(⟨0, n, []⟩ : Arg)]).length (flatA (L ++ [(⟨0, n, []⟩ : Arg)])) by rw [flatA_snoc]; simpa using hown3)
                  have HB5 := Lib.hid (below_step HB.out bb)
                  have HB4 := Lib.hid (show Below w.heap.size w w9 from (HB5.out.alloc HB5.out.size _).grown hgrow (by have q1 := HB5.out.size; have q2 := HB.out.size; simp; omega) (fun k hk => ((own_below HO.out bb).lt k hk).1))
                  clear hown3 hgrow
                  go_wp2
                  go_roundw
                  case rel => exact ⟨k + 1, L ++ [(⟨0, n, []⟩ : Arg)], by omega, by go_num, by rw [List.length_append, List.length_singleton]; omega, HO4.out, HB4.out, HA⟩
                  case measure => simp [intOf]; omega
                · have HF := Lib.hid (HBD.out (by rw [mt_n hcc.out hno.out]; simp only [hr]; exact if_neg hk2))
                  have b2 : (tk == 2) = false := by simpa using hk2
                  clear hcc hno hr
                  go_wp2_with (first
                    | (go_at_call 51; (with_reducible refine (HNU.out _).mono ?_); rintro e w2 ⟨rfl, rfl⟩; have bb := B0.out))
                  go_ret2
                  rw [HF.out]
                  exact ⟨rfl, below_step HB.out bb⟩
        · have h110 : ¬ (p[k].toNat : Int) = 110 := fun h => hc2 (Or.inl h)
          have h120 : ¬ (p[k].toNat : Int) = 120 := fun h => hc2 (Or.inr h)
          have e110 : ((p[k].toNat : Int) == 110) = false := by simpa using h110
          have e120 : ((p[k].toNat : Int) == 120) = false := by simpa using h120
          have hst := Lib.hid (mt_s (c := p[k]) (t := ⟨tk, tx, tg⟩) hc h110 h120)
          have hsl := slice_mid p k (k + 1) (by omega) (by omega)
          have hk1 : (((k + 1 : Nat)) : Int) = (k : Int) + 1 := by omega
          rw [hk1] at hsl
          have hpc : piece p.data.toList k (k + 1) = [p[k]] := by rw [piece_one _ _ _ (Nat.le_refl _) (by rw [len_size]; exact hlt), piece_self, getL p k hlt]; rfl
          rw [hpc] at hsl
          have hwr1 : IntKind.i64.wrap ((k : Int) + 1) = (k : Int) + 1 := by rw [IntKind.wrap_i64]; omega
          clear hc hc2 h110 h120 hk1
          by_cases hk3 : tk = 3
          · subst hk3
            have b3 : ((S tx).toList == (S [p[k]]).toList) = decide (tx = [p[k]]) := by
              rw [toL, toL, S_list, S_list]
              by_cases h : tx = [p[k]]
              · rw [h]; simp
              · rw [decide_eq_false h]; simpa using h
            by_cases ht : tx = [p[k]]
            · have HA := Lib.hid (HNX.out none (by rw [hst.out]; exact if_pos ⟨rfl, ht⟩))
              rw [decide_eq_true ht] at b3
              clear ht hst
              have bb := B0.out
              go_wp2
              go_quiet (fail)
              go_wp2
              go_roundw
              case rel => exact ⟨k + 1, L, by omega, by go_num, by omega, own_below HO.out (below_drewN bb _), below_drewN (below_step HB.out bb) _, by simpa using HA⟩
              case measure => simp [intOf]; omega
            · have HF := Lib.hid (HBD.out (by rw [hst.out]; exact if_neg (fun h => ht h.2)))
              rw [decide_eq_false ht] at b3
              clear ht hst
              have bb := B0.out
              go_wp2
              go_quiet (fail)
              go_wp2
              go_ret2
              rw [HF.out]
              exact ⟨rfl, below_drewN (below_step HB.out bb) _⟩
          · have HF := Lib.hid (HBD.out (by rw [hst.out]; exact if_neg (fun h => hk3 h.1)))
            have b3 : (tk == 3) = false := by simpa using hk3
            clear hst
            have bb := B0.out
            go_wp2
            go_quiet (fail)
            go_wp2
            go_ret2
            rw [HF.out]
            exact ⟨rfl, below_drewN (below_step HB.out bb) _⟩
    · obtain rfl : k = p.size := by omega
      have HE := Lib.hid (mtat_end hat.out (by rw [HNN.out]; exact Nat.le_refl _))
      go_wp2
      go_ret2
      rw [HE.out]
      exact ⟨⟨_, rfl, HO.out⟩, HB.out⟩
end Go.Proofs.YthghbcjaokpilaaDoor
