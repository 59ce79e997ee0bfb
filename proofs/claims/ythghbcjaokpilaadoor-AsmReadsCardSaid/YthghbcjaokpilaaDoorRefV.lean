import Derived.Test.YthghbcjaokpilaaDoorRefGd
import Derived.Test.YthghbcjaokpilaaDoorAsmGa
namespace Go.Proofs.YthghbcjaokpilaaDoor
set_option linter.unusedVariables false
set_option linter.unusedSimpArgs false
open Go.ChangeShapes Go.WideShapes Go.ChangeAt Go.RowKit Go.Proofs.YthghbcjaokpilaaDoor.Num Go.Proofs.YthghbcjaokpilaaDoor.Isa Go.Proofs.YthghbcjaokpilaaDoor.Mem Go.Proofs.YthghbcjaokpilaaDoor.Asm
/- The reference's lines; the address of a label. -/
def linGo (p : Bs) : Bs → List Bs
  | [] => if p = [] then [] else [p]
  | c :: l => if c = 10 then p :: linGo [] l else linGo (p ++ [c]) l
def linR (l : Bs) : List Bs := linGo [] l
theorem lin_same : ∀ (l p : Bs), lineGo p l = linGo p l ∨ lineGo p l = linGo p l ++ [[]]
  | [], p => by
    unfold lineGo linGo
    split
    · rename_i h; subst h; exact .inr rfl
    · exact .inl rfl
  | c :: l, p => by
    unfold lineGo linGo
    split
    · rcases lin_same l [] with h | h
      · exact .inl (by rw [h])
      · exact .inr (by rw [h]; rfl)
    · exact lin_same l _
def LinPost (l : List Bs) (w : World) (e : Ending) (w' : World) : Prop := (∃ v, e = .returned v ∧ w'.ownsRow w.heap.size 9 1 v l.length (l.map strV)) ∧ Below w.heap.size w w'
def LinRel (s : ByteArray) (w : World) (v st i : Value) (wr : World) : Prop :=
  ∃ (pos start : Nat) (acc : List Bs), start ≤ pos ∧ pos ≤ s.size ∧ i = .int .i64 pos ∧ st = .int .i64 start ∧ acc.length ≤ pos ∧ acc ++ linGo (piece s.data.toList start pos) (s.data.toList.drop pos) = linR s.data.toList ∧
    wr.ownsRow w.heap.size 9 1 v acc.length (acc.map strV) ∧ Below w.heap.size w wr
set_option maxRecDepth 100000 in
set_option maxHeartbeats 2000000 in
theorem lines_ref (s : ByteArray) (w : World) (hs : s.size ≤ 100000) : Calls Tryd.prog 23 #[.string s] w (LinPost (linR s.data.toList) w) := by
  obtain ⟨i0, hi, hz0, hz1, hz2⟩ := info_parts info_str
  go_enter Tryd.func23, Tryd.ntmps23
  go_wp2
  go_loopw [3, 4, 5] (fun v st i wr => LinRel s w v st i wr) (fun _ _ i _ => s.size - (intOf i).toNat)
  case atStart => exact ⟨0, 0, [], by omega, by omega, rfl, rfl, by simp, by simp [piece, linR], World.ownsRow_nil _ _ _ _, Below.refl _ _⟩
  case round =>
    obtain ⟨pos, start, acc, h1, h2, rfl, rfl, h3, hE, hown, hbw⟩ := hrel
    have HE := Lib.hid hE
    have hws := hbw.size
    clear hE
    by_cases hp : pos < s.size
    · have hpI : (pos : Int) < s.size := by omega
      by_cases hc : s[pos].toNat = 10
      · have hcI : ((s[pos].toNat : Int) == 10) = true := by rw [hc]; rfl
        have hsl := fun W => slice_mid s start pos h1 h2 W
        go_wp2_with (at_builtin; refine wpList_append_own _ rfl _ _ 40 rfl (w.heap.size) 9 i0 (.string { data := #[] }) 1 16 Tryd.underlying40 hi hz0 hz1 hz2 rfl (by decide) _ _ _ rfl (hown.alloc _) ⟨_, 0, none⟩ 1 1 [.string (S (piece s.data.toList start pos))] rfl rfl (new_cell _ _ _) (one_str _) (by unfold maxLen; omega) (by omega) (by simp; omega) ?_)
        intro v' w1 hown3 hgrow _
        have hown4 := snoc_row hown3 rfl
        have hb1 : Below w.heap.size w w1 := (hbw.alloc hws _).grown hgrow (by simp; omega) (fun k hk => (hown.lt k hk).1)
        clear hown3 hgrow hsl hown
        go_wp2
        go_roundw
        case rel => exact ⟨pos + 1, pos + 1, _, by omega, by omega, by go_num, by go_num, by simp; omega, by
          rw [← HE.out, drop_get hp, piece_self]
          simp [linGo, show s[pos] = 10 from UInt8.toNat_inj.1 hc], hown4, hb1⟩
        case measure => simp [intOf]; omega
      · have hcI : ((s[pos].toNat : Int) == 10) = false := by
          have : ¬ (s[pos].toNat : Int) = 10 := by omega
          simpa using this
        have hc' : ¬ s[pos] = 10 := fun e => hc (by rw [e]; rfl)
        have hpc : piece s.data.toList start (pos + 1) = piece s.data.toList start pos ++ [s[pos]] := by rw [piece_add _ _ _ 1 h1, drop_get hp]; rfl
        have HE2 : Hid (acc ++ linGo (piece s.data.toList start (pos + 1)) (s.data.toList.drop (pos + 1)) = linR s.data.toList) := by
          show _ = _
          rw [← HE.out, drop_get hp, hpc]
          conv => rhs; rw [linGo]
          rw [if_neg hc']
        clear hpc HE
        go_wp2
        go_roundw
        case rel => exact ⟨pos + 1, start, acc, by omega, by omega, by go_num, rfl, by omega, HE2.out, hown, hbw⟩
        case measure => simp [intOf]; omega
    · have hpI : ¬ (pos : Int) < s.size := by omega
      obtain rfl : pos = s.size := by omega
      have hd : s.data.toList.drop s.size = [] := List.drop_of_length_le (by rw [len_size]; exact Nat.le_refl _)
      by_cases hst : start < s.size
      · have hsI : (start : Int) < s.size := by omega
        have hsl := fun W => slice_end s start (by omega) W
        go_wp2_with (at_builtin; refine wpList_append_own _ rfl _ _ 40 rfl (w.heap.size) 9 i0 (.string { data := #[] }) 1 16 Tryd.underlying40 hi hz0 hz1 hz2 rfl (by decide) _ _ _ rfl (hown.alloc _) ⟨_, 0, none⟩ 1 1 [.string (S (piece s.data.toList start s.size))] rfl rfl (new_cell _ _ _) (one_str _) (by unfold maxLen; omega) (by omega) (by simp; omega) ?_)
        intro v' w1 hown3 hgrow _
        have hown4 := snoc_row hown3 rfl
        have hb1 : Below w.heap.size w w1 := (hbw.alloc hws _).grown hgrow (by simp; omega) (fun k hk => (hown.lt k hk).1)
        have hF : acc ++ [piece s.data.toList start s.size] = linR s.data.toList := by
          rw [← HE.out, hd, linGo, if_neg]
          intro e
          have : (piece s.data.toList start s.size).length = 0 := by rw [e]; rfl
          unfold piece at this
          rw [List.length_take, List.length_drop, len_size] at this
          omega
        rw [hF] at hown4
        have HF := Lib.hid hown4
        clear hown3 hgrow hsl hown4 hown
        go_wp2
        go_ret
        exact ⟨⟨_, rfl, HF.out⟩, hb1⟩
      · have hsI : ¬ (start : Int) < s.size := by omega
        have hF : acc = linR s.data.toList := by
          obtain rfl : start = s.size := by omega
          have := HE.out
          rw [hd, piece_self] at this
          simpa [linGo] using this
        rw [hF] at hown
        have HF := Lib.hid hown
        clear hown hF HE
        go_wp2
        go_ret
        exact ⟨⟨_, rfl, HF.out⟩, hbw⟩
/-- Symbols that a slice reads. -/
def RowS (w : World) (a : Option Addr) (l : List (Bs × Nat)) : Prop := ∀ i (h : i < l.length), ∃ b off, a = some ⟨b, off, none⟩ ∧ w.cell? ⟨b, off + i * 2, none⟩ = some (.string (S l[i].1)) ∧ w.cell? ⟨b, off + i * 2 + 1, none⟩ = some (.int .u32 l[i].2)
theorem lookS_drop {l : List (Bs × Nat)} {t : Bs} {k : Nat} (h : k < l.length) : lookS (l.drop k) t = if l[k].1 = t then some l[k].2 else lookS (l.drop (k + 1)) t := by
  unfold lookS
  rw [List.drop_eq_getElem_cons h, List.find?_cons]
  by_cases e : l[k].1 = t
  · rw [if_pos e]
    have : (l[k].1 == t) = true := by simpa using e
    rw [this]; rfl
  · rw [if_neg e]
    have : (l[k].1 == t) = false := by simpa using e
    rw [this]
theorem str_eq (p t : Bs) : ((S p).toList == (S t).toList) = decide (p = t) := by
  rw [ByteArray.toList_eq, ByteArray.toList_eq, S_list, S_list]
  rw [Bool.eq_iff_iff]; simp
def adrV : Option Nat → Value
  | some n => .tuple #[.int .u32 n, .bool true]
  | none => .tuple #[.int .u32 0, .bool false]
set_option maxHeartbeats 1000000 in
theorem address_ref (a : Option Addr) (n cap : Nat) (l : List (Bs × Nat)) (t : Bs) (w : World) (hn : l.length = n) (hl : n ≤ 100000) (hr : RowS w a l) :
    Calls Tryd.prog 18 #[.slice a n cap, .string (S t)] w fun e w' => e = .returned (adrV (lookS l t)) ∧ w' = w := by
  subst hn
  have HL : Hid (∀ v, v = lookS l t → adrV v = adrV (lookS l t)) := fun v h => by rw [h]
  generalize hG : adrV (lookS l t) = G at *
  replace HL : Hid (∀ v, v = lookS l t → adrV v = G) := HL
  clear hG
  go_enter Tryd.func18, Tryd.ntmps18
  go_wp2
  go_loopw [6] (fun i wr => ∃ k : Nat, k ≤ l.length ∧ i = .int .i64 k ∧ wr = w ∧ Hid (lookS l t = lookS (l.drop k) t)) (fun i _ => l.length - (intOf i).toNat)
  case atStart => exact ⟨0, Nat.zero_le _, rfl, rfl, Lib.hid rfl⟩
  case round =>
    obtain ⟨k, hk, rfl, rfl, hE⟩ := hrel
    by_cases hlt : k < l.length
    · obtain ⟨b, off, rfl, c0, c1⟩ := hr k hlt
      have hkI : (k : Int) < l.length := by omega
      have hd := lookS_drop (t := t) hlt
      by_cases he : l[k].1 = t
      · rw [if_pos he] at hd
        have HV := Lib.hid (HL.out (some l[k].2) (hE.out.trans hd).symm)
        have e1 := str_eq l[k].1 t
        rw [decide_eq_true he] at e1
        clear hd he hr
        generalize l[k].2 = q at *
        generalize l[k].1 = p at *
        go_wp2
        go_ret2
        exact ⟨by rw [← HV.out]; rfl, rfl⟩
      · rw [if_neg he] at hd
        have HN := Lib.hid (hE.out.trans hd)
        have e1 := str_eq l[k].1 t
        rw [decide_eq_false he] at e1
        clear hd he
        generalize l[k].2 = q at *
        generalize l[k].1 = p at *
        go_wp2
        go_roundw
        case rel => exact ⟨k + 1, by omega, by go_num, trivial, HN⟩
        case measure => simp [intOf]; omega
    · have hkI : ¬ (k : Int) < l.length := by omega
      have HV := Lib.hid (HL.out none (by rw [hE.out, List.drop_of_length_le (by omega)]; rfl))
      clear hr
      go_wp2
      go_ret2
      exact ⟨by rw [← HV.out]; rfl, rfl⟩
end Go.Proofs.YthghbcjaokpilaaDoor
