import Derived.Test.YthghbcjaokpilaaDoorRefGc
import Derived.Test.YthghbcjaokpilaaDoorExit
import Derived.RegionTactic
import Derived.BigRegion
import Derived.Deep.DeepCutAuto
namespace Go.Proofs.YthghbcjaokpilaaDoor
set_option linter.unusedVariables false
set_option linter.unusedSimpArgs false
open Go.ChangeShapes Go.WideShapes Go.ChangeAt Go.RowKit Go.Proofs.YthghbcjaokpilaaDoor.Num Go.Proofs.YthghbcjaokpilaaDoor.Isa Go.Proofs.YthghbcjaokpilaaDoor.Mem Go.Proofs.YthghbcjaokpilaaDoor.Asm
/-- What stands behind the first statement of a sequence. -/
def codeTl : Code → Code
  | .seq _ b => b
  | c => c
def codeTls : Nat → Code → Code
  | 0, c => c
  | n + 1, c => codeTls n (codeTl c)
theorem own_drewP {w : World} {base size n : Nat} {e : TypeId} {v : Value} {xs : List Value} (h : w.ownsRow base e size v n xs) : w.drew.ownsRow base e size v n xs := h
theorem par_some {lab : Bs} {st : StR} {v : Value} {w w' : World} (h : w'.ownsRow w.heap.size 51 3 v st.l.length (flatA st.l)) (b : Below w.heap.size w w') : ParPost (some (lab, some st)) w (.returned (.tuple #[.string (S lab), stV st v, .bool true])) w' := ⟨⟨v, rfl, h⟩, b⟩
noncomputable def parCode (n : Nat) : Code := codeTls n (Tryd.f24.body.getD .skip)
set_option maxHeartbeats 0 in
set_option maxRecDepth 100000 in
theorem parsed_25 (R : Option (Bs × Option StR)) (w wc : World) (lab wt p : Bs) (T : List Tk) (rs : List Tk) (oa3 : Option Addr) (m3 cap3 : Nat) (u0 u1 u2 u4 u5 u6 u7 u12 u13 u14 u15 u16 u17 u18 u19 u20 u21 u22 u23 u24 u25 u26 u27 u28 u29 u30 u31 u32 u33 u34 u35 u36 u37 u38 u39 u40 u41 u42 u43 u44 u45 u46 u47 u48 u49 u50 u51 u52 u53 u54 u55 u56 u57 u58 u59 u60 u61 u62 u63 u64 u65 u66 u67 u68 u69 u70 u71 u72 u73 u74 u75 u76 u77 u78 u79 u80 u81 u82 u83 u84 u85 u86 u87 u88 u89 u90 u91 u92 u93 u94 u95 u96 u97 u98 u99 u100 u101 u102 u103 u104 u105 u106 u107 u108 u109 u110 u111 u112 u113 u114 u115 u116 u117 u118 u119 u120 u121 u122 u123 u124 u125 u126 u127 u128 u129 u130 u131 u132 u133 u134 u135 u136 u137 u138 u139 u140 u141 u142 u143 u144 u145 u146 u147 u148 u149 u150 u151 u152 u153 : Value)
    (HEND : Hid (R = endR (lab, T))) (hT : Hid (T ≠ [])) (hwt : Hid (whatR T = (wt, rs))) (HP : Hid (patR wt = some p)) (hpl : p.length ≤ 6) (HG : Hid (gapB rs = true)) (hm3 : Hid (rs.length = m3)) (hc3 : m3 ≤ cap3)
    (HTR : Hid (∀ t, t ∈ rs → List.length t.text ≤ 100000)) (HR4 : Hid (RowT wc oa3 rs)) (HBN : Hid (Box w wc)) :
    Code.wp Tryd.prog (parCode 12) (bodyPost Tryd.prog Tryd.f24 (ParPost R w)) ⟨#[u0, u1, u2, .pointer (some ⟨w.heap.size, 0, none⟩), u4, u5, u6, u7, .string (S lab), .string (S wt), .slice oa3 m3 cap3, .string (S p), u12, u13, u14, u15, u16, u17, u18, u19, u20, u21, u22, u23, u24, u25, u26, u27, u28, u29, u30, u31, u32, u33, u34, u35, u36, u37, u38, u39, u40, u41, u42, u43, u44, u45, u46, u47, u48, u49, u50, u51, u52, u53, u54, u55, u56, u57, u58, u59, u60, u61, u62, u63, u64, u65, u66, u67, u68, u69, u70, u71, u72, u73, u74, u75, u76, u77, u78, u79, u80, u81, u82, u83, u84, u85, u86, u87, u88, u89, u90, u91, u92, u93, u94, u95, u96, u97, u98, u99, u100, u101, u102, u103, u104, u105, u106, u107, u108, u109, u110, u111, u112, u113, u114, u115, u116, u117, u118, u119, u120, u121, u122, u123, u124, u125, u126, u127, u128, u129, u130, u131, u132, u133, u134, u135, u136, u137, u138, u139, u140, u141, u142, u143, u144, u145, u146, u147, u148, u149, u150, u151, u152, u153], []⟩ wc := by
  have HOP := Lib.hid (fun W => operation_ref (S wt) W)
  rw [S_list] at HOP
  obtain ⟨⟨x0, x1, x2, x3, x4, x5⟩, zz⟩ := HBN.out.cells
  conv => arg 2; whnf
  have HMT := Lib.hid (fun W oa cap hr => matched_row rs p m3 hm3.out HTR.out hpl W oa cap hr)
  cases hma : mtL rs p with
  | none =>
    have HRN := Lib.hid (HEND.out.trans (end_m0 hT.out hwt.out HP.out HG.out hma))
    rw [hma] at HMT
    replace HMT := Lib.hid (fun W oa cap hr => (HMT.out W oa cap hr).mono (R' := fun e w' => e = .returned (.tuple #[.slice none 0 0, .bool false]) ∧ Below W.heap.size W w') fun _ _ h => h)
    have HB3 := HBN
    clear hma HOP HBN x0 x1 x2 x3 x4 x5 zz
    go_wp2_with (go_at_call 35; (with_reducible refine (HMT.out _ _ _ HR4.out).mono ?_); rintro e w4 ⟨rfl, hb4⟩; have HBN := Lib.hid (HB3.out.on hb4); obtain ⟨⟨x0, x1, x2, x3, x4, x5⟩, zz⟩ := HBN.out.cells)
    refine bodyPost_ret (v := .tuple #[.string { data := #[] }, zeroSt, .bool false]) ?_ rfl ?_
    · unfold zeroSt; rw [results_scs rfl]; go_simp
    · have hRn : R = none := HRN.out
      subst hRn
      exact ⟨rfl, set6 HBN.out.bel _ _ _ _ _ _⟩
  | some a =>
    have HMA := Lib.hid hma
    rw [hma] at HMT
    replace HMT := Lib.hid (fun W oa cap hr => (HMT.out W oa cap hr).mono (R' := fun e w' => (∃ v, e = .returned (.tuple #[v, .bool true]) ∧ w'.ownsRow W.heap.size 51 3 v a.length (flatA a)) ∧ Below W.heap.size W w') fun _ _ h => h)
    have HB3 := HBN
    have hR0 : Hid (∀ z, sizeR wt a = some z → R = some (lab, some ⟨wt, opR wt, a, z⟩)) := fun z hz => HEND.out.trans (end_z hT.out hwt.out HP.out HG.out HMA.out hz)
    have hR1 : Hid (sizeR wt a = none → R = none) := fun hz => HEND.out.trans (end_z0 hT.out hwt.out HP.out HG.out HMA.out hz)
    clear HBN x0 x1 x2 x3 x4 x5 zz
    by_cases hli : wt = wLi
    · have q1 : ((S wt).toList == [108, 105]) = true := by rw [lit_eq]; exact decide_eq_true hli
      have HRN := Lib.hid (hR0.out 2 (by unfold sizeR; rw [if_pos hli]))
      clear hma hli hR0 hR1
      go_wp2_with (first
        | (go_at_call 35; (with_reducible refine (HMT.out _ _ _ HR4.out).mono ?_); rintro e w4 ⟨⟨v, rfl, hv4⟩, hb4⟩; have HB4 := Lib.hid (HB3.out.on hb4); have HV4 := Lib.hid hv4; obtain ⟨ov, cv, rfl⟩ := own_shape hv4; clear hv4)
        | (go_at_call 36; (with_reducible refine (HOP.out _).mono ?_); rintro e w5 ⟨rfl, hb5⟩; have HBN := Lib.hid (HB4.out.on hb5); have zc := fun o => (HBN.out.on ((Below.refl _ w5).alloc (Nat.le_refl _) o)).cells; have y0 := fun o => (zc o).1.1; have y1 := fun o => (zc o).1.2.1; have y2 := fun o => (zc o).1.2.2.1; have y3 := fun o => (zc o).1.2.2.2.1; have y4 := fun o => (zc o).1.2.2.2.2.1; have y5 := fun o => (zc o).1.2.2.2.2.2; have zy := fun o i => (zc o).2 i; clear zc; refine Hid.out ?_))
      refine Lib.hid ?_
      (repeat' (first | (with_reducible refine then_normal ?_) | (with_reducible refine wp_exit ?_) | (with_reducible refine wp_ret ?_) | (with_reducible refine then_exit ?_) | (with_reducible refine blk_hit ?_) | (with_reducible refine blk_pass (by decide) ?_) | (with_reducible refine then_ret ?_) | (with_reducible refine blk_ret ?_) | (with_reducible refine blk_normal ?_) | go_values | go_skip | go_guarded | go_step | go_upon | (simp only [Int.not_lt, Int.not_le] at *; go_simp) | (go_values <;> (try go_simp)) | (go_ite <;> go_prune <;> (try go_simp))))
      go_region
      rename_i hK
      refine hK _ _ (wp_ret ?_)
      clear hK
      refine bodyPost_ret (v := .tuple #[.string (S lab), stV ⟨wt, opR wt, a, 2⟩ (.slice ov a.length cv), .bool true]) ?_ rfl ?_
      · unfold stV; rw [results_scs rfl]; go_simp
      · have hRn := HRN.out
        subst hRn
        with_reducible exact par_some (own_drewP (own_set6 (World.ownsRow.alloc (own_below HV4.out hb5) _) HB3.out.lt _ _ _ _ _ _)) (set6 (HBN.out.bel.alloc HBN.out.bel.size _) _ _ _ _ _ _).drew
    · have q1 : ((S wt).toList == [108, 105]) = false := by rw [lit_eq]; exact decide_eq_false hli
      by_cases hsp : wt = wSpace
      · have q2 : ((S wt).toList == [46, 115, 112, 97, 99, 101]) = true := by rw [lit_eq]; exact decide_eq_true hsp
        have hp2 : p = [110] := by
          have := HP.out
          rw [hsp] at this
          exact (Option.some.inj this).symm
        subst hp2
        obtain ⟨z, rfl, hz0, hz1⟩ := mt_space hma
        clear hma
        by_cases hlo : z < 0
        · have HRN := Lib.hid (hR1.out (by unfold sizeR; rw [if_neg hli, if_pos hsp]; exact if_pos (Or.inl hlo)))
          clear hli hsp hR0 hR1
          go_wp2_with (first
            | (go_at_call 35; (with_reducible refine (HMT.out _ _ _ HR4.out).mono ?_); rintro e w4 ⟨⟨v, rfl, hv4⟩, hb4⟩; have HB4 := Lib.hid (HB3.out.on hb4); obtain ⟨gv, cv, rfl, hgv, s1⟩ := arg_own hv4; clear hv4)
            | (go_at_call 36; (with_reducible refine (HOP.out _).mono ?_); rintro e w5 ⟨rfl, hb5⟩; have HBN := Lib.hid (HB4.out.on hb5); have zc := fun o => (HBN.out.on ((Below.refl _ w5).alloc (Nat.le_refl _) o)).cells; have y0 := fun o => (zc o).1.1; have y1 := fun o => (zc o).1.2.1; have y2 := fun o => (zc o).1.2.2.1; have y3 := fun o => (zc o).1.2.2.2.1; have y4 := fun o => (zc o).1.2.2.2.2.1; have y5 := fun o => (zc o).1.2.2.2.2.2; have zy := fun o i => (zc o).2 i; clear zc; have s2 := fun o => still (still s1 hb5) ((Below.refl _ w5).alloc (Nat.le_refl _) o); refine Hid.out ?_))
          refine Lib.hid ?_
          (repeat' (first | (with_reducible refine then_normal ?_) | (with_reducible refine wp_exit ?_) | (with_reducible refine wp_ret ?_) | (with_reducible refine then_exit ?_) | (with_reducible refine blk_hit ?_) | (with_reducible refine blk_pass (by decide) ?_) | (with_reducible refine then_ret ?_) | (with_reducible refine blk_ret ?_) | (with_reducible refine blk_normal ?_) | go_values | go_skip | go_guarded | go_step | go_upon | (simp only [Int.not_lt, Int.not_le] at *; go_simp) | (go_values <;> (try go_simp)) | (go_ite <;> go_prune <;> (try go_simp))))
          refine bodyPost_ret (v := .tuple #[.string { data := #[] }, zeroSt, .bool false]) ?_ rfl ?_
          · unfold zeroSt; rw [results_scs rfl]; go_simp
          · have hRn : R = none := HRN.out
            subst hRn
            exact ⟨rfl, set6 (HBN.out.bel.alloc HBN.out.bel.size _) _ _ _ _ _ _⟩
        · by_cases hhi : 1024 < z
          · have HRN := Lib.hid (hR1.out (by unfold sizeR; rw [if_neg hli, if_pos hsp]; exact if_pos (Or.inr hhi)))
            clear hli hsp hR0 hR1
            go_wp2_with (first
              | (go_at_call 35; (with_reducible refine (HMT.out _ _ _ HR4.out).mono ?_); rintro e w4 ⟨⟨v, rfl, hv4⟩, hb4⟩; have HB4 := Lib.hid (HB3.out.on hb4); obtain ⟨gv, cv, rfl, hgv, s1⟩ := arg_own hv4; clear hv4)
              | (go_at_call 36; (with_reducible refine (HOP.out _).mono ?_); rintro e w5 ⟨rfl, hb5⟩; have HBN := Lib.hid (HB4.out.on hb5); have zc := fun o => (HBN.out.on ((Below.refl _ w5).alloc (Nat.le_refl _) o)).cells; have y0 := fun o => (zc o).1.1; have y1 := fun o => (zc o).1.2.1; have y2 := fun o => (zc o).1.2.2.1; have y3 := fun o => (zc o).1.2.2.2.1; have y4 := fun o => (zc o).1.2.2.2.2.1; have y5 := fun o => (zc o).1.2.2.2.2.2; have zy := fun o i => (zc o).2 i; clear zc; have s2 := fun o => still (still s1 hb5) ((Below.refl _ w5).alloc (Nat.le_refl _) o); refine Hid.out ?_))
            refine Lib.hid ?_
            (repeat' (first | (with_reducible refine then_normal ?_) | (with_reducible refine wp_exit ?_) | (with_reducible refine wp_ret ?_) | (with_reducible refine then_exit ?_) | (with_reducible refine blk_hit ?_) | (with_reducible refine blk_pass (by decide) ?_) | (with_reducible refine then_ret ?_) | (with_reducible refine blk_ret ?_) | (with_reducible refine blk_normal ?_) | go_values | go_skip | go_guarded | go_step | go_upon | (simp only [Int.not_lt, Int.not_le] at *; go_simp) | (go_values <;> (try go_simp)) | (go_ite <;> go_prune <;> (try go_simp))))
            refine bodyPost_ret (v := .tuple #[.string { data := #[] }, zeroSt, .bool false]) ?_ rfl ?_
            · unfold zeroSt; rw [results_scs rfl]; go_simp
            · have hRn : R = none := HRN.out
              subst hRn
              exact ⟨rfl, set6 (HBN.out.bel.alloc HBN.out.bel.size _) _ _ _ _ _ _⟩
          · have HRN := Lib.hid (hR0.out z (by unfold sizeR; rw [if_neg hli, if_pos hsp]; exact if_neg (fun h => h.elim hlo hhi)))
            clear hli hsp hR0 hR1
            go_wp2_with (first
              | (go_at_call 35; (with_reducible refine (HMT.out _ _ _ HR4.out).mono ?_); rintro e w4 ⟨⟨v, rfl, hv4⟩, hb4⟩; have HB4 := Lib.hid (HB3.out.on hb4); have HV4 := Lib.hid hv4; obtain ⟨gv, cv, rfl, hgv, s1⟩ := arg_own hv4; clear hv4)
              | (go_at_call 36; (with_reducible refine (HOP.out _).mono ?_); rintro e w5 ⟨rfl, hb5⟩; have HBN := Lib.hid (HB4.out.on hb5); have zc := fun o => (HBN.out.on ((Below.refl _ w5).alloc (Nat.le_refl _) o)).cells; have y0 := fun o => (zc o).1.1; have y1 := fun o => (zc o).1.2.1; have y2 := fun o => (zc o).1.2.2.1; have y3 := fun o => (zc o).1.2.2.2.1; have y4 := fun o => (zc o).1.2.2.2.2.1; have y5 := fun o => (zc o).1.2.2.2.2.2; have zy := fun o i => (zc o).2 i; clear zc; have s2 := fun o => still (still s1 hb5) ((Below.refl _ w5).alloc (Nat.le_refl _) o); refine Hid.out ?_))
            refine Lib.hid ?_
            (repeat' (first | (with_reducible refine then_normal ?_) | (with_reducible refine wp_exit ?_) | (with_reducible refine wp_ret ?_) | (with_reducible refine then_exit ?_) | (with_reducible refine blk_hit ?_) | (with_reducible refine blk_pass (by decide) ?_) | (with_reducible refine then_ret ?_) | (with_reducible refine blk_ret ?_) | (with_reducible refine blk_normal ?_) | go_values | go_skip | go_guarded | go_step | go_upon | (simp only [Int.not_lt, Int.not_le] at *; go_simp) | (go_values <;> (try go_simp)) | (go_ite <;> go_prune <;> (try go_simp))))
            go_region
            rename_i hK
            refine hK _ _ (wp_ret ?_)
            clear hK
            refine bodyPost_ret (v := .tuple #[.string (S lab), stV ⟨wt, opR wt, [⟨0, z, []⟩], z⟩ (.slice (some ⟨gv, 0, none⟩) 1 cv), .bool true]) ?_ rfl ?_
            · unfold stV; rw [results_scs rfl]; go_simp
            · have hRn := HRN.out
              subst hRn
              with_reducible exact par_some (own_drewP (own_set6 (World.ownsRow.alloc (own_below HV4.out hb5) _) HB3.out.lt _ _ _ _ _ _)) (set6 (HBN.out.bel.alloc HBN.out.bel.size _) _ _ _ _ _ _).drew
      · have q2 : ((S wt).toList == [46, 115, 112, 97, 99, 101]) = false := by rw [lit_eq]; exact decide_eq_false hsp
        have HRN := Lib.hid (hR0.out 1 (by unfold sizeR; rw [if_neg hli, if_neg hsp]))
        clear hma hli hsp hR0 hR1
        go_wp2_with (first
          | (go_at_call 35; (with_reducible refine (HMT.out _ _ _ HR4.out).mono ?_); rintro e w4 ⟨⟨v, rfl, hv4⟩, hb4⟩; have HB4 := Lib.hid (HB3.out.on hb4); have HV4 := Lib.hid hv4; obtain ⟨ov, cv, rfl⟩ := own_shape hv4; clear hv4)
          | (go_at_call 36; (with_reducible refine (HOP.out _).mono ?_); rintro e w5 ⟨rfl, hb5⟩; have HBN := Lib.hid (HB4.out.on hb5); have zc := fun o => (HBN.out.on ((Below.refl _ w5).alloc (Nat.le_refl _) o)).cells; have y0 := fun o => (zc o).1.1; have y1 := fun o => (zc o).1.2.1; have y2 := fun o => (zc o).1.2.2.1; have y3 := fun o => (zc o).1.2.2.2.1; have y4 := fun o => (zc o).1.2.2.2.2.1; have y5 := fun o => (zc o).1.2.2.2.2.2; have zy := fun o i => (zc o).2 i; clear zc; refine Hid.out ?_))
        refine Lib.hid ?_
        (repeat' (first | (with_reducible refine then_normal ?_) | (with_reducible refine wp_exit ?_) | (with_reducible refine wp_ret ?_) | (with_reducible refine then_exit ?_) | (with_reducible refine blk_hit ?_) | (with_reducible refine blk_pass (by decide) ?_) | (with_reducible refine then_ret ?_) | (with_reducible refine blk_ret ?_) | (with_reducible refine blk_normal ?_) | go_values | go_skip | go_guarded | go_step | go_upon | (simp only [Int.not_lt, Int.not_le] at *; go_simp) | (go_values <;> (try go_simp)) | (go_ite <;> go_prune <;> (try go_simp))))
        go_region
        rename_i hK
        refine hK _ _ (wp_ret ?_)
        clear hK
        refine bodyPost_ret (v := .tuple #[.string (S lab), stV ⟨wt, opR wt, a, 1⟩ (.slice ov a.length cv), .bool true]) ?_ rfl ?_
        · unfold stV; rw [results_scs rfl]; go_simp
        · have hRn := HRN.out
          subst hRn
          with_reducible exact par_some (own_drewP (own_set6 (World.ownsRow.alloc (own_below HV4.out hb5) _) HB3.out.lt _ _ _ _ _ _)) (set6 (HBN.out.bel.alloc HBN.out.bel.size _) _ _ _ _ _ _).drew
end Go.Proofs.YthghbcjaokpilaaDoor

namespace Go.Proofs.YthghbcjaokpilaaDoor
set_option linter.unusedVariables false
set_option linter.unusedSimpArgs false
open Go.ChangeShapes Go.WideShapes Go.ChangeAt Go.RowKit Go.Proofs.YthghbcjaokpilaaDoor.Num Go.Proofs.YthghbcjaokpilaaDoor.Isa Go.Proofs.YthghbcjaokpilaaDoor.Mem Go.Proofs.YthghbcjaokpilaaDoor.Asm
set_option maxHeartbeats 0 in
set_option maxRecDepth 100000 in
theorem parsed_22 (R : Option (Bs × Option StR)) (w wc : World) (lab wt : Bs) (T : List Tk) (rs : List Tk) (oa3 : Option Addr) (m3 cap3 : Nat) (u0 u1 u2 u4 u5 u6 u7 u11 u12 u13 u14 u15 u16 u17 u18 u19 u20 u21 u22 u23 u24 u25 u26 u27 u28 u29 u30 u31 u32 u33 u34 u35 u36 u37 u38 u39 u40 u41 u42 u43 u44 u45 u46 u47 u48 u49 u50 u51 u52 u53 u54 u55 u56 u57 u58 u59 u60 u61 u62 u63 u64 u65 u66 u67 u68 u69 u70 u71 u72 u73 u74 u75 u76 u77 u78 u79 u80 u81 u82 u83 u84 u85 u86 u87 u88 u89 u90 u91 u92 u93 u94 u95 u96 u97 u98 u99 u100 u101 u102 u103 u104 u105 u106 u107 u108 u109 u110 u111 u112 u113 u114 u115 u116 u117 u118 u119 u120 u121 u122 u123 u124 u125 u126 u127 u128 u129 u130 u131 u132 u133 u134 u135 u136 u137 u138 u139 u140 u141 u142 u143 u144 u145 u146 u147 u148 u149 u150 u151 u152 u153 : Value)
    (HEND : Hid (R = endR (lab, T))) (hT : Hid (T ≠ [])) (hwt : Hid (whatR T = (wt, rs))) (hm3 : Hid (rs.length = m3)) (hc3 : m3 ≤ cap3)
    (htx : Hid (∀ t, t ∈ T → List.length t.text ≤ 100000)) (HR3 : Hid (RowT wc oa3 rs)) (HBX : Hid (Box w wc)) :
    Code.wp Tryd.prog (parCode 10) (bodyPost Tryd.prog Tryd.f24 (ParPost R w)) ⟨#[u0, u1, u2, .pointer (some ⟨w.heap.size, 0, none⟩), u4, u5, u6, u7, .string (S lab), .string (S wt), .slice oa3 m3 cap3, u11, u12, u13, u14, u15, u16, u17, u18, u19, u20, u21, u22, u23, u24, u25, u26, u27, u28, u29, u30, u31, u32, u33, u34, u35, u36, u37, u38, u39, u40, u41, u42, u43, u44, u45, u46, u47, u48, u49, u50, u51, u52, u53, u54, u55, u56, u57, u58, u59, u60, u61, u62, u63, u64, u65, u66, u67, u68, u69, u70, u71, u72, u73, u74, u75, u76, u77, u78, u79, u80, u81, u82, u83, u84, u85, u86, u87, u88, u89, u90, u91, u92, u93, u94, u95, u96, u97, u98, u99, u100, u101, u102, u103, u104, u105, u106, u107, u108, u109, u110, u111, u112, u113, u114, u115, u116, u117, u118, u119, u120, u121, u122, u123, u124, u125, u126, u127, u128, u129, u130, u131, u132, u133, u134, u135, u136, u137, u138, u139, u140, u141, u142, u143, u144, u145, u146, u147, u148, u149, u150, u151, u152, u153], []⟩ wc := by
  obtain ⟨⟨x0, x1, x2, x3, x4, x5⟩, zz⟩ := HBX.out.cells
  conv => arg 2; whnf
  have HTR := Lib.hid (fun t ht => htx.out t (whatR_mem hwt.out t ht))
  have HPT0 := Lib.hid (fun W => pattern_ref (S wt) W)
  have HOP := Lib.hid (fun W => operation_ref (S wt) W)
  rw [S_list] at HPT0 HOP
  cases hp : patR wt with
  | none =>
    have HRN := Lib.hid (HEND.out.trans (end_p0 hT.out hwt.out hp))
    have HPT := HPT0
    rw [hp] at HPT
    simp only [patV] at HPT
    clear hp HPT0 HOP
    go_wp2_with (go_at_call 34; (with_reducible refine (HPT.out _).mono ?_); rintro e w3 ⟨rfl, hb3⟩; have HBN := Lib.hid (HBX.out.on hb3); obtain ⟨⟨x0, x1, x2, x3, x4, x5⟩, zz⟩ := HBN.out.cells)
    refine bodyPost_ret (v := .tuple #[.string { data := #[] }, zeroSt, .bool false]) ?_ rfl ?_
    · unfold zeroSt; rw [results_scs rfl]; go_simp
    · have hRn : R = none := HRN.out
      subst hRn
      exact ⟨rfl, set6 HBN.out.bel _ _ _ _ _ _⟩
  | some p =>
    have hpl := patR_len hp
    have HPT := HPT0
    rw [hp] at HPT
    simp only [patV] at HPT
    have HP := Lib.hid hp
    clear hp HPT0
    go_upto_region 23 with (go_at_call 34; (with_reducible refine (HPT.out _).mono ?_); rintro e w3 ⟨rfl, hb3⟩)
    have HBN := Lib.hid (HBX.out.on hb3)
    have HR4 := Lib.hid (HR3.out.on hb3)
    go_cut [112] (fun s112 wx => s112 = .bool (!(gapB rs)) ∧ wx = w3)
    case first =>
      rcases rs with _ | ⟨⟨kh, tb, gt⟩, rs⟩
      · obtain rfl : m3 = 0 := hm3.out.symm
        go_wp2
        go_meet
        exact ⟨rfl, rfl⟩
      · have hm1 : (0 : Int) < m3 := by have := hm3.out; simp at this; omega
        obtain ⟨b2, off2, rfl, e0, e1, e2⟩ := HR4.out.one
        dsimp only at e0 e1 e2
        cases gt
        all_goals
          go_wp2
          go_meet
          exact ⟨rfl, rfl⟩
    case rest =>
      obtain ⟨rfl, rfl⟩ := hcut
      obtain ⟨⟨x0, x1, x2, x3, x4, x5⟩, zz⟩ := HBN.out.cells
      cases hg : gapB rs with
      | false =>
        have HRN := Lib.hid (HEND.out.trans (end_gap hT.out hwt.out HP.out hg))
        clear hg HOP
        go_wp2
        refine bodyPost_ret (v := .tuple #[.string { data := #[] }, zeroSt, .bool false]) ?_ rfl ?_
        · unfold zeroSt; rw [results_scs rfl]; go_simp
        · have hRn : R = none := HRN.out
          subst hRn
          exact ⟨rfl, set6 HBN.out.bel _ _ _ _ _ _⟩
      | true =>
        rename_i k1 hK2 k0 hK1
        refine hK1 _ _ ?_
        (first | (with_reducible refine then_normal ?_) | (with_reducible refine wp_exit ?_) | (with_reducible refine wp_ret ?_) | (with_reducible refine then_exit ?_) | (with_reducible refine blk_hit ?_) | (with_reducible refine blk_pass (by decide) ?_) | (with_reducible refine then_ret ?_) | (with_reducible refine blk_ret ?_) | (with_reducible refine blk_normal ?_) | go_values | go_skip | go_guarded | go_step | go_upon | (simp only [Int.not_lt, Int.not_le] at *; go_simp) | (go_values <;> (try go_simp)) | (go_ite <;> go_prune <;> (try go_simp)))
        (first | (with_reducible refine then_normal ?_) | (with_reducible refine wp_exit ?_) | (with_reducible refine wp_ret ?_) | (with_reducible refine then_exit ?_) | (with_reducible refine blk_hit ?_) | (with_reducible refine blk_pass (by decide) ?_) | (with_reducible refine then_ret ?_) | (with_reducible refine blk_ret ?_) | (with_reducible refine blk_normal ?_) | go_values | go_skip | go_guarded | go_step | go_upon | (simp only [Int.not_lt, Int.not_le] at *; go_simp) | (go_values <;> (try go_simp)) | (go_ite <;> go_prune <;> (try go_simp)))
        with_reducible refine then_normal ?_
        refine hK2 _ _ ?_
        exact parsed_25 R w _ lab wt p T rs oa3 m3 cap3 _ _ _ _ _ _ _ _ _ _ _ _ _ _ _ _ _ _ _ _ _ _ _ _ _ _ _ _ _ _ _ _ _ _ _ _ _ _ _ _ _ _ _ _ _ _ _ _ _ _ _ _ _ _ _ _ _ _ _ _ _ _ _ _ _ _ _ _ _ _ _ _ _ _ _ _ _ _ _ _ _ _ _ _ _ _ _ _ _ _ _ _ _ _ _ _ _ _ _ _ _ _ _ _ _ _ _ _ _ _ _ _ _ _ _ _ _ _ _ _ _ _ _ _ _ _ _ _ _ _ _ _ _ _ _ _ _ _ _ _ _ _ _ _ _ _ _ _ _ HEND hT hwt HP hpl (Lib.hid hg) hm3 hc3 HTR HR4 HBN
end Go.Proofs.YthghbcjaokpilaaDoor

namespace Go.Proofs.YthghbcjaokpilaaDoor
set_option linter.unusedVariables false
set_option linter.unusedSimpArgs false
open Go.ChangeShapes Go.WideShapes Go.ChangeAt Go.RowKit Go.Proofs.YthghbcjaokpilaaDoor.Num Go.Proofs.YthghbcjaokpilaaDoor.Isa Go.Proofs.YthghbcjaokpilaaDoor.Mem Go.Proofs.YthghbcjaokpilaaDoor.Asm
set_option maxHeartbeats 0 in
set_option maxRecDepth 100000 in
theorem parsed_ref (s : ByteArray) (w : World) (hs : s.size ≤ 100000) :
    Calls Tryd.prog 24 #[.string s] w (ParPost (parR s.data.toList) w) := by
  have B0 : Below w.heap.size w (w.alloc (.cells #[.string { data := #[] }, .int .i64 0, .slice none 0 0, .int .i64 0, .int .i64 0, .int .i64 0] 49)) := (Below.refl _ _).alloc (Nat.le_refl _) _
  have HBX : Hid (Box w (w.alloc (.cells #[.string { data := #[] }, .int .i64 0, .slice none 0 0, .int .i64 0, .int .i64 0, .int .i64 0] 49))) := ⟨heap_alloc_new w _, B0⟩
  clear B0
  obtain ⟨R, hR⟩ : ∃ R, Hid (parR s.data.toList = R) := ⟨_, Lib.hid rfl⟩
  rw [hR.out]
  go_enter Tryd.func24, Tryd.ntmps24
  go_wp2
  go_loopw [0, 5] (fun t i wr => ∃ (q : Bs) (k : Nat), t = .string (S q) ∧ i = .int .i64 k ∧ k ≤ q.length + 1 ∧ Hid (CutAt s.data.toList q k) ∧ wr = w.alloc (.cells #[.string { data := #[] }, .int .i64 0, .slice none 0 0, .int .i64 0, .int .i64 0, .int .i64 0] 49)) (fun t i _ => (match t with | .string x => x.size | _ => 0) + 1 - (intOf i).toNat)
  case atStart => exact ⟨s.data.toList, 0, by rw [S_back], rfl, Nat.zero_le _, Lib.hid (cut_start _), rfl⟩
  case round =>
    obtain ⟨q, k, rfl, rfl, hk, hcut, rfl⟩ := hrel
    have hql : q.length ≤ 100000 := by have := hcut.out.2; rw [len_size] at this; omega
    have hsz : (S q).size = q.length := S_size q
    by_cases hlt : k < q.length
    · have hkI : k < (S q).size := by omega
      have hqk : (S q)[k] = q[k] := by
        rw [← getL (S q) k hkI]; simp only [S_list]; rfl
      by_cases hc : q[k] = 59
      · have HA := Lib.hid (cut_off hcut.out hlt hc)
        have e59 : (((S q)[k].toNat : Int) == 59) = true := by rw [hqk, hc]; rfl
        have hsl := slice_head q k (by omega)
        clear hcut hc hqk
        go_wp2
        go_roundw
        case rel => exact ⟨q.take k, k + 1, rfl, by go_num, by rw [List.length_take]; omega, HA, trivial⟩
        case measure => simp [intOf, S_size]; omega
      · have HA := Lib.hid (cut_on hcut.out hlt hc)
        have e59 : (((S q)[k].toNat : Int) == 59) = false := by
          rw [hqk]
          have : ¬ (q[k].toNat : Int) = 59 := fun h => hc ((u8_eq q[k] 59 (by decide)).2 h)
          simpa using this
        clear hcut hc hqk
        go_wp2
        go_roundw
        case rel => exact ⟨q, k + 1, rfl, by go_num, by omega, HA, trivial⟩
        case measure => simp [intOf, S_size]; omega
    · have hq := cut_end hcut.out (by omega)
      have HR0 : R = (tkL q).bind fun L => (labR L).bind endR := by rw [← hR.out]; unfold parR; rw [hq]
      have hI : ¬ (k : Int) < (S q).size := by omega
      clear hcut hq hlt hk hR
      have HTX := Lib.hid (fun L (h : tkL q = some L) => tkL_text h)
      generalize w.alloc (.cells #[.string { data := #[] }, .int .i64 0, .slice none 0 0, .int .i64 0, .int .i64 0, .int .i64 0] 49) = W0 at *
      cases hL : tkL q with
      | none =>
        rw [hL] at HR0
        have HRR := Lib.hid HR0
        have HTK := Lib.hid (fun W => tokens_ref (S q) W (by omega))
        rw [S_list, hL] at HTK
        clear HR0 hL
        go_wp2_with (go_at_call 32; (with_reducible refine (HTK.out _).mono ?_); rintro e w1 ⟨rfl, bb⟩; have hB1 := Lib.hid (HBX.out.on bb); obtain ⟨⟨x0, x1, x2, x3, x4, x5⟩, zz⟩ := hB1.out.cells)
        refine bodyPost_ret (v := .tuple #[.string { data := #[] }, zeroSt, .bool false]) ?_ rfl ?_
        · unfold zeroSt; rw [results_scs rfl]; go_simp
        · have hRn : R = none := HRR.out
          subst hRn
          exact ⟨rfl, set6 hB1.out.bel _ _ _ _ _ _⟩
      | some L =>
        have HTX := Lib.hid (fun t ht => Nat.le_trans (HTX.out L hL t ht) hql)
        obtain ⟨n, hn⟩ : ∃ n, Hid (L.length = n) := ⟨_, rfl⟩
        have HTK := Lib.hid (fun W => tokens_row q L n hql hL hn.out W)
        rw [hL] at HR0
        have HRR := Lib.hid (show R = (labR L).bind endR from HR0)
        clear HR0 hL hql
        go_upto_region 10 with (go_at_call 32; (with_reducible refine (HTK.out _).mono ?_); rintro e w1 ⟨⟨oa, cap, rfl, hcap, hrow⟩, bb⟩)
        have hB1 := Lib.hid (HBX.out.on bb)
        have HROW := Lib.hid hrow
        clear hrow bb HBX HTK hI hsz
        go_cut [44] (fun s44 wx => s44 = .bool (colB L) ∧ wx = w1)
        case first =>
          rcases L with _ | ⟨t, _ | ⟨u, r⟩⟩
          · obtain rfl : n = 0 := hn.out.symm
            go_wp2
            go_meet
            exact ⟨rfl, rfl⟩
          · obtain rfl : n = 1 := hn.out.symm
            go_wp2
            go_meet
            exact ⟨rfl, rfl⟩
          · obtain ⟨b, off, rfl, ⟨c0, c1, c2⟩, d0, d1, d2⟩ := HROW.out.two
            have hn2 : (2 : Int) ≤ n := by have := hn.out; simp at this; omega
            have e58 := lit_eq u.text [58]
            go_wp2
            go_meet
            exact ⟨rfl, rfl⟩
        case rest =>
          obtain ⟨rfl, rfl⟩ := hcut
          go_upto_if 44 with fail
          go_cut [6, 8] (fun s6 s8 wx => CutA w L s6 s8 wx)
          case first =>
            cases hcol : colB L with
            | true =>
              obtain ⟨⟨kd, tx, gp⟩, ⟨ke, ty, gq⟩, r, rfl, hu⟩ := colB_true hcol
              obtain ⟨b, off, rfl, ⟨c0, c1, c2⟩, d0, d1, d2⟩ := HROW.out.two
              have hn2 : (2 : Int) ≤ n := by have := hn.out; simp at this; omega
              dsimp only at hu c0 c1 c2 d0 d1 d2
              obtain ⟨⟨x0, x1, x2, x3, x4, x5⟩, zz⟩ := hB1.out.cells
              by_cases hk1 : kd = 1
              · subst hk1
                have HNA := Lib.hid (fun W => name_ref (S tx) W)
                rw [S_list] at HNA
                cases hna : nameR tx with
                | false =>
                  have HRN := Lib.hid (HRR.out.trans (by rw [labR_bad hu (fun h => by rw [hna] at h; exact absurd h.2 (by decide))]; rfl) : R = none)
                  rw [hna] at HNA
                  clear hna hu hcol
                  go_wp2_with (go_at_call 33; (with_reducible refine (HNA.out _).mono ?_); rintro e w2 ⟨rfl, hb2⟩; have HBN := Lib.hid (hB1.out.on hb2); clear x0 x1 x2 x3 x4 x5 zz; obtain ⟨⟨x0, x1, x2, x3, x4, x5⟩, zz⟩ := HBN.out.cells)
                  refine bodyPost_ret (v := .tuple #[.string { data := #[] }, zeroSt, .bool false]) ?_ rfl ?_
                  · unfold zeroSt; rw [results_scs rfl]; go_simp
                  · have hRn : R = none := HRN.out
                    subst hRn
                    exact ⟨rfl, set6 HBN.out.bel _ _ _ _ _ _⟩
                | true =>
                  obtain ⟨m, hm⟩ : ∃ m, r.length = m := ⟨_, rfl⟩
                  have hnm : n = m + 2 := by have := hn.out; simp at this; omega
                  obtain ⟨oa1, cap1, hc1, HS1, HT1⟩ := tail_t (some ⟨b, off, none⟩) n cap 2 m hnm hcap
                  have HT2 := Lib.hid (fun W h => HT1 W _ h hn.out)
                  replace HS1 : ∀ W : World, (Instr.slice 86 (.slice (some ⟨b, off, none⟩) n cap) (some (.int .i64 2)) none none).run Tryd.prog W = .ok (.slice oa1 m cap1) W := HS1
                  have HLB := Lib.hid (labR_yes (t := ⟨1, tx, gp⟩) (u := ⟨ke, ty, gq⟩) (r := r) hu ⟨rfl, hna⟩)
                  have HM := Lib.hid hm
                  rw [hna] at HNA
                  clear hna hu hcol hm hnm HT1
                  go_wp2_with (go_at_call 33; (with_reducible refine (HNA.out _).mono ?_); rintro e w2 ⟨rfl, hb2⟩)
                  go_meet
                  exact ⟨tx, r, oa1, m, cap1, rfl, rfl, HM, hc1, HLB, HT2.out _ (HROW.out.on hb2), hB1.out.on hb2, fun t ht => HTX.out t (by simp [ht])⟩
              · have HRN := Lib.hid (HRR.out.trans (by rw [labR_bad hu (fun h => hk1 h.1)]; rfl) : R = none)
                have bk : (kd != 1) = true := by simpa using hk1
                have HBN := hB1
                clear hk1 hu hcol
                go_wp2
                refine bodyPost_ret (v := .tuple #[.string { data := #[] }, zeroSt, .bool false]) ?_ rfl ?_
                · unfold zeroSt; rw [results_scs rfl]; go_simp
                · have hRn : R = none := HRN.out
                  subst hRn
                  exact ⟨rfl, set6 HBN.out.bel _ _ _ _ _ _⟩
            | false =>
              have HLB := Lib.hid (labR_no hcol)
              clear hcol
              go_wp2
              go_meet
              exact ⟨[], L, oa, n, cap, rfl, rfl, hn, hcap, HLB, HROW, hB1, HTX⟩
          case rest =>
            obtain ⟨lab, T, oa, n, cap, rfl, rfl, hn, hcap, hlab, hrow, hbx, htx⟩ := hcut
            have HEND := Lib.hid (HRR.out.trans (by rw [hlab.out]; rfl) : R = endR (lab, T))
            clear hlab HRR HROW hB1 HTX
            obtain ⟨Wd, hWd⟩ : ∃ W, W = wc := ⟨_, rfl⟩
            subst hWd
            obtain ⟨⟨x0, x1, x2, x3, x4, x5⟩, zz⟩ := hbx.out.cells
            rcases T with _ | ⟨⟨kd, tx, gp⟩, T⟩
            · obtain rfl : n = 0 := hn.out.symm
              have HRN := Lib.hid (show R = some (lab, none) from HEND.out)
              go_wp2
              refine bodyPost_ret (v := .tuple #[.string (S lab), zeroSt, .bool true]) ?_ rfl ?_
              · unfold zeroSt; rw [results_scs rfl]; go_simp
              · have hRn : R = some (lab, none) := HRN.out
                subst hRn
                exact ⟨rfl, set6 hbx.out.bel _ _ _ _ _ _⟩
            · obtain ⟨m, hm⟩ : ∃ m, T.length = m := ⟨_, rfl⟩
              have hnm : n = m + 1 := by have := hn.out; simp at this; omega
              have hn1 : (0 : Int) < n := by omega
              obtain ⟨b, off, rfl, c0, c1, c2⟩ := hrow.out.one
              dsimp only at c0 c1 c2
              obtain ⟨oa1, cap1, hc1, HS1, HT1⟩ := tail_t (some ⟨b, off, none⟩) n cap 1 m hnm hcap
              replace HS1 : ∀ W : World, (Instr.slice 86 (.slice (some ⟨b, off, none⟩) n cap) (some (.int .i64 1)) none none).run Tryd.prog W = .ok (.slice oa1 m cap1) W := HS1
              have HR1 := Lib.hid (HT1 Wd _ hrow.out hn.out)
              have hT : Hid ((⟨kd, tx, gp⟩ :: T : List Tk) ≠ []) := by show _ ≠ _; simp
              have HM := Lib.hid hm
              have HNM := Lib.hid hnm
              clear HT1 hm hnm
              go_upto_region 19 with fail
              go_cut [86] (fun s86 wx => s86 = .bool (dotB (⟨kd, tx, gp⟩ :: T)) ∧ wx = Wd)
              case first =>
                have e46 := lit_eq tx [46]
                rcases T with _ | ⟨⟨ke, ty, gq⟩, r⟩
                · obtain rfl : m = 0 := HM.out.symm
                  obtain rfl : n = 1 := HNM.out
                  by_cases hd : tx = [46]
                  · rw [decide_eq_true hd] at e46
                    have HDB : Hid (dotB [⟨kd, tx, gp⟩] = false) := rfl
                    clear hd
                    go_wp2
                    go_meet
                    exact ⟨rfl, rfl⟩
                  · rw [decide_eq_false hd] at e46
                    clear hd
                    go_wp2
                    go_meet
                    exact ⟨rfl, rfl⟩
                · have hn2 : (2 : Int) ≤ n := by have h1 := HM.out; have h2 := HNM.out; simp at h1; omega
                  obtain ⟨b', off', h', ⟨c0', c1', c2'⟩, d0, d1, d2⟩ := hrow.out.two
                  injection h' with h'
                  injection h' with h1 h2 h3
                  subst h1 h2
                  dsimp only at d0 d1 d2
                  clear c0' c1' c2'
                  by_cases hd : tx = [46]
                  · rw [decide_eq_true hd] at e46
                    have HDB : Hid (dotB (⟨kd, tx, gp⟩ :: ⟨ke, ty, gq⟩ :: r) = !gq) := by show (decide (tx = [46]) && !gq) = !gq; rw [decide_eq_true hd]; rfl
                    clear hd
                    cases gq
                    all_goals
                      go_wp2
                      go_meet
                      exact ⟨congrArg Value.bool HDB.out.symm, rfl⟩
                  · rw [decide_eq_false hd] at e46
                    have HDB : Hid (dotB (⟨kd, tx, gp⟩ :: ⟨ke, ty, gq⟩ :: r) = false) := by show (decide (tx = [46]) && !gq) = false; rw [decide_eq_false hd]; rfl
                    clear hd
                    go_wp2
                    go_meet
                    exact ⟨congrArg Value.bool HDB.out.symm, rfl⟩
              case rest =>
                obtain ⟨rfl, rfl⟩ := hcut
                go_upto_if 86 with fail
                go_cut [9, 10] (fun s9 s10 wx => CutB (⟨kd, tx, gp⟩ :: T) wc s9 s10 wx)
                case first =>
                  cases hdt : dotB (⟨kd, tx, gp⟩ :: T) with
                  | true =>
                    obtain ⟨t, ⟨ke, ty, gq⟩, r, he, hd, hg⟩ := dotB_true hdt
                    injection he with he1 he2
                    subst he1 he2
                    dsimp only at hd hg
                    obtain ⟨b', off', h', ⟨c0', c1', c2'⟩, d0, d1, d2⟩ := hrow.out.two
                    injection h' with h'
                    injection h' with h1 h2 h3
                    subst h1 h2
                    dsimp only at d0 d1 d2
                    clear c0' c1' c2'
                    obtain ⟨m2, hm2⟩ : ∃ m2, r.length = m2 := ⟨_, rfl⟩
                    have hnm : n = m2 + 2 := by have h1 := HM.out; have h2 := HNM.out; simp at h1; omega
                    have hn2 : (2 : Int) ≤ n := by omega
                    obtain ⟨oa2, cap2, hc2, HS2, HT2⟩ := tail_t (some ⟨b, off, none⟩) n cap 2 m2 hnm hcap
                    replace HS2 : ∀ W : World, (Instr.slice 86 (.slice (some ⟨b, off, none⟩) n cap) (some (.int .i64 2)) none none).run Tryd.prog W = .ok (.slice oa2 m2 cap2) W := HS2
                    have HR2 := Lib.hid (HT2 _ _ hrow.out hn.out)
                    have HWT := Lib.hid (whatR_yes (t := ⟨kd, tx, gp⟩) (u := ⟨ke, ty, gq⟩) (r := r) hd hg)
                    have HM2 := Lib.hid hm2
                    have hadd : { data := #[46] } ++ S ty = S (46 :: ty) := S_cons46 _
                    have hszu : (S ty).size ≤ 100000 := by rw [S_size]; exact htx.out ⟨ke, ty, gq⟩ (by simp)
                    clear hdt HT2 hm2 hnm hd hg
                    go_wp2
                    go_meet
                    exact ⟨46 :: ty, r, oa2, m2, cap2, rfl, rfl, HM2, hc2, HWT, HR2, rfl⟩
                  | false =>
                    have HWT := Lib.hid (whatR_no hdt)
                    clear hdt
                    go_wp2
                    go_meet
                    exact ⟨tx, T, oa1, m, cap1, rfl, rfl, HM, hc1, HWT, HR1, rfl⟩
                case rest =>
                  obtain ⟨wt, rs, oa3, m3, cap3, rfl, rfl, hm3, hc3, hwt, hr3, hwc⟩ := hcut
                  subst hwc
                  refine ‹∀ (a : Act) (w' : World), Code.wp _ _ _ a w' → _› _ _ ?_
                  exact parsed_22 R w _ lab wt (⟨kd, tx, gp⟩ :: T) rs oa3 m3 cap3 _ _ _ _ _ _ _ _ _ _ _ _ _ _ _ _ _ _ _ _ _ _ _ _ _ _ _ _ _ _ _ _ _ _ _ _ _ _ _ _ _ _ _ _ _ _ _ _ _ _ _ _ _ _ _ _ _ _ _ _ _ _ _ _ _ _ _ _ _ _ _ _ _ _ _ _ _ _ _ _ _ _ _ _ _ _ _ _ _ _ _ _ _ _ _ _ _ _ _ _ _ _ _ _ _ _ _ _ _ _ _ _ _ _ _ _ _ _ _ _ _ _ _ _ _ _ _ _ _ _ _ _ _ _ _ _ _ _ _ _ _ _ _ _ _ _ _ _ _ _ HEND hT hwt hm3 hc3 htx hr3 hbx
end Go.Proofs.YthghbcjaokpilaaDoor
