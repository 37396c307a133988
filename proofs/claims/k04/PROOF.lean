import PyProof.Rows.All
import Wide.All
import OpenK.AllK
import Wide.FinOn
import PyProof.EqAt
import PyProof.EqKinds
import PyProof.TupleCall
import KE.KEqDeep
import HandS.ForMost
import HandS.Conv
import HandS.IsInst
import HandS.Set
import HandS.SetFor
import HandS.Evl
import HandS.EndBits
import HandS.WideBits
import HandS.TupLe
import HandS.Exc
import HandS.ExcOwn
import HandS.WordsExc
import HandS.TryOnly
import HandS.ExcIs
import HandS.Gcd
import HandS.RevRange
import HandS.Dict
import KE.KMathG
import Flt.RightSqrt
import HandS.Style
import HandS.SortRule
import HandS.SortInts
import HandS.ExcCtx
import HandS.Hot
import HandS.HotCalls
import PySem.Challenge.RW_sumsapart_k04_whole_behind
set_option Elab.async false
set_option linter.all false
set_option maxRecDepth 100000
set_option maxHeartbeats 4000000
/-! own rules over the layer -/
namespace SX
open PySem PySem.Spec PyProof.Rows L2 Evl

/-! ### a <= b <= c < d -/
def tChain3 (r r' r2 : R2) (ta tb tc td : TE) : TE := fun σ H Q => ta σ H fun x H1 => tb σ H1 fun y H2 => r x y H2 fun z H3 => ∃ k, z = .bl k ∧
  (if k = true then tc σ H3 fun w H4 => r' y w H4 fun z2 H5 => ∃ k2, z2 = .bl k2 ∧ (if k2 = true then td σ H5 fun u H6 => r2 w u H6 Q else Q (.bl false) H5) else Q (.bl false) H3)
section
variable {X : Cx} {a b c d : Expr} {ta tb tc td : TE} {pos : Pos}
theorem pe_chain3 {op op' op2 : CmpOp} {r r' r2 : R2} (ho : OpR X (compareOp op) r) (ho' : OpR X (compareOp op') r') (ho2 : OpR X (compareOp op2) r2) (ha : PE X a ta) (hb : PE X b tb) (hc : PE X c tc) (hd : PE X d td)
    (hm : lastMarks [op, op', op2] [b, c, d] = false := by with_unfolding_all rfl) : PE X (.Compare a [op, op', op2] [b, c, d] pos) (tChain3 r r' r2 ta tb tc td) := by
  refine ⟨fun pins s σ H Q I h => ?_⟩
  refine Compare_chain (thn (ha.run pins s σ H _ I h) fun v s1 ⟨x, H1, I1, r1, q1⟩ => chain_link (thn (hb.run pins s1 σ H1 _ I1 q1) fun u s2 ⟨y, H2, I2, r2, q2⟩ =>
    thn (ho pins s2 σ H2 x y v u _ I2 r1 r2 q2) fun e0 s3 ⟨z, H3, I3, r3, k, e, q3⟩ => ?_)) hm
  subst e
  cases r3
  refine wpAny_truthy_bool ?_
  cases k with
  | false => exact ite_ff ⟨.bl false, H3, I3, rfl, q3⟩
  | true =>
    refine ite_tt (chain_link (thn (hc.run pins s3 σ H3 _ I3 q3) fun w' s4 ⟨z', H4, I4, r4, q4⟩ =>
      thn (ho' pins s4 σ H4 y z' u w' _ I4 r2 r4 q4) fun e1 s5 ⟨z2, H5, I5, r5, k2, e2, q5⟩ => ?_))
    subst e2
    cases r5
    refine wpAny_truthy_bool ?_
    cases k2 with
    | false => exact ite_ff ⟨.bl false, H5, I5, rfl, q5⟩
    | true => exact ite_tt (chain_last (thn (hd.run pins s5 σ H5 _ I5 q5) fun w2 s6 ⟨z3, H6, I6, r6, q6⟩ => ho2 pins s6 σ H6 z' z3 w' w2 Q I6 r4 r6 q6))
end
section
variable {σ : L2.St} {H : Hp} {ta tb tc td te : TE} {x y z v : V}
theorem ev_chain {f g : Int → Int → Bool} {i j k : Int} (ha : Ev ta σ H (.int i)) (hb : Ev tb σ H (.int j)) (hc : f i j = true → Ev tc σ H (.int k)) :
    Ev (tChain (rI0 fun i j => .bl (f i j)) (rI0 fun i j => .bl (g i j)) ta tb tc) σ H (.bl (f i j && g j k)) := fun H1 e Q q =>
  ha H1 e _ fun H2 e2 => hb H2 (e.trans e2) _ fun H3 e3 => ⟨i, j, rfl, rfl, f i j, rfl, by
    cases hf : f i j with
    | true =>
      show tc σ H3 _
      refine hc hf H3 ((e.trans e2).trans e3) _ fun H4 e4 => ⟨j, k, rfl, rfl, ?_⟩
      have h := q H4 ((e2.trans e3).trans e4)
      rw [hf] at h
      exact h
    | false =>
      show Q (.bl false) H3
      have h := q H3 (e2.trans e3)
      rw [hf] at h
      exact h⟩
theorem ev_chain3 {f g h : Int → Int → Bool} {i j k l : Int} (ha : Ev ta σ H (.int i)) (hb : Ev tb σ H (.int j)) (hc : f i j = true → Ev tc σ H (.int k)) (hd : f i j = true → g j k = true → Ev td σ H (.int l)) :
    Ev (tChain3 (rI0 fun i j => .bl (f i j)) (rI0 fun i j => .bl (g i j)) (rI0 fun i j => .bl (h i j)) ta tb tc td) σ H (.bl (f i j && (g j k && h k l))) := fun H1 e Q q =>
  ha H1 e _ fun H2 e2 => hb H2 (e.trans e2) _ fun H3 e3 => ⟨i, j, rfl, rfl, f i j, rfl, by
    cases hf : f i j with
    | true =>
      show tc σ H3 _
      refine hc hf H3 ((e.trans e2).trans e3) _ fun H4 e4 => ⟨j, k, rfl, rfl, g j k, rfl, ?_⟩
      cases hg : g j k with
      | true =>
        show td σ H4 _
        refine hd hf hg H4 (((e.trans e2).trans e3).trans e4) _ fun H5 e5 => ⟨k, l, rfl, rfl, ?_⟩
        have q1 := q H5 (((e2.trans e3).trans e4).trans e5)
        rw [hf, hg] at q1
        exact q1
      | false =>
        show Q (.bl false) H4
        have q1 := q H4 ((e2.trans e3).trans e4)
        rw [hf, hg] at q1
        exact q1
    | false =>
      show Q (.bl false) H3
      have q1 := q H3 (e2.trans e3)
      rw [hf] at q1
      exact q1⟩
end

/-! ### len(set(xs)), xs a list of whole numbers -/
def nDis (ns : List Int) : Nat := (firstMet (fun i => ns.getD i 0) ns.length).length
theorem firstMet_full {ns : List Int} : ∀ i, i ≤ ns.length → (firstMet (fun i => ns.getD i 0) i).length = i → (ns.take i).Nodup
  | 0, _, _ => by simp
  | i + 1, hi, h => by
    have hlt : i < ns.length := hi
    have e1 : ns.getD i 0 = ns[i] := by
      rw [List.getD_eq_getElem?_getD, List.getElem?_eq_getElem hlt] <;> rfl
    have e2 : ns.take (i + 1) = ns.take i ++ [ns[i]] := by
      rw [List.take_add_one, List.getElem?_eq_getElem hlt] <;> rfl
    have hle := firstMet_length_le (fun i => ns.getD i 0) i
    rw [firstMet_succ, step_length] at h
    split at h
    · omega
    · rename_i hn
      have h2 : (firstMet (fun i => ns.getD i 0) i).length = i := by omega
      have ih := firstMet_full i (Nat.le_of_lt hlt) h2
      have hm : ns[i] ∉ ns.take i := fun hm => by
        refine hn ?_
        rw [firstMet_any]
        obtain ⟨j, hj⟩ := List.mem_iff_getElem?.mp hm
        rw [List.getElem?_take] at hj
        by_cases hji : j < i
        · rw [if_pos hji] at hj
          refine List.any_eq_true.mpr ⟨ns[i], List.mem_map.mpr ⟨j, List.mem_range.mpr hji, ?_⟩, beq_iff_eq.mpr e1.symm⟩
          rw [List.getD_eq_getElem?_getD, hj] <;> rfl
        · rw [if_neg hji] at hj
          cases hj
      rw [e2]
      exact List.nodup_append.mpr ⟨ih, by simp, fun a ha b hb => by
        simp only [List.mem_singleton] at hb
        subst hb
        exact fun e => hm (e ▸ ha)⟩
theorem firstMet_nd {ns : List Int} (hn : ns.Nodup) : ∀ i, i ≤ ns.length → firstMet (fun i => ns.getD i 0) i = ns.take i
  | 0, _ => rfl
  | i + 1, hi => by
    have hlt : i < ns.length := hi
    have e1 : ns.getD i 0 = ns[i] := by
      rw [List.getD_eq_getElem?_getD, List.getElem?_eq_getElem hlt] <;> rfl
    have e2 : ns.take (i + 1) = ns.take i ++ [ns[i]] := by
      rw [List.take_add_one, List.getElem?_eq_getElem hlt] <;> rfl
    rw [firstMet_succ, firstMet_nd hn i (Nat.le_of_lt hlt), e2, e1]
    unfold step_dedup
    refine if_neg fun h => ?_
    obtain ⟨x, hx, ex⟩ := List.any_eq_true.mp h
    have ex2 : x = ns[i] := eq_of_beq ex
    rw [ex2] at hx
    rw [← List.take_append_drop (i + 1) ns, e2] at hn
    have h1 := (List.nodup_append.mp (List.nodup_append.mp hn).1).2.2 _ hx _ (List.mem_singleton.mpr rfl)
    exact h1 rfl
theorem nDis_iff (ns : List Int) : nDis ns = ns.length ↔ ns.Nodup := by
  constructor
  · intro h
    have := firstMet_full (ns := ns) ns.length (Nat.le_refl _) h
    rwa [List.take_length] at this
  · intro h
    unfold nDis
    rw [firstMet_nd h ns.length (Nat.le_refl _), List.take_length]
theorem nDis_dec (ns : List Int) : decide (V.int (nDis ns : Nat) = V.int (ns.length : Nat)) = decide ns.Nodup := by
  apply decide_eq_decide.mpr
  rw [← nDis_iff]
  constructor
  · intro h
    injection h with h
    omega
  · intro h
    rw [h]
def tLenSet (K : PySem.W.Frag) (ta : TE) : TE := fun σ H Q => ta σ H fun x H1 => ∃ (l : Addr) (ns : List Int), x = V.ref l ∧ SqL K H1 l (ns.map V.int) ∧ ns.length ≤ 4000 ∧ Q (.int (nDis ns : Nat)) H1
section
variable {X : Cx}
theorem pe_lenSet {a : Expr} {ta : TE} {p p2 q pos : Pos} (hg : Gl X "len") (hm : X.mg "len" = none) (hg2 : Gl X "set") (hm2 : X.mg "set" = none) (ha : PE X a ta) (hc : X.calm = true := by rfl)
    (na : starEach [a] X.env = (false, eval a X.env) :: starEach [] X.env := by rfl) : PE X (.Call (.Name "len" p) [.Call (.Name "set" p2) [a] [] q] [] pos) (tLenSet X.K ta) := by
  refine ⟨fun pins s σ H Q I h => ?_⟩
  refine Call_ (ld_blt I hg hm PySem.boot_len ?_)
  refine PyProof.Rows.callWith_builtin1 (PyProof.Rows.args_cons ?_ rfl) rfl rfl
  refine Call_ (ld_blt I hg2 hm2 PyProof.Rows.boot_set ?_)
  refine PyProof.Rows.callWith_type1 (PyProof.Rows.args_cons (thn (ha.run pins s σ H _ I h) fun v s1 ⟨x, H1, I1, r1, q1⟩ => PyProof.Rows.args_nil ?_) na) na rfl
  obtain ⟨l, ns, rfl, hq, h1, q1⟩ := q1
  cases r1
  obtain ⟨its, r, pl, hz⟩ := I1.list hq
  have hl : its.toArray.size = ns.length := by rw [List.size_toArray, ← r.length, List.length_map]
  refine call_set_list (I1.ok.hd hc) pl.isList (ns := ns) (by simpa using ints_of_vals r) (by unfold scanBound; omega) fun h' tk hS hk => ?_
  rw [hl] at hS
  refine PyProof.Rows.args_nil ?_
  obtain ⟨o, es, ep, t, ho, hex, hd, _, _, _, hf, hn⟩ := hS
  have I2 : Inv X pins σ H1 { s1 with heap := h', toks := tk } := I1.kept fun b o e => hk b o (Heap.lt_size e) e
  have hle := firstMet_length_le (fun i => ns.getD i 0) ns.length
  refine call_len_set ho hex hd hf (by rw [hn] <;> omega) ⟨.int (nDis ns : Nat), H1, I2.tok _, ⟨_, by rw [hn] <;> rfl⟩, q1⟩
end
theorem ev_lenSet {K : PySem.W.Frag} {σ : L2.St} {H : Hp} {ta : TE} {l : Addr} {ns : List Int} (ha : Ev ta σ H (.ref l)) (hl : SqL K H l (ns.map V.int)) (hz : ns.length ≤ 4000) : Ev (tLenSet K ta) σ H (.int (nDis ns : Nat)) := fun H1 e Q q =>
  ha H1 e _ fun H2 e2 => ⟨l, ns, rfl, ex_l (e.trans e2) hl, hz, q H2 e2⟩
end SX
namespace SX
open PySem PySem.Spec PyProof.Rows L2 Evl

/-! ### set(xs) of a list of whole numbers: its members known -/
section
variable {P : Program} {w : World} {A : Around} {E : Value → Shared → Prop} {s : Shared}
/-- the empty set that set(..) begins with, at the heap's end -/
abbrev ns0 (w : World) : Obj := ⟨.type "set", none, .set #[] 0 (.fresh 0 0 (!w.params.followText "set-order")), #[]⟩
/-- what is known when the loop over the list has ended -/
def Filled (w : World) (s : Shared) (ns : List Int) (v : Value) (s2 : Shared) : Prop :=
  v = .none ∧ ∃ (h2 : Heap) (tk c : Nat), s2 = { s with heap := h2, toks := tk } ∧ SetR w h2 s.heap.objs.size (fun j => decide (j ∈ ns)) c ∧ c ≤ ns.length ∧ ∀ b o, s.heap.get? b = some o → h2.get? b = some o
theorem at_of_ints {items : Array Value} {ns : List Int} (hit : IntsAre items.toList ns) (hz : items.size = ns.length) (i : Nat) (v : Value) (hv : items[i]? = some v) : ∃ k t, ns[i]? = some k ∧ v = .int k t := by
  have hi : i < ns.length := hz ▸ (Array.getElem?_eq_some_iff.mp hv).1
  have hv2 : items.toList[i]? = some v := by rw [Array.getElem?_toList]; exact hv
  obtain ⟨t, e⟩ := IntsAre.int_at hit i v hv2
  have e2 : ns.getD i 0 = ns[i] := by rw [List.getD_eq_getElem?_getD, List.getElem?_eq_getElem hi] <;> rfl
  exact ⟨ns[i], t, List.getElem?_eq_getElem hi, e.trans (by rw [e2])⟩
theorem lt_ne1 {a b : Nat} (h : a < b) : a ≠ b + 1 := by omega
theorem nin2 {a b c : Nat} (h1 : a ≠ b) (h2 : a ≠ c) : a ∉ [b, c] := by simp [h1, h2]
/-- set.__init__ of the new set and the list -/
theorem fill_lst {l : Addr} {items : Array Value} {A2 : Around} (ns : List Int) (hh : A2.handled = none) (hl : s.heap.IsList l items) (hit : IntsAre items.toList ns) (hb : ns.length + 1 < scanBound) :
    wpAny (model P w) A2.in1 (Builtin.«set.__init__» ⟨[.ref s.heap.objs.size, .ref l], []⟩) (fun fin s' => match fin with | .done f => wants (Filled w s ns) E (.ok f) s' | .again c' => c'.quiet = true ∧ codeAny (model P w) A2 c' (wants (Filled w s ns) E) s') (fun e s' => wants (Filled w s ns) E (.error e) s')
      { s with heap := s.heap.push (ns0 w) } := by
  have hz : items.size = ns.length := (Array.length_toList (xs := items)).symm.trans (IntsAre.length hit)
  obtain ⟨⟨oc, od, dt, os⟩, ho, hcl, nl, hdl⟩ := hl
  simp only at hcl hdl
  subst hcl hdl
  have hS : (s.heap.push (ns0 w)).get? s.heap.objs.size = some (ns0 w) := Heap.get?_push_size _ rfl
  have hT : Shared.TypeIs { s with heap := s.heap.push (ns0 w) } (.ref s.heap.objs.size) "set" := ⟨_, hS, rfl⟩
  have ho2 := Heap.get?_push_of_some (ns0 w) ho
  have nd : (Value.type "list" == Value.type "dict") = false := by decide
  have f1 := F.sub_list_set
  have f2 := F.sub_list_frozenset
  have hL : (s.heap.push (ns0 w)).IsList l items := ⟨_, ho2, rfl, nl, rfl⟩
  unfold Builtin.«set.__init__» noKeywords Builtin.Frozenset.updateFrom
  generalize hp : pyIter = pit
  wp_walk
  subst hp
  refine wpAny_pyIter_list hL (wpAny_bind (wpAny_runValue ?_))
  have hlt : l < s.heap.objs.size := Heap.lt_size ho
  have zP : (s.heap.push (ns0 w)).objs.size = s.heap.objs.size + 1 := Heap.size_push ..
  have lI : l ≠ (s.heap.push (ns0 w)).objs.size := by rw [zP]; exact lt_ne1 hlt
  have nS : s.heap.objs.size ∉ [(s.heap.push (ns0 w)).objs.size, l] := by
    rw [zP]
    exact nin2 (Nat.ne_of_lt (Nat.lt_succ_self _)) (Nat.ne_of_gt hlt)
  have hG : ((s.heap.push (ns0 w)).push { cls := .type "list_iterator", data := .fields #[.ref l, .int 0 0] }).get? s.heap.objs.size = some (ns0 w) := Heap.get?_push_of_some _ hS
  refine set_update_ints ((Walks.list (by simp [hh]) _ l lI items).toS) s.heap.objs.size nS ns hz hb (at_of_ints hit hz) (items.size - 0) 0 _ (by omega) (Nat.zero_le _) ⟨⟨_, Heap.get?_push_size _ rfl, rfl, rfl⟩, hL.push _⟩ ⟨0, Nat.le_refl 0, setR_new_at hG⟩ ?_
  rintro ⟨h2, g2, d2, tk, os2⟩ c hm hc hR
  have e1 : g2 = s.gens := hm.gens
  have e2 : d2 = s.drawn := hm.drawn
  have e3 : os2 = s.os := hm.os
  subst e1 e2 e3
  rw [hz] at hc
  refine wpAny_pure (wpAny_pure ⟨rfl, h2, tk, c, rfl, hR, hc, fun b o e => hm.heap b o ?_ (Heap.get?_push_of_some _ (Heap.get?_push_of_some _ e))⟩)
  have hb0 : b < s.heap.objs.size := Heap.lt_size e
  rw [zP]
  exact nin2 (Nat.ne_of_lt hb0) (lt_ne1 hb0)
theorem call_set_lstR {l : Addr} {items : Array Value} (ns : List Int) {Q : Value → Shared → Prop} (hh : A.handled = none) (hl : s.heap.IsList l items) (hit : IntsAre items.toList ns) (hb : ns.length + 1 < scanBound)
    (h : ∀ (h' : Heap) (tk c : Nat), SetR w h' s.heap.objs.size (fun j => decide (j ∈ ns)) c → c ≤ ns.length → (∀ b o, s.heap.get? b = some o → h'.get? b = some o) → Q (.ref s.heap.objs.size) { s with heap := h', toks := tk }) :
    wpAny (model P w) A (call (.type "set") [.ref l]) Q E s := by
  have hS : (s.heap.push (ns0 w)).get? s.heap.objs.size = some (ns0 w) := Heap.get?_push_size _ rfl
  have hT : Shared.TypeIs { s with heap := s.heap.push (ns0 w) } (.ref s.heap.objs.size) "set" := ⟨_, hS, rfl⟩
  have ft := F.called_set
  obtain ⟨mc, mt, m1⟩ := ft.mro
  have m2 := ft.made
  have m3 := ft.sub
  have m4 := ft.notType
  have m5 := ft.canCreate
  have m6 := ft.init.lookup
  have m7 := ft.init.bind (.ref s.heap.objs.size)
  have m8 := F.typeCall_set_1 (.ref l)
  refine wpAny_call (codeAny_of_tree (wpAny_pure ⟨Code.quiet_builtin _ (by decide +kernel), codeAny_builtin F.entry_type_call ?_⟩))
  rw [Around.under_plain (weight_type_call_type "set" [.ref l] []) rfl]
  repeat (any_goals (first | assumption | wp_step))
  refine codeAny_mono (code_set_led1 (.ref l) (E := E) (Q₁ := fun v s1 => v = .ref s.heap.objs.size ∧ s1 = { s with heap := s.heap.push (ns0 w) }) ⟨rfl, rfl⟩) fun r s1 hr => ?_
  cases r with
  | error e => exact hr
  | ok f =>
    cases f with
    | ret v =>
      obtain ⟨rfl, rfl⟩ := hr
      repeat (any_goals (first | assumption | wp_step))
      refine codeAny_mono (codeAny_call_builtin (R := wants (Filled w s ns) E) ft.init.plain F.entry_set_init (check_set_init_1 hT (fill_lst ns (by simp [hh]) hl hit hb))) fun r2 s2 hr2 => ?_
      cases r2 with
      | error e => exact hr2
      | ok f2 =>
        cases f2 with
        | ret v =>
          obtain ⟨rfl, h2, tk, c, rfl, hR, hc, hk⟩ := hr2
          repeat (any_goals (first | assumption | wp_step))
          exact h h2 tk c hR hc hk
        | _ => exact hr2.elim
    | _ => exact hr.elim
end
/-! ### sorted(set(xs)) -/
def tSortSet (K : PySem.W.Frag) (ta : TE) : TE := fun σ H Q => ta σ H fun x H1 => ∃ (l : Addr) (ns : List Int), x = V.ref l ∧ SqL K H1 l (ns.map V.int) ∧ ns.length < 64 ∧
  ∀ (ms : List Int) (p : Addr), ms.Pairwise (· < ·) → (∀ k, k ∈ ms ↔ k ∈ ns) → ms.length ≤ ns.length → H1 p = none → Q (.ref p) (upd H1 p (.lst (ms.map V.int)))
section
variable {X : Cx}
theorem pe_sortSet {a : Expr} {ta : TE} {p p2 q pos : Pos} (hg : Gl X "sorted") (hm : X.mg "sorted" = none) (hg2 : Gl X "set") (hm2 : X.mg "set" = none) (ha : PE X a ta) (hc : X.calm = true := by rfl)
    (na : starEach [a] X.env = (false, eval a X.env) :: starEach [] X.env := by rfl) : PE X (.Call (.Name "sorted" p) [.Call (.Name "set" p2) [a] [] q] [] pos) (tSortSet X.K ta) := by
  refine ⟨fun pins s σ H Q I h => ?_⟩
  refine Call_ (ld_blt I hg hm (by decide +kernel : bootBuiltins "sorted" = some (.builtin "sorted")) ?_)
  refine PyProof.Rows.callWith_builtin1 (PyProof.Rows.args_cons ?_ rfl) rfl rfl
  refine Call_ (ld_blt I hg2 hm2 PyProof.Rows.boot_set ?_)
  refine PyProof.Rows.callWith_type1 (PyProof.Rows.args_cons (thn (ha.run pins s σ H _ I h) fun v s1 ⟨x, H1, I1, r1, q1⟩ => PyProof.Rows.args_nil ?_) na) na rfl
  obtain ⟨l, ns, rfl, hq, h1, q1⟩ := q1
  cases r1
  obtain ⟨its, r, pl, hz⟩ := I1.list hq
  refine call_set_lstR ns (I1.ok.hd hc) pl.isList (by simpa using ints_of_vals r) (by unfold scanBound; omega) fun h' tk c R hcn hk => ?_
  refine PyProof.Rows.args_nil ?_
  have I2 : Inv X pins σ H1 { s1 with heap := h', toks := tk } := I1.kept hk
  have hlt : s1.heap.objs.size < h'.objs.size := R.lt
  refine sorted_set R (I2.ok.hd hc) (by omega) fun s' p out c2 ms k g o hp hgt hi hs hm2 hl => ?_
  have hlen : (ms.map V.int).length ≤ sizeLine := by rw [List.length_map, hl, sizeLine_eq]; omega
  have hn : H1 p = none := I2.hok.fresh hp
  have J : Inv X pins σ (upd H1 p (.lst (ms.map V.int))) { ({ s1 with heap := h', toks := tk } : Shared) with heap := s'.heap, gens := s'.gens, drawn := s'.drawn, toks := s'.toks } :=
    I2.call (ch := []) (Un.laid k hp hn) (I2.hok.laid k hp ⟨hlen, out.toList, c2, vals_of_ints hi, hgt⟩) (by rw [g]; exact I2.bare) (fun _ z => nomatch z)
  have e : s' = { ({ s1 with heap := h', toks := tk } : Shared) with heap := s'.heap, gens := s'.gens, drawn := s'.drawn, toks := s'.toks } := by
    cases s'
    cases s1
    cases o
    rfl
  rw [e]
  exact ⟨.ref p, _, J, rfl, q1 ms p hs (fun z => (hm2 z).trans decide_eq_true_iff) (by omega) hn⟩
end

/-! ### list(range(a, b, c)) -/
def rgC (a c : Int) (n : Nat) : List Int := (List.range n).map fun i => a + (i : Nat) * c
def tLstRg3 (ta : TA) : TE := fun σ H Q => ta σ H fun vs H1 => ∃ (i j c : Int) (n : Nat), vs = [.int i, .int j, .int c] ∧ RgC i j c n ∧ n ≤ 2 ^ 20 ∧ ∀ q, H1 q = none → Q (.ref q) (upd H1 q (.lst ((rgC i c n).map V.int)))
theorem vals_rgC {a c : Int} {n : Nat} {acc : Array Value} (h : ItemsOf (fun i v => ∃ t, v = .int (a + i * c) t) acc n) : Vals ((rgC a c n).map V.int) acc.toList := by
  have e : acc.toList.length = n := by rw [Array.length_toList]; exact h.1
  unfold rgC
  rw [← e, List.map_map]
  refine vals_of_get acc.toList _ fun j u hj => ?_
  obtain ⟨t, rfl⟩ := h.2 j u (by rw [← hj, Array.getElem?_toList])
  exact ⟨t, rfl⟩
section
variable {X : Cx}
theorem pe_listRg3 {a b c : Expr} {ta : TA} {p p2 q pos : Pos} (hg : Gl X "list") (hm : X.mg "list" = none) (hg2 : Gl X "range") (hm2 : X.mg "range" = none) (ha : PA X [a, b, c] ta) (hc : X.calm = true := by rfl)
    (hs : starEach [a, b, c] X.env = (false, eval a X.env) :: starEach [b, c] X.env := by rfl) (hpl : (backTo q (starEach [b, c] X.env)).any (·.1) = false := by rfl) :
    PE X (.Call (.Name "list" p) [.Call (.Name "range" p2) [a, b, c] [] q] [] pos) (tLstRg3 ta) := by
  refine ⟨fun pins s σ H Q I h => ?_⟩
  refine Call_ (ld_blt I hg hm boot_list (PyProof.Rows.callWith_type1 (args_cons ?_ rfl) rfl rfl))
  refine Call_ (ld_blt I hg2 hm2 boot_range (PyProof.Rows.callWith_type1 (thn (ha.run q pins s σ H _ I h) fun us s1 ⟨vs, H1, I1, r1, q1⟩ => ?_) hs hpl))
  obtain ⟨i, j, k, n, e, ⟨c0, c1, c2, c3⟩, hn, q2⟩ := q1
  subst e
  cases r1 with
  | cons r rr =>
    cases rr with
    | cons r' rr =>
      cases rr with
      | cons r'' rr =>
        cases rr
        obtain ⟨t, rfl⟩ := r
        obtain ⟨t', rfl⟩ := r'
        obtain ⟨t'', rfl⟩ := r''
        refine call_range_3 c0 ?_ (.inl (PyProof.noPylong_small c1))
        refine args_nil ?_
        have I2 : Inv X pins σ H1 { s1 with heap := s1.heap.push { cls := .type "range", data := .fields #[.int i t, .int j t', .int k t''] } } := I1.kept (t' := s1.toks) fun b o e => Heap.get?_push_of_some _ e
        refine call_list_range (n := n) (I2.ok.hd hc) (IsRange.new ..) c2 c3 (by omega) fun h' tk acc c' hk e' hi => ?_
        have hz : ((rgC i k n).map V.int).length ≤ sizeLine := by
          rw [List.length_map]
          unfold rgC
          rw [List.length_map, List.length_range, sizeLine_eq]
          omega
        refine ⟨.ref _, upd H1 _ (.lst ((rgC i k n).map V.int)), I2.laid (t' := tk) hk (Nat.le_refl _) (show ObjOk X.prog X.w _ _ _ (.lst ((rgC i k n).map V.int)) from ⟨hz, acc.toList, c', vals_rgC hi, ?_⟩), rfl, q2 _ (I2.hok.fresh (Nat.le_refl _))⟩
        rw [Array.toArray_toList]; exact e'
end

/-! ### C() where there is no __init__ but object's -/
structure MkO (K : PySem.W.Frag) (C : Addr) : Prop where
  makes : PySem.W.makesIn K C = true
  init : PySem.W.findIn K (.ref C) "__init__" = some (some (.builtin "object.__init__"))
  kp : PySem.W.keepIn K (.ref C) = true
def tMakeO (C : Addr) : TE := fun _ H Q => ∀ x dx, H x = none → H dx = none → dx ≠ x → Q (.ref x) (upd (upd H dx (.own x)) x (.ins C dx []))
section
variable {X : Cx} {C : Addr}
theorem pe_makeO {x : Str} {p pos : Pos} (M : MkO X.K C) (hg : Gl X x) (hm : X.mg x = some (.ref C)) (hdb : (x == ("__debug__" : Str)) = false := by decide) : PE X (.Call (.Name x p) [] [] pos) (tMakeO C) := by
  refine ⟨fun pins s σ H Q I h => ?_⟩
  refine wpAny_Call_Name_kw (ld_glob I hg hm ?_ hdb)
  refine PySem.W.callWith_K0 I.kIn M.kp (wpAny_call ?_)
  have hq := h (s.heap.objs.size + 1) s.heap.objs.size (I.hok.fresh (Nat.le_succ _)) (I.hok.fresh (Nat.le_refl _)) (Nat.ne_of_lt (Nat.lt_succ_self _))
  have I2 := Inv.made (C := C) I
  have KX := I.kIn
  refine make_map0 KX M.makes M.init (fun self => PySem.W.Looks.of_pure (PySem.W.oi_bind self)) ?_
  have Y := PySem.W.makes_of (M := model X.prog X.w) KX M.makes
  have hx : ((s.heap.push PySem.W.emptyDict).push (PySem.W.instObj C s.heap.objs.size)).get? (s.heap.objs.size + 1) = some (PySem.W.instObj C s.heap.objs.size) := by heap_get
  have t1 : PySem.W.Looks (model X.prog X.w) ((s.heap.push PySem.W.emptyDict).push (PySem.W.instObj C s.heap.objs.size)) (typeOf (.ref (s.heap.objs.size + 1))) (.ref C) := (PySem.W.Looks.ld hx).andThen .now
  have t2 : PySem.W.Looks (model X.prog X.w) ((s.heap.push PySem.W.emptyDict).push (PySem.W.instObj C s.heap.objs.size)) (isInstance (.ref (s.heap.objs.size + 1)) (.type "object")) true := t1.andThen (Y.top.keeps fun b o e => Heap.get?_push_of_some _ (Heap.get?_push_of_some _ e))
  refine codeAny_call_builtin PySem.W.oi_plain PySem.W.entry_oi (@PySem.W.check_slot (model X.prog X.w) _ _ _ "object.__init__" "object" "__init__" (.ref (s.heap.objs.size + 1)) [] [] _ PySem.W.oi_kind PySem.W.oi_split t2 (PySem.W.oi_args (.ref (s.heap.objs.size + 1))) ?_)
  rw [PySem.W.oi_run]
  exact wpAny_pure (And.intro rfl ⟨.ref (s.heap.objs.size + 1), _, I2, rfl, hq⟩)
end
end SX

namespace SX
open PySem PySem.Spec PyProof.Rows L2 Evl

/-! ### a def as the top has left it -/
structure Dfn (K : PySem.W.Frag) (mg : Str → Option Value) (x qual : Str) (st : Stmt) (ps : List Str) (f : Addr) (fd : FuncData) : Prop where
  F : Fun K x qual st f fd
  g : mg x = some (.ref f)
  b : Binds K fd ps []

/-! ### conditions -/
theorem cdiv_small {i j : Int} (h : 0 < j) (h2 : j < 18446744073709551616) : CDivW i j := wide_div (b := 64) h (by omega) (by decide) (by decide)
theorem cmul_l {i j : Int} (h : -18446744073709551616 < i) (h2 : i < 18446744073709551616) : CMul i j := .inl ⟨by omega, by omega⟩
theorem cmul_r {i j : Int} (h : -18446744073709551616 < j) (h2 : j < 18446744073709551616) : CMul i j := .inr ⟨by omega, by omega⟩
theorem cpow_c {i j : Int} (h : 0 ≤ j) (h1 : j ≤ 1000000) (h2 : i.natAbs < 18446744073709551616) : CPow i j := ⟨h, h1, by omega⟩

/-! ### data -/
theorem shaped_ints (ns : List Int) : SeqAt.shaped (.list (ns.map PyData.int)) = true := by
  simp [SeqAt.shaped, PyData.canLay0, PyData.depth, PySem.W.ke_canLayAll0, PySem.W.ke_depthAll]
theorem shaped_tints (ns : List Int) : SeqAt.shaped (.tuple (ns.map PyData.int)) = true := by
  simp [SeqAt.shaped, PyData.canLay0, PyData.depth, PySem.W.ke_canLayAll0, PySem.W.ke_depthAll]
theorem dpAll_ints {K : PySem.W.Frag} {H : Hp} : ∀ ns : List Int, DpAll K H (ns.map V.int) (ns.map PyData.int)
  | [] => .nil
  | n :: r => .cons (.int n) (dpAll_ints r)
theorem eqv_lints (ns ms : List Int) : PyData.eqv (.list (ns.map PyData.int)) (.list (ms.map PyData.int)) = decide (ns = ms) := by
  rw [PyData.eqv]
  exact PySem.W.ked_eqvAll ns ms
theorem eqv_tints (ns ms : List Int) : PyData.eqv (.tuple (ns.map PyData.int)) (.tuple (ms.map PyData.int)) = decide (ns = ms) := by
  rw [PyData.eqv]
  exact PySem.W.ked_eqvAll ns ms
end SX
namespace SX
open PySem PySem.Spec PyProof.Rows L2 Evl
section
variable {K : PySem.W.Frag} {σ : L2.St} {H H' : Hp} {ta tb te : TE} {x y z v : V}
theorem rv_neLL {a b : Addr} {ns ms : List Int} (h1 : SqL K H a (ns.map V.int)) (h2 : SqL K H b (ms.map V.int)) : RV (rNeD K) (.ref a) (.ref b) H (.bl (!decide (ns = ms))) := fun H1 e Q q =>
  ⟨_, _, .lst (ex_l e h1) (dpAll_ints ns), .lst (ex_l e h2) (dpAll_ints ms), shaped_ints ns, shaped_ints ms, by rw [eqv_lints]; exact q H1 (Ex.refl H1)⟩
theorem rv_eqLL {a b : Addr} {ns ms : List Int} (h1 : SqL K H a (ns.map V.int)) (h2 : SqL K H b (ms.map V.int)) : RV (rEqD K) (.ref a) (.ref b) H (.bl (decide (ns = ms))) := fun H1 e Q q =>
  ⟨_, _, .lst (ex_l e h1) (dpAll_ints ns), .lst (ex_l e h2) (dpAll_ints ms), shaped_ints ns, shaped_ints ms, by rw [eqv_lints]; exact q H1 (Ex.refl H1)⟩
theorem rv_neTT {a b : Addr} {ns ms : List Int} (h1 : SqT K H a (ns.map V.int)) (h2 : SqT K H b (ms.map V.int)) : RV (rNeD K) (.ref a) (.ref b) H (.bl (!decide (ns = ms))) := fun H1 e Q q =>
  ⟨_, _, .tup (ex_t e h1) (dpAll_ints ns), .tup (ex_t e h2) (dpAll_ints ms), shaped_tints ns, shaped_tints ms, by rw [eqv_tints]; exact q H1 (Ex.refl H1)⟩
theorem rv_eqTT {a b : Addr} {ns ms : List Int} (h1 : SqT K H a (ns.map V.int)) (h2 : SqT K H b (ms.map V.int)) : RV (rEqD K) (.ref a) (.ref b) H (.bl (decide (ns = ms))) := fun H1 e Q q =>
  ⟨_, _, .tup (ex_t e h1) (dpAll_ints ns), .tup (ex_t e h2) (dpAll_ints ms), shaped_tints ns, shaped_tints ms, by rw [eqv_tints]; exact q H1 (Ex.refl H1)⟩

/-! ### isinstance -/
theorem rc_isi {t u : Value} {c : V} {b : Bool} (hc : ClsV c u) (ht : ∀ H1, Ex H H1 → TyX K H1 x t) (hk : PySem.W.kitOne K t u = some b) : RC (rIsi K) [x, c] H (.bl b) := fun H1 e Q q =>
  ⟨x, c, t, u, b, rfl, hc, ht H1 e, hk, q H1 (Ex.refl H1)⟩
theorem rc_isiInt {i : Int} {n : String} {b : Bool} (hk : kitB "int" n = some b) : RC (rIsi K) [.int i, .ty n] H (.bl b) := rc_isi (.ty n) (fun _ _ => .base (.int i)) (kit_ty hk)
theorem rc_isiBl {i : Bool} {n : String} {b : Bool} (hk : kitB "bool" n = some b) : RC (rIsi K) [.bl i, .ty n] H (.bl b) := rc_isi (.ty n) (fun _ _ => .base (.bl i)) (kit_ty hk)
theorem rc_isiTup {p : Addr} {xs : List V} {n : String} {b : Bool} (h : H p = some (.tup xs)) (hk : kitB "tuple" n = some b) : RC (rIsi K) [.ref p, .ty n] H (.bl b) := rc_isi (.ty n) (fun H1 e => .base (.tup (e p _ h))) (kit_ty hk)

/-! ### len, sum -/
theorem ev_lenT {p : Addr} {xs : List V} (ha : Ev ta σ H (.ref p)) (h : SqT K H p xs) : Ev (tCB (fun xs H Q => ∃ p ys, xs = [.ref p] ∧ (SqL K H p ys ∨ SqT K H p ys) ∧ Q (.int ys.length) H) (tCons ta tNil)) σ H (.int (xs.length : Int)) := fun H1 e Q q =>
  ha H1 e _ fun H2 e2 => ⟨p, xs, rfl, Or.inr (ex_t (e.trans e2) h), q H2 e2⟩
theorem ev_lenL {p : Addr} {xs : List V} (ha : Ev ta σ H (.ref p)) (h : SqL K H p xs) : Ev (tCB (fun xs H Q => ∃ p ys, xs = [.ref p] ∧ (SqL K H p ys ∨ SqT K H p ys) ∧ Q (.int ys.length) H) (tCons ta tNil)) σ H (.int (xs.length : Int)) := fun H1 e Q q =>
  ha H1 e _ fun H2 e2 => ⟨p, xs, rfl, Or.inl (ex_l (e.trans e2) h), q H2 e2⟩
theorem ev_lenI {p : Addr} {ns : List Int} (ha : Ev ta σ H (.ref p)) (h : SqL K H p (ns.map V.int)) : Ev (tCB (fun xs H Q => ∃ p ys, xs = [.ref p] ∧ (SqL K H p ys ∨ SqT K H p ys) ∧ Q (.int ys.length) H) (tCons ta tNil)) σ H (.int (ns.length : Int)) := by
  have h2 := ev_lenL ha h
  rw [List.length_map] at h2
  exact h2
theorem ev_lenTI {p : Addr} {ns : List Int} (ha : Ev ta σ H (.ref p)) (h : SqT K H p (ns.map V.int)) : Ev (tCB (fun xs H Q => ∃ p ys, xs = [.ref p] ∧ (SqL K H p ys ∨ SqT K H p ys) ∧ Q (.int ys.length) H) (tCons ta tNil)) σ H (.int (ns.length : Int)) := by
  have h2 := ev_lenT ha h
  rw [List.length_map] at h2
  exact h2
theorem ev_sum {p : Addr} {ns : List Int} (ha : Ev ta σ H (.ref p)) (h : SqL K H p (ns.map V.int)) : Ev (tCB (rSum K) (tCons ta tNil)) σ H (.int ns.sum) := fun H1 e Q q =>
  ha H1 e _ fun H2 e2 => ⟨p, ns, rfl, ex_l (e.trans e2) h, q H2 e2⟩
theorem ev_sumN {ns : List Int} (ha : EvL ta σ H (ns.map V.int)) : Ev (tCB (rSum K) (tCons ta tNil)) σ H (.int ns.sum) := fun H1 e Q q =>
  ha H1 e _ fun p H2 _ e2 hp => ⟨p, ns, rfl, sq_of hp, q H2 e2⟩

/-! ### what evaluates to something of which P holds -/
def Mono (P : V → Hp → Prop) : Prop := ∀ v H H', Ex H H' → P v H → P v H'
def MonoA (P : List V → Hp → Prop) : Prop := ∀ v H H', Ex H H' → P v H → P v H'
def EvP (te : TE) (σ : L2.St) (H : Hp) (P : V → Hp → Prop) : Prop := ∀ H1, Ex H H1 → ∀ Q : VK, (∀ v H2, Ex H1 H2 → P v H2 → Q v H2) → te σ H1 Q
def EvAP (ta : TA) (σ : L2.St) (H : Hp) (P : List V → Hp → Prop) : Prop := ∀ H1, Ex H H1 → ∀ Q : List V → Hp → Prop, (∀ v H2, Ex H1 H2 → P v H2 → Q v H2) → ta σ H1 Q
theorem EvP.mono {P : V → Hp → Prop} (e : Ex H H') (h : EvP te σ H P) : EvP te σ H' P := fun H1 a Q q => h H1 (e.trans a) Q q
theorem EvP.imp {P P' : V → Hp → Prop} (h : EvP te σ H P) (i : ∀ v H1, Ex H H1 → P v H1 → P' v H1) : EvP te σ H P' := fun H1 a Q q => h H1 a Q fun v H2 e p => q v H2 e (i v H2 (a.trans e) p)
theorem evp_ev {P : V → Hp → Prop} (h : Ev te σ H v) (hp : ∀ H1, Ex H H1 → P v H1) : EvP te σ H P := fun H1 e Q q => h H1 e Q fun H2 e2 => q v H2 e2 (hp H2 (e.trans e2))
theorem evp_evL {P : V → Hp → Prop} {xs : List V} (h : EvL te σ H xs) (hp : ∀ p H1, Ex H H1 → H1 p = some (.lst xs) → P (.ref p) H1) : EvP te σ H P := fun H1 e Q q => h H1 e Q fun p H2 _ e2 h2 => q (.ref p) H2 e2 (hp p H2 (e.trans e2) h2)
theorem evp_evU {P : V → Hp → Prop} {xs : List V} (h : EvU te σ H xs) (hp : ∀ p H1, Ex H H1 → H1 p = some (.tup xs) → P (.ref p) H1) : EvP te σ H P := fun H1 e Q q => h H1 e Q fun p H2 _ e2 h2 => q (.ref p) H2 e2 (hp p H2 (e.trans e2) h2)
/-- a list of xs stands there -/
def IsL (K : PySem.W.Frag) (xs : List V) : V → Hp → Prop := fun v H => ∃ a, v = .ref a ∧ SqL K H a xs
theorem IsL.mono {xs : List V} : Mono (IsL K xs) := fun _ _ _ e ⟨a, h, q⟩ => ⟨a, h, ex_l e q⟩
theorem evp_L {a : Addr} {xs : List V} (h : Ev te σ H (.ref a)) (hx : SqL K H a xs) : EvP te σ H (IsL K xs) := evp_ev h fun _ e => ⟨a, rfl, ex_l e hx⟩
theorem evp_NL {xs : List V} (h : EvL te σ H xs) : EvP te σ H (IsL K xs) := evp_evL h fun p _ _ hp => ⟨p, rfl, sq_of hp⟩
/-- a tuple of these ints stands there -/
def IsT (ns : List Int) : V → Hp → Prop := fun v H => ∃ a, v = .ref a ∧ H a = some (.tup (ns.map V.int))
theorem IsT.mono {ns : List Int} : Mono (IsT ns) := fun _ _ _ e ⟨a, h, q⟩ => ⟨a, h, e a _ q⟩
theorem evp_T {ta : TA} {vs : List V} (ns : List Int) (h : EvA ta σ H vs) (e : vs = ns.map V.int) (hl : ns.length ≤ 100000) : EvP (tTup ta) σ H (IsT ns) := by
  subst e
  exact evp_evU (eu_tup h (by rw [List.length_map]; exact hl)) fun p _ _ hp => ⟨p, rfl, hp⟩
/-- a pair of two such -/
def PairT : V → Hp → Prop := fun v H => ∃ p x y as bs, v = .ref p ∧ H p = some (.tup [x, y]) ∧ IsT as x H ∧ IsT bs y H
theorem PairT.mono : Mono PairT := fun _ _ _ e ⟨p, x, y, as, bs, h, q, h1, h2⟩ => ⟨p, x, y, as, bs, h, e p _ q, IsT.mono _ _ _ e h1, IsT.mono _ _ _ e h2⟩
theorem eap_nil : EvAP tNil σ H (fun vs _ => vs = []) := fun H1 _ _ q => q [] H1 (Ex.refl H1) rfl
theorem eap_cons {tr : TA} {P : V → Hp → Prop} {R : List V → Hp → Prop} (h : EvP te σ H P) (hr : EvAP tr σ H R) (m : Mono P) : EvAP (tCons te tr) σ H (fun vs H => ∃ x r, vs = x :: r ∧ P x H ∧ R r H) := fun H1 e Q q =>
  h H1 e _ fun v H2 e2 hp => hr H2 (e.trans e2) _ fun vs H3 e3 hR => q _ H3 (e2.trans e3) ⟨v, vs, rfl, m _ _ _ e3 hp, hR⟩
theorem eap_ea {ta : TA} {vs : List V} {R : List V → Hp → Prop} (h : EvA ta σ H vs) (hR : ∀ H1, Ex H H1 → R vs H1) : EvAP ta σ H R := fun H1 e Q q => h H1 e Q fun H2 e2 => q vs H2 e2 (hR H2 (e.trans e2))
theorem evp_pair {t1 t2 : TE} {as bs : List Int} (h1 : EvP t1 σ H (IsT as)) (h2 : EvP t2 σ H (IsT bs)) : EvP (tTup (tCons t1 (tCons t2 tNil))) σ H PairT := fun H1 e Q q =>
  h1 H1 e _ fun x H2 e2 p1 => h2 H2 (e.trans e2) _ fun y H3 e3 p2 => ⟨by show 2 ≤ sizeLine; decide, fun p hp => q _ _ ((e2.trans e3).trans (Ex.new hp)) ⟨p, x, y, as, bs, rfl, upd_same, IsT.mono _ _ _ (e3.trans (Ex.new hp)) p1, IsT.mono _ _ _ (Ex.new hp) p2⟩⟩
/-- n things of which P holds -/
def AllN (P : V → Hp → Prop) (n : Nat) : List V → Hp → Prop := fun vs H => vs.length = n ∧ ∀ x ∈ vs, P x H
theorem AllN.mono {P : V → Hp → Prop} {n : Nat} (m : Mono P) : MonoA (AllN P n) := fun _ _ _ e ⟨h, q⟩ => ⟨h, fun x hx => m _ _ _ e (q x hx)⟩
theorem eal_nil {P : V → Hp → Prop} : EvAP tNil σ H (AllN P 0) := fun H1 _ _ q => q [] H1 (Ex.refl H1) ⟨rfl, fun x hx => absurd hx (by simp)⟩
theorem eal_cons {tr : TA} {P : V → Hp → Prop} {n : Nat} (m : Mono P) (h : EvP te σ H P) (hr : EvAP tr σ H (AllN P n)) : EvAP (tCons te tr) σ H (AllN P (n + 1)) := fun H1 e Q q =>
  h H1 e _ fun v H2 e2 hp => hr H2 (e.trans e2) _ fun vs H3 e3 hR => q _ H3 (e2.trans e3) ⟨by rw [List.length_cons, hR.1], fun x hx => by
    rcases List.mem_cons.mp hx with z | z
    · subst z; exact m _ _ _ e3 hp
    · exact hR.2 x z⟩
/-- a new list of n such things -/
def LstN (P : V → Hp → Prop) (n : Nat) : V → Hp → Prop := fun v H => ∃ p xs, v = .ref p ∧ H p = some (.lst xs) ∧ AllN P n xs H
theorem LstN.mono {P : V → Hp → Prop} {n : Nat} (m : Mono P) : Mono (LstN P n) := fun _ _ _ e ⟨p, xs, h, q, a⟩ => ⟨p, xs, h, e p _ q, AllN.mono m _ _ _ e a⟩
theorem evp_lst {ta : TA} {P : V → Hp → Prop} {n : Nat} (m : Mono P) (h : EvAP ta σ H (AllN P n)) (hn : n ≤ 100000) : EvP (tLst ta) σ H (LstN P n) := fun H1 e Q q =>
  h H1 e _ fun vs H2 e2 hR => ⟨sz_of (by rw [hR.1]; exact hn), fun p hp => q _ _ (e2.trans (Ex.new hp)) ⟨p, vs, rfl, upd_same, AllN.mono m _ _ _ (Ex.new hp) hR⟩⟩
theorem evp_cat {P : V → Hp → Prop} {n k : Nat} (m : Mono P) (h1 : EvP ta σ H (LstN P n)) (h2 : EvP tb σ H (LstN P k)) (hn : n + k ≤ 100000) : EvP (tOp rCat ta tb) σ H (LstN P (n + k)) := fun H1 e Q q =>
  h1 H1 e _ fun v H2 e2 ⟨a, xs, ea, ha, hA⟩ => h2 H2 (e.trans e2) _ fun w H3 e3 ⟨b, ys, eb, hb, hB⟩ => by
    subst ea eb
    have hA3 := AllN.mono m _ _ _ e3 hA
    refine ⟨a, b, xs, ys, rfl, rfl, e3 a _ ha, hb, sz_of (by rw [hA.1, hB.1]; exact hn), fun p hp => q _ _ ((e2.trans e3).trans (Ex.new hp)) ⟨p, xs ++ ys, rfl, upd_same, by rw [List.length_append, hA.1, hB.1], fun x hx => ?_⟩⟩
    rcases List.mem_append.mp hx with z | z
    · exact m _ _ _ (Ex.new hp) (hA3.2 x z)
    · exact m _ _ _ (Ex.new hp) (hB.2 x z)
/-- a call, a method, a class made, their arguments of a kind -/
theorem ev_callP {sp : Sp} {dvs : List V} {E : XK} {ta : TA} {R : List V → Hp → Prop} (h : EvAP ta σ H R) (hs : ∀ vs H2, Ex H H2 → R vs H2 → SpV sp (vs ++ dvs) H2 z) : Ev (tCall sp dvs E ta) σ H z := fun H1 e Q q =>
  h H1 e _ fun vs H2 e2 hR => hs vs H2 (e.trans e2) hR H2 (Ex.refl H2) Q (fun H3 e3 => q H3 (e2.trans e3)) E
theorem ev_methP {sp : Sp} {dvs : List V} {E : XK} {C : Addr} {m : Str} {to : TE} {ta : TA} {P : V → Hp → Prop} {R : List V → Hp → Prop} (ho : EvP to σ H P) (ha : EvAP ta σ H R) (mo : Mono P)
    (hi : ∀ x H1, P x H1 → ∃ a dx fs, x = .ref a ∧ H1 a = some (.ins C dx fs) ∧ fs.lookup m = none) (hs : ∀ x vs H2, Ex H H2 → P x H2 → R vs H2 → SpV sp (x :: (vs ++ dvs)) H2 z) : Ev (tMeth C m sp dvs E to ta) σ H z := fun H1 e Q q =>
  ho H1 e _ fun x H2 e2 hp => by
    obtain ⟨a, dx, fs, ea, h1, h2⟩ := hi x H2 hp
    refine ⟨a, dx, fs, ea, h1, h2, ha H2 (e.trans e2) _ fun vs H3 e3 hR => ?_⟩
    exact hs x vs H3 ((e.trans e2).trans e3) (mo _ _ _ e3 hp) hR H3 (Ex.refl H3) Q (fun H4 e4 => q H4 ((e2.trans e3).trans e4)) E
theorem ev_fld {C dx a : Addr} {fs : List (Str × V)} {f : Str} (h : Ev te σ H (.ref a)) (ho : H a = some (.ins C dx fs)) (hc : Cls K C) (hn : NoAttr K C f) (hl : fs.lookup f = some v) : Ev (tFld K te f) σ H v := fun H1 e Q q =>
  h H1 e _ fun H2 e2 => ⟨a, C, dx, fs, v, rfl, e2 a _ (e a _ ho), hc, hn, hl, q H2 e2⟩
/-! ### statements -/
variable {D : Ends} {tu tw tz : TS} {g : TG}
theorem s_asgP {i : Nat} {P : V → Hp → Prop} (h : EvP te σ H P) (k : ∀ v H1, Ex H H1 → P v H1 → D.nx (σ.set i (some v)) H1) : tAsg te (gName i) D σ H := h H (Ex.refl H) _ fun v H1 e p => k v H1 e p
theorem q_asgP {i : Nat} {P : V → Hp → Prop} (h : EvP te σ H P) (k : ∀ v H1, Ex H H1 → P v H1 → tz D (σ.set i (some v)) H1) : tSeq (tAsg te (gName i)) tz D σ H := s_asgP (D := { D with nx := tz D }) h k
theorem s_retP {P : V → Hp → Prop} (h : EvP te σ H P) (k : ∀ v H1, Ex H H1 → P v H1 → D.rt v H1) : tRet te D σ H := h H (Ex.refl H) _ k
/-- a, b = t -/
theorem g_two {p : Addr} {x y : V} {i j : Nat} {Q : L2.St → Hp → Prop} (hp : SqT K H p [x, y]) (q : Q ((σ.set i (some x)).set j (some y)) H) : gTup K 2 (gCons (gName i) (gCons (gName j) gNil)) (.ref p) σ H Q :=
  ⟨p, [x, y], rfl, hp, rfl, x, [y], rfl, y, [], rfl, rfl, q⟩
/-- for x in xs, the list of a kind -/
theorem s_forP {tl : TE} {P : V → Hp → Prop} (h : EvP tl σ H P) (k : ∀ v H1, Ex H H1 → P v H1 → ∃ (a : Addr) (xs : List V) (Pv : Nat → L2.St → Hp → Prop), v = .ref a ∧ Pv 0 σ H1 ∧ (∀ i σ' H', i ≤ xs.length → Pv i σ' H' → SqL K H' a xs) ∧
      (∀ i x σ' H', xs[i]? = some x → Pv i σ' H' → g x σ' H' fun σ2 H2 => tu { D with nx := Pv (i + 1), ct := Pv (i + 1), bk := D.nx } σ2 H2) ∧ (∀ σ' H', Pv xs.length σ' H' → D.nx σ' H')) : tFor (iList K tl) g tu D σ H :=
  h H (Ex.refl H) _ fun v H1 e p => by
    obtain ⟨a, xs, Pv, rfl, h0, hl, hs, hd⟩ := k v H1 e p
    exact ⟨a, rfl, ⟨xs, hl 0 σ H1 (Nat.zero_le _) h0⟩, for_list Pv h0 hl hs hd⟩
theorem q_forP {tl : TE} {P : V → Hp → Prop} (h : EvP tl σ H P) (k : ∀ v H1, Ex H H1 → P v H1 → ∃ (a : Addr) (xs : List V) (Pv : Nat → L2.St → Hp → Prop), v = .ref a ∧ Pv 0 σ H1 ∧ (∀ i σ' H', i ≤ xs.length → Pv i σ' H' → SqL K H' a xs) ∧
      (∀ i x σ' H', xs[i]? = some x → Pv i σ' H' → g x σ' H' fun σ2 H2 => tu { D with nx := Pv (i + 1), ct := Pv (i + 1), bk := tz D } σ2 H2) ∧ (∀ σ' H', Pv xs.length σ' H' → tz D σ' H')) : tSeq (tFor (iList K tl) g tu) tz D σ H :=
  s_forP (D := { D with nx := tz D }) h k
/-- for i, x in enumerate(xs) -/
theorem for_enum {a : Addr} {xs : List V} {i0 j0 : Nat} (Pv : Nat → L2.St → Hp → Prop) (h0 : Pv 0 σ H) (hl : ∀ i σ' H', i ≤ xs.length → Pv i σ' H' → SqL K H' a xs)
    (hs : ∀ (i : Nat) x σ' H' H2, xs[i]? = some x → Pv i σ' H' → Ex H' H2 → tu { D with nx := Pv (i + 1), ct := Pv (i + 1), bk := D.nx } ((σ'.set i0 (some (.int (i : Int)))).set j0 (some x)) H2) (hd : ∀ σ' H', Pv xs.length σ' H' → D.nx σ' H') :
    ∃ W : Nat → Nat → L2.St → Hp → Prop, (∃ m, W 0 m σ H) ∧ ∀ i m σ H, W i m σ H →
      ((Ite K a).stop i H ∧ D.nx σ H) ∨ ((Ite K a).go i H ∧ ∃ N : L2.St → Hp → Prop, (∀ σ' H', N σ' H' → ∃ m', m' < m ∧ W (i + 1) m' σ' H') ∧ ∀ x H', (Ite K a).yld i H x H' → gTup K 2 (gCons (gName i0) (gCons (gName j0) gNil)) x σ H' fun σ2 H2 => tu { D with nx := N, ct := N, bk := D.nx } σ2 H2) := by
  refine ⟨fun i m σ H => m = xs.length - i ∧ i ≤ xs.length ∧ Pv i σ H, ⟨xs.length, by simp, Nat.zero_le _, h0⟩, ?_⟩
  rintro i m σ H ⟨rfl, hi, p⟩
  have q := hl i σ H hi p
  by_cases hlt : i < xs.length
  · refine .inr ⟨⟨xs, xs[i], q, by simp [hlt]⟩, Pv (i + 1), fun σ' H' p' => ⟨xs.length - (i + 1), by omega, rfl, hlt, p'⟩, fun x H' y => ?_⟩
    obtain ⟨T, z, rfl, hT, rfl, hz⟩ := y
    exact g_two (sq_tup upd_same) (hs i z σ H _ (hz xs q) p (Ex.new hT))
  · have e : i = xs.length := by omega
    subst e
    exact .inl ⟨⟨xs, q, Nat.le_refl _⟩, hd σ H p⟩
where sq_tup {K : PySem.W.Frag} {H : Hp} {a : Addr} {xs : List V} (h : H a = some (.tup xs)) : SqT K H a xs := st_of h
theorem s_forE {tl : TE} {P : V → Hp → Prop} {i0 j0 : Nat} (h : EvP tl σ H P) (k : ∀ v H1, Ex H H1 → P v H1 → ∃ (a : Addr) (xs : List V) (Pv : Nat → L2.St → Hp → Prop), v = .ref a ∧ Pv 0 σ H1 ∧ (∀ i σ' H', i ≤ xs.length → Pv i σ' H' → SqL K H' a xs) ∧
      (∀ (i : Nat) x σ' H' H2, xs[i]? = some x → Pv i σ' H' → Ex H' H2 → tu { D with nx := Pv (i + 1), ct := Pv (i + 1), bk := D.nx } ((σ'.set i0 (some (.int (i : Int)))).set j0 (some x)) H2) ∧ (∀ σ' H', Pv xs.length σ' H' → D.nx σ' H')) :
    tFor (iEnum K (tCons tl tNil)) (gTup K 2 (gCons (gName i0) (gCons (gName j0) gNil))) tu D σ H :=
  h H (Ex.refl H) _ fun v H1 e p => by
    obtain ⟨a, xs, Pv, rfl, h0, hl, hs, hd⟩ := k v H1 e p
    exact ⟨a, xs, rfl, hl 0 σ H1 (Nat.zero_le _) h0, for_enum Pv h0 hl hs hd⟩
theorem q_forE {tl : TE} {P : V → Hp → Prop} {i0 j0 : Nat} (h : EvP tl σ H P) (k : ∀ v H1, Ex H H1 → P v H1 → ∃ (a : Addr) (xs : List V) (Pv : Nat → L2.St → Hp → Prop), v = .ref a ∧ Pv 0 σ H1 ∧ (∀ i σ' H', i ≤ xs.length → Pv i σ' H' → SqL K H' a xs) ∧
      (∀ (i : Nat) x σ' H' H2, xs[i]? = some x → Pv i σ' H' → Ex H' H2 → tu { D with nx := Pv (i + 1), ct := Pv (i + 1), bk := tz D } ((σ'.set i0 (some (.int (i : Int)))).set j0 (some x)) H2) ∧ (∀ σ' H', Pv xs.length σ' H' → tz D σ' H')) :
    tSeq (tFor (iEnum K (tCons tl tNil)) (gTup K 2 (gCons (gName i0) (gCons (gName j0) gNil))) tu) tz D σ H := s_forE (D := { D with nx := tz D }) h k
/-- xs.extend(ys), ys a new list -/
theorem s_ext {l : Addr} {xs ys : List V} (hl : H l = some (.lst xs)) (ha : Ev ta σ H (.ref l)) (h : EvL te σ H ys) (hz : xs.length + ys.length ≤ 100000) (k : ∀ H1, Ex H H1 → D.nx σ (upd H1 l (.lst (xs ++ ys)))) :
    tDrop (tBM K "list" rExtend ta (tCons te tNil)) D σ H := ha H (Ex.refl H) _ fun H1 e1 =>
  ⟨Or.inl ⟨rfl, xs, sq_of (e1 l _ hl)⟩, h H1 e1 _ fun p H2 hp e2 h2 => ⟨l, p, xs, ys, rfl, rfl, e2 l _ (e1 l _ hl), h2, sz_of hz, k H2 (e1.trans e2)⟩⟩
theorem q_ext {l : Addr} {xs ys : List V} (hl : H l = some (.lst xs)) (ha : Ev ta σ H (.ref l)) (h : EvL te σ H ys) (hz : xs.length + ys.length ≤ 100000) (k : ∀ H1, Ex H H1 → tz D σ (upd H1 l (.lst (xs ++ ys)))) :
    tSeq (tDrop (tBM K "list" rExtend ta (tCons te tNil))) tz D σ H := s_ext (D := { D with nx := tz D }) hl ha h hz k
end
end SX

namespace SX
open PySem PySem.Spec PyProof.Rows L2 Evl
section
variable {K : PySem.W.Frag} {σ : L2.St} {H H' : Hp} {ta tb te : TE} {tt : TT} {x y z v : V}
theorem el_if {b : Bool} {xs : List V} (h : EvT tt σ H b) (h1 : b = true → EvL ta σ H xs) (h2 : b = false → EvL tb σ H xs) : EvL (tIf tt ta tb) σ H xs := fun H1 e Q q => h H1 e _ fun H2 e2 => by
  cases b with
  | true =>
    show ta σ H2 Q
    exact h1 rfl H2 (e.trans e2) Q fun p H3 hp e3 h3 => q p H3 (fresh_back e2 hp) (e2.trans e3) h3
  | false =>
    show tb σ H2 Q
    exact h2 rfl H2 (e.trans e2) Q fun p H3 hp e3 h3 => q p H3 (fresh_back e2 hp) (e2.trans e3) h3
/-- (a, b, ..)[i] -/
theorem ev_ixU {xs : List V} {i : Int} (ha : EvU ta σ H xs) (hb : Ev tb σ H (.int i)) (hx : atI xs i = some v) : Ev (tOp (rIxT K) ta tb) σ H v := fun H1 e Q q =>
  ha H1 e _ fun p H2 _ e2 hp => hb H2 (e.trans e2) _ fun H3 e3 => ⟨p, xs, i, v, rfl, rfl, st_of (e3 p _ hp), hx, q H3 (e2.trans e3)⟩
theorem ev_ixL {p : Addr} {xs : List V} {i : Int} (ha : Ev ta σ H (.ref p)) (hb : Ev tb σ H (.int i)) (h : SqL K H p xs) (hx : atI xs i = some v) : Ev (tOp (rIxL K) ta tb) σ H v := ev_op ha hb (rv_ixL h hx)
theorem ev_ixT {p : Addr} {xs : List V} {i : Int} (ha : Ev ta σ H (.ref p)) (hb : Ev tb σ H (.int i)) (h : SqT K H p xs) (hx : atI xs i = some v) : Ev (tOp (rIxT K) ta tb) σ H v := ev_op ha hb (rv_ixT h hx)
theorem at_ints {ns : List Int} {i : Int} (h0 : 0 ≤ i) (h1 : i < ns.length) : atI (ns.map V.int) i = some (.int (ns.getD i.toNat 0)) := by
  obtain ⟨j, rfl⟩ := Int.eq_ofNat_of_zero_le h0
  have hj : j < ns.length := by omega
  refine atI_nat ?_
  rw [List.getElem?_map, List.getElem?_eq_getElem hj, List.getD_eq_getElem?_getD]
  show some (V.int ns[j]) = some (V.int ((ns[((j : Nat) : Int).toNat]?).getD 0))
  rw [Int.toNat_natCast, List.getElem?_eq_getElem hj] <;> rfl
theorem cut_take (ns : List Int) (k : Nat) : cutV (ns.map V.int) none (some (k : Int)) = (ns.take k).map V.int := by
  unfold cutV
  rw [HT.sIx_none, HT.sIx_nat, List.drop_zero, Nat.sub_zero, List.length_map, List.map_take]
  by_cases h : k ≤ ns.length
  · rw [Nat.min_eq_left h]
  · rw [Nat.min_eq_right (by omega), List.take_of_length_le (by rw [List.length_map] <;> omega), List.take_of_length_le (by rw [List.length_map] <;> omega)]
theorem cut_drop (ns : List Int) (k : Nat) : cutV (ns.map V.int) (some (k : Int)) none = (ns.drop k).map V.int := by
  unfold cutV
  rw [HT.sIx_none, HT.sIx_nat, List.length_map, List.map_drop]
  by_cases h : k ≤ ns.length
  · rw [Nat.min_eq_left h, List.take_of_length_le (by rw [List.length_drop, List.length_map] <;> omega)]
  · rw [Nat.min_eq_right (by omega), List.drop_of_length_le (by rw [List.length_map] <;> omega), List.drop_of_length_le (by rw [List.length_map] <;> omega), List.take_nil]
theorem el_cutTake {te : TE} {th : TO} {a : Addr} {ns : List Int} {k : Nat} (h : Ev te σ H (.ref a)) (h2 : EvO th σ H (some (k : Int))) (hs : SqL K H a (ns.map V.int)) : EvL (tSl (rSlL K) te tNoPart th) σ H ((ns.take k).map V.int) := by
  have q := el_sl h eo_none h2 hs
  rw [cut_take] at q
  exact q
theorem el_cutDrop {te : TE} {tl : TO} {a : Addr} {ns : List Int} {k : Nat} (h : Ev te σ H (.ref a)) (h1 : EvO tl σ H (some (k : Int))) (hs : SqL K H a (ns.map V.int)) : EvL (tSl (rSlL K) te tl tNoPart) σ H ((ns.drop k).map V.int) := by
  have q := el_sl h h1 eo_none hs
  rw [cut_drop] at q
  exact q
theorem el_ints {ta : TA} {vs : List V} (ns : List Int) (h : EvA ta σ H vs) (e : vs = ns.map V.int) (hl : ns.length ≤ 100000) : EvL (tLst ta) σ H (ns.map V.int) := by
  subst e
  exact el_lst h (by rw [List.length_map]; exact hl)
theorem eu_ints {ta : TA} {vs : List V} (ns : List Int) (h : EvA ta σ H vs) (e : vs = ns.map V.int) (hl : ns.length ≤ 100000) : EvU (tTup ta) σ H (ns.map V.int) := by
  subst e
  exact eu_tup h (by rw [List.length_map]; exact hl)
/-- sorted(set(xs)) -/
theorem evp_sortSet {l : Addr} {ns : List Int} (ha : Ev ta σ H (.ref l)) (hl : SqL K H l (ns.map V.int)) (hz : ns.length < 64) :
    EvP (tSortSet K ta) σ H (fun v H1 => ∃ (p : Addr) (ms : List Int), v = .ref p ∧ H1 p = some (.lst (ms.map V.int)) ∧ ms.Pairwise (· < ·) ∧ (∀ k, k ∈ ms ↔ k ∈ ns) ∧ ms.length ≤ ns.length ∧ H p = none) := fun H1 e Q q =>
  ha H1 e _ fun H2 e2 => ⟨l, ns, rfl, ex_l (e.trans e2) hl, hz, fun ms p hp hm hlen hn => q _ _ (e2.trans (Ex.new hn)) ⟨p, ms, rfl, upd_same, hp, hm, hlen, fresh_back (e.trans e2) hn⟩⟩
/-- list(range(a, b, c)) -/
theorem el_rg3 {ta : TA} {i j c : Int} {n : Nat} (h : EvA ta σ H [.int i, .int j, .int c]) (hr : RgC i j c n) (hn : n ≤ 2 ^ 20) : EvL (tLstRg3 ta) σ H ((rgC i c n).map V.int) := fun H1 e Q q =>
  h H1 e _ fun H2 e2 => ⟨i, j, c, n, rfl, hr, hn, fun p hp => q p _ (fresh_back e2 hp) (e2.trans (Ex.new hp)) upd_same⟩
theorem fits_small {x : Int} (h : -4611686018427387904 ≤ x) (h2 : x < 4611686018427387904) : Builtin.Range.rangeFitsLong x = true := by
  unfold Builtin.Range.rangeFitsLong
  simp only [Bool.and_eq_true, decide_eq_true_eq]
  omega
theorem rgC_up {i j c : Int} (hc : 0 < c) (hc2 : c < 1000000) (hi : 0 ≤ i) (hi2 : i < 1000000000) (hj : 0 ≤ j) (hj2 : j < 1000000000) (hij : i < j) : RgC i j c ((j - i - 1) / c + 1).toNat := by
  have hs : Builtin.Range.rangeSize i j c = (j - i - 1) / c + 1 := by
    unfold Builtin.Range.rangeSize
    rw [if_pos hc, if_pos hij]
  have h0 : 0 ≤ (j - i - 1) / c := Int.ediv_nonneg (by omega) (by omega)
  have h1 : (j - i - 1) / c ≤ j - i - 1 := Int.ediv_le_self _ (by omega)
  refine ⟨by omega, by omega, ?_, by rw [hs]; omega⟩
  unfold Builtin.Range.small
  rw [hs, fits_small (by omega) (by omega), fits_small (by omega) (by omega), fits_small (by omega) (by omega), fits_small (by omega) (by omega), if_pos hc, fits_small (by omega) (by omega)]
  simp
end
end SX

/-! ### the rules within a comprehension's block: its own word is the def's -/
namespace SX
open PySem PySem.Spec PyProof.Rows L2 Evl
section
variable {X : Cx} {K : PySem.W.Frag}
theorem ix_listK (h : X.K = K := by rfl) : IxR X (rIxL K) := h ▸ ix_list
theorem ix_tupK (h : X.K = K := by rfl) : IxR X (rIxT K) := h ▸ ix_tup
theorem sl_listK (h : X.K = K := by rfl) : SlR X (rSlL K) := h ▸ sl_list
theorem call_len_seqK (h : X.K = K := by rfl) : CallR X (.builtin "len") (fun xs H Q => ∃ p ys, xs = [.ref p] ∧ (SqL K H p ys ∨ SqT K H p ys) ∧ Q (.int ys.length) H) := h ▸ call_len_seq
theorem call_isiK2 (h : X.K = K := by rfl) : CallR X (.builtin "isinstance") (rIsi K) := h ▸ call_isi
theorem pg_tupK {es : List Expr} {k : Nat} {pos : Pos} {n : Nat} {t : TGs} (hc : X.calm = true) (hq : PGs X es t) (h : X.K = K := by rfl) (hn : (assignEach es X.env).length = n := by rfl) (hst : (assignEach es X.env).findIdx? (·.1) = none := by rfl) : PG X (.Tuple es k pos) (gTup K n t) := by
  subst h
  exact pg_tup hc hq hn hst
theorem pi_listK {tg l : Expr} {tl : TE} (hl : PE X l tl) (h : X.K = K := by rfl) : PI X tg l (iList K tl) := by
  subst h
  exact pi_list hl
theorem pe_fldK {e : Expr} {f : Str} {pos : Pos} {ta : TE} (he : PE X e ta) (hb : attributeBase e f X.env (eval e X.env) = eval e X.env) (h : X.K = K := by rfl) : PE X (.Attribute e f pos) (tFld K ta f) := by
  subst h
  exact pe_fld he hb
end
theorem tyes_if {σ : L2.St} {H : Hp} {A B : Hp → Prop} (h : A H) : tYes σ H (fun b H3 => if b = true then A H3 else B H3) := by
  show (if true = true then A H else B H)
  exact iteT h
/-- a new list, its place new -/
def NewL (H : Hp) (xs : List V) : V → Hp → Prop := fun v H1 => ∃ p, v = .ref p ∧ H p = none ∧ H1 p = some (.lst xs)
theorem evp_new {σ : L2.St} {H : Hp} {te : TE} {xs : List V} (h : EvL te σ H xs) : EvP te σ H (NewL H xs) := fun H1 e Q q => h H1 e Q fun p H2 hp e2 h2 => q (.ref p) H2 e2 ⟨p, rfl, fresh_back e hp, h2⟩
section
variable {K : PySem.W.Frag} {σ : L2.St} {H H' : Hp} {ta tb te : TE} {x y z v : V}
theorem evp_call {sp : Sp} {dvs vs : List V} {E : XK} {ta : TA} {P : V → Hp → Prop} (h : EvA ta σ H vs) (hs : ∀ H1, Ex H H1 → ∀ Q : VK, (∀ v H2, Ex H1 H2 → P v H2 → Q v H2) → sp (vs ++ dvs) H1 Q E) : EvP (tCall sp dvs E ta) σ H P := fun H1 e Q q =>
  h H1 e _ fun H2 e2 => hs H2 (e.trans e2) Q fun v H3 e3 p => q v H3 (e2.trans e3) p
theorem evp_makeO {C : Addr} : EvP (tMakeO C) σ H (fun v H1 => ∃ (q dx : Addr), v = .ref q ∧ H1 q = some (.ins C dx [])) := fun H1 e Q q z dx nz ndx ne =>
  q (.ref z) _ (fun b o hb => by rw [upd_ne (ne_of_none hb nz), upd_ne (ne_of_none hb ndx)]; exact hb) ⟨z, dx, rfl, upd_same⟩
theorem el_cat {l : Addr} {xs ys : List V} (ha : Ev ta σ H (.ref l)) (hl : H l = some (.lst xs)) (hb : EvL tb σ H ys) (hz : xs.length + ys.length ≤ 100000) : EvL (tOp rCat ta tb) σ H (xs ++ ys) := fun H1 e Q q =>
  ha H1 e _ fun H2 e2 => hb H2 (e.trans e2) _ fun p H3 hp e3 h3 => ⟨l, p, xs, ys, rfl, rfl, e3 l _ (e2 l _ (e l _ hl)), h3, sz_of hz, fun r hr => q r _ (fresh_back (e2.trans e3) hr) ((e2.trans e3).trans (Ex.new hr)) upd_same⟩
theorem rv_isbl {a b : Bool} : RV (fun x y H Q => ∃ a b, x = .bl a ∧ y = .bl b ∧ Q (.bl (decide (a = b))) H) (.bl a) (.bl b) H (.bl (decide (a = b))) := fun H1 _ _ q => ⟨a, b, rfl, rfl, q H1 (Ex.refl H1)⟩
/-- two tuples of two tuples of ints, the same -/
theorem rv_eqPP {p q a b c d : Addr} {as bs : List Int} (hp : SqT K H p [.ref a, .ref b]) (hq : SqT K H q [.ref c, .ref d]) (ha : SqT K H a (as.map V.int)) (hb : SqT K H b (bs.map V.int)) (hc : SqT K H c (as.map V.int)) (hd : SqT K H d (bs.map V.int)) : RV (rEqD K) (.ref p) (.ref q) H (.bl true) := fun H1 e Q k => by
  have sh : SeqAt.shaped (.tuple [.tuple (as.map PyData.int), .tuple (bs.map PyData.int)]) = true := by
    simp [SeqAt.shaped, PyData.canLay0, PyData.canLayAll0, PyData.depth, PyData.depthAll, PySem.W.ke_canLayAll0, PySem.W.ke_depthAll]
  have eq : PyData.eqv (.tuple [.tuple (as.map PyData.int), .tuple (bs.map PyData.int)]) (.tuple [.tuple (as.map PyData.int), .tuple (bs.map PyData.int)]) = true := by
    simp [PyData.eqv, PyData.eqvAll, PySem.W.ked_eqvAll]
  exact ⟨_, _, .tup (ex_t e hp) (.cons (.tup (ex_t e ha) (dpAll_ints as)) (.cons (.tup (ex_t e hb) (dpAll_ints bs)) .nil)), .tup (ex_t e hq) (.cons (.tup (ex_t e hc) (dpAll_ints as)) (.cons (.tup (ex_t e hd) (dpAll_ints bs)) .nil)), sh, sh, by rw [eq]; exact k H1 (Ex.refl H1)⟩
end
end SX

namespace SX
open PySem PySem.Spec PyProof.Rows L2 Evl
/-! ### an own exception class: what the top has left -/
structure XC (K : PySem.W.Frag) (mg : Str → Option Value) (nm : Str) (C : Addr) : Prop where
  x : PySem.W.excIn K C [.type "ValueError", .type "Exception", .type "BaseException", .type "object"] "ValueError.__new__" = true
  g : mg nm = some (.ref C)
  k : PySem.W.keepIn K (.ref C) = true
  b : PySem.W.subIn K (.ref C) (.type "BaseException") = some true
  t : PySem.W.typeIn K (.ref C) = some (.type "type")
/-- an own class whose instances isinstance asks -/
structure IsC (K : PySem.W.Frag) (C : Addr) : Prop where
  ha : PySem.W.findIn K (.ref C) "__class__" = some (some (.builtin "object.__class__"))
  hn : PySem.W.specialIn K (.builtin "object.__class__") "__get__" = some (some (.builtin "getset_descriptor.__get__"))
  ht : PySem.W.takesIn K (.builtin "object.__class__") = some true
  hm : PySem.W.mroIn K C (.type "object") = some true
section
variable {K : PySem.W.Frag} {σ : L2.St} {H H' : Hp} {ta tb te : TE} {tt : TT} {x y z v : V} {D : Ends} {tz tu : TS}
theorem rc_isiOwn {p C C2 dx : Addr} {fs : List (Str × V)} {b : Bool} (c : Cls K C) (I : IsC K C) (hk : PySem.W.kitOne K (.ref C) (.ref C2) = some b) (h : H p = some (.ins C dx fs)) : RC (rIsi K) [.ref p, .ref C2] H (.bl b) :=
  rc_isi (.own C2) (fun H1 e => .base (.ins (e p _ h) c I.ha I.hn I.ht I.hm)) hk
theorem rc_isiOwnT {p C dx : Addr} {n : String} {fs : List (Str × V)} {b : Bool} (c : Cls K C) (I : IsC K C) (hk : PySem.W.kitOne K (.ref C) (.type n) = some b) (h : H p = some (.ins C dx fs)) : RC (rIsi K) [.ref p, .ty n] H (.bl b) :=
  rc_isi (.ty n) (fun H1 e => .base (.ins (e p _ h) c I.ha I.hn I.ht I.hm)) hk
/-! ### calls that may raise -/
theorem ev_callS {sp : Sp} {vs : List V} {E : L2.St → XK} {ta : TA} (h : EvA ta σ H vs) (hs : SpV sp vs H z) : Ev (tCallS sp E ta) σ H z := fun H1 e Q q =>
  h H1 e _ fun H2 e2 => hs H2 (e.trans e2) Q (fun H3 e3 => q H3 (e2.trans e3)) (E σ)
/-- a call as a statement: it returns or raises, as its promise says -/
theorem s_callX {sp : Sp} {vs : List V} {E : L2.St → XK} {ta : TA} (h : EvA ta σ H vs) (hs : ∀ H1, Ex H H1 → sp vs H1 (fun _ H2 => D.nx σ H2) (E σ)) : tDrop (tCallS sp E ta) D σ H := h H (Ex.refl H) _ fun H1 e => hs H1 e
theorem q_callX {sp : Sp} {vs : List V} {E : L2.St → XK} {ta : TA} (h : EvA ta σ H vs) (hs : ∀ H1, Ex H H1 → sp vs H1 (fun _ H2 => tz D σ H2) (E σ)) : tSeq (tDrop (tCallS sp E ta)) tz D σ H := s_callX (D := { D with nx := tz D }) h hs
theorem evp_callS {sp : Sp} {vs : List V} {E : L2.St → XK} {ta : TA} {P : V → Hp → Prop} (h : EvA ta σ H vs) (hs : ∀ H1, Ex H H1 → ∀ Q : VK, (∀ v H2, Ex H1 H2 → P v H2 → Q v H2) → sp vs H1 Q (E σ)) : EvP (tCallS sp E ta) σ H P := fun H1 e Q q =>
  h H1 e _ fun H2 e2 => hs H2 (e.trans e2) Q fun v H3 e3 p => q v H3 (e2.trans e3) p
/-! ### all, any of a new list -/
theorem ev_allN {bs : List Bool} (h : EvL ta σ H (bs.map V.bl)) : Ev (tCB (rAll K) (tCons ta tNil)) σ H (.bl (bs.all id)) := fun H1 e Q q =>
  h H1 e _ fun p H2 _ e2 h2 => ⟨p, bs, rfl, sq_of h2, q H2 e2⟩
theorem ev_anyN {bs : List Bool} (h : EvL ta σ H (bs.map V.bl)) : Ev (tCB (rAny K) (tCons ta tNil)) σ H (.bl (bs.any id)) := fun H1 e Q q =>
  h H1 e _ fun p H2 _ e2 h2 => ⟨p, bs, rfl, sq_of h2, q H2 e2⟩
theorem ev_any {p : Addr} {bs : List Bool} (h : Ev ta σ H (.ref p)) (hp : SqL K H p (bs.map V.bl)) : Ev (tCB (rAny K) (tCons ta tNil)) σ H (.bl (bs.any id)) := fun H1 e Q q =>
  h H1 e _ fun H2 e2 => ⟨p, bs, rfl, ex_l (e.trans e2) hp, q H2 e2⟩
theorem given_bl (n : Nat) (f : Nat → Bool) : given n (fun _ => true) (fun i => .bl (f i)) = ((List.range n).map f).map V.bl := by
  unfold given
  rw [List.filter_eq_self.mpr fun _ _ => rfl, List.map_map]
  rfl
theorem given_int (n : Nat) (f : Nat → Int) : given n (fun _ => true) (fun i => .int (f i)) = ((List.range n).map f).map V.int := by
  unfold given
  rw [List.filter_eq_self.mpr fun _ _ => rfl, List.map_map]
  rfl
/-! ### [e for x, y in zip(xs, ys)], ys a new list -/
theorem el_lcZ {ta : TE} {tb : TE} {i0 j0 : Nat} {vs : List Nat} {a : Addr} {xs ys : List V} (v : Nat → V) (ha : Ev ta σ H (.ref a)) (hx : SqL K H a xs) (hb : EvL tb σ H ys) (hz : xs.length ≤ 40000)
    (hw : ∀ x y, wipe (((wipe σ vs).set i0 (some x)).set j0 (some y)) vs = wipe σ vs)
    (he : ∀ (i : Nat) (x y : V) H1, Ex H H1 → xs[i]? = some x → ys[i]? = some y → Ev te (((wipe σ vs).set i0 (some x)).set j0 (some y)) H1 (v i)) :
    EvL (tLc (iZip K (tCons ta (tCons tb tNil))) (gTup K 2 (gCons (gName i0) (gCons (gName j0) gNil))) tYes te vs) σ H (given (min xs.length ys.length) (fun _ => true) v) := fun H0 e Q q => by
  refine ha H0 e _ fun H1 e1 => hb H1 (e.trans e1) _ fun b H2 hb2 e2 h2 => ⟨a, b, xs, ys, rfl, ex_l ((e.trans e1).trans e2) hx, sq_of h2, fun Dl hD => ?_⟩
  have e02 : Ex H H2 := (e.trans e1).trans e2
  refine ⟨fun i m H' => m = min xs.length ys.length - i ∧ i ≤ min xs.length ys.length ∧ Cw H2 (fun _ => true) v Dl i H', ⟨_, rfl, Nat.zero_le _, hD, Ex.new hD, upd_same⟩, ?_⟩
  rintro i m H' ⟨rfl, hi, p⟩
  obtain ⟨p1, p2, p3⟩ := p
  have qx := ex_l (e02.trans p2) hx
  have qy : SqL K H' b ys := ex_l p2 (sq_of h2)
  by_cases hlt : i < min xs.length ys.length
  · have hx1 : xs[i]? = some xs[i] := List.getElem?_eq_getElem (by omega)
    have hy1 : ys[i]? = some ys[i] := List.getElem?_eq_getElem (by omega)
    refine .inr ⟨⟨xs, ys, xs[i], ys[i], qx, qy, hx1, hy1⟩, Cw H2 (fun _ => true) v Dl (i + 1), fun H'' h'' => ⟨_, by omega, rfl, hlt, h''⟩, ?_⟩
    rintro x H3 ⟨T, x1, y1, rfl, hT, rfl, hx2, hy2⟩
    obtain rfl : x1 = xs[i] := Option.some.inj ((hx2 _ qx).symm.trans hx1)
    obtain rfl : y1 = ys[i] := Option.some.inj ((hy2 _ qy).symm.trans hy1)
    refine g_two (st_of upd_same) ⟨hw _ _, ?_⟩
    exact cw_turn (t := tYes) (te := te) ⟨p1, p2.trans (Ex.new hT), by rw [upd_ne (ne_of_none p3 hT)]; exact p3⟩ (by omega) (fun H4 e4 Q4 q4 => q4 H4 (Ex.refl H4)) fun _ => he i _ _ H2 e02 hx1 hy1
  · have hii : i = min xs.length ys.length := by omega
    refine .inl ⟨⟨xs, ys, qx, qy, by omega⟩, ?_⟩
    subst hii
    exact q Dl H' (fresh_back (e1.trans e2) p1) ((e1.trans e2).trans p2) p3
/-! ### dicts of ints -/
theorem ev_din {a : Addr} {kvs : List (Key × V)} {n : Int} (hk : Ev ta σ H (.int n)) (hd : Ev tb σ H (.ref a)) (h : H a = some (.dK kvs)) : Ev (tDIn ta tb) σ H (.bl (valV kvs (.inl n)).isSome) := fun H1 e Q q =>
  hk H1 e _ fun H2 e2 => hd H2 (e.trans e2) _ fun H3 e3 => ⟨a, _, rfl, DGet.k (k := .inl n) (((e.trans e2).trans e3) a _ h), q H3 (e2.trans e3)⟩
theorem ev_dget {a : Addr} {kvs : List (Key × V)} {n : Int} (hd : Ev ta σ H (.ref a)) (hk : Ev tb σ H (.int n)) (h : H a = some (.dK kvs)) (hv : valV kvs (.inl n) = some v) : Ev (tDGet ta tb) σ H v := fun H1 e Q q =>
  hd H1 e _ fun H2 e2 => hk H2 (e.trans e2) _ fun H3 e3 => ⟨a, v, rfl, hv ▸ DGet.k (k := .inl n) (((e.trans e2).trans e3) a _ h), q H3 (e2.trans e3)⟩
theorem s_dput {a : Addr} {kvs : List (Key × V)} {n : Int} (h : H a = some (.dK kvs)) (hv : Ev te σ H v) (hd : Ev ta σ H (.ref a)) (hk : Ev tb σ H (.int n)) (hz : kvs.length < 100000)
    (k : ∀ H1, Ex H H1 → D.nx σ (upd H1 a (.dK (putK kvs (.inl n) v)))) : sDPut ta tb te D σ H := hv H (Ex.refl H) _ fun H1 e1 => hd H1 e1 _ fun H2 e2 => hk H2 (e1.trans e2) _ fun H3 e3 =>
  ⟨a, _, rfl, DPut.k (k := .inl n) (((e1.trans e2).trans e3) a _ h) (sz_lt hz), k H3 ((e1.trans e2).trans e3)⟩
theorem q_dput {a : Addr} {kvs : List (Key × V)} {n : Int} (h : H a = some (.dK kvs)) (hv : Ev te σ H v) (hd : Ev ta σ H (.ref a)) (hk : Ev tb σ H (.int n)) (hz : kvs.length < 100000)
    (k : ∀ H1, Ex H H1 → tz D σ (upd H1 a (.dK (putK kvs (.inl n) v)))) : tSeq (sDPut ta tb te) tz D σ H := s_dput (D := { D with nx := tz D }) h hv hd hk hz k
theorem q_asgD {i : Nat} (k : ∀ p, H p = none → tz D (σ.set i (some (.ref p))) (upd H p (.dK []))) : tSeq (tAsg tDNewK (gName i)) tz D σ H := fun p hp => k p hp
theorem val_mem {kvs : List (Key × V)} {k : Key} : valV kvs k = some v → (k, v) ∈ kvs := by
  induction kvs with
  | nil => intro h; rw [valV_nil] at h; cases h
  | cons p r ih =>
    intro h
    by_cases e : p.1 = k
    · rw [valV_pos e] at h
      cases h
      exact List.mem_cons.mpr (.inl (by rw [← e]))
    · rw [valV_neg e] at h
      exact List.mem_cons_of_mem _ (ih h)
theorem val_none {kvs : List (Key × V)} {k : Key} : valV kvs k = none → ∀ w, (k, w) ∉ kvs := by
  induction kvs with
  | nil => intro _ w hw; cases hw
  | cons p r ih =>
    intro h w hw
    by_cases e : p.1 = k
    · rw [valV_pos e] at h
      cases h
    · rw [valV_neg e] at h
      rcases List.mem_cons.mp hw with q | q
      · exact e (by rw [← q])
      · exact ih h w q
end
/-! ### math.isqrt -/
def rIsqrt : List V → Hp → VK → Prop := fun vs H Q => ∃ a : Int, vs = [.int a] ∧ 0 ≤ a ∧ a < 2 ^ 64 ∧ Q (.int ((Float64.isqrt a.toNat : Nat) : Int)) H
theorem cr_isqrt {X : Cx} : CallR X (.builtin "math.isqrt") rIsqrt := by
  intro pins s σ H vs us Q I r h
  obtain ⟨a, rfl, h0, h1, q⟩ := h
  cases r with
  | cons ra rn =>
    cases rn
    obtain ⟨t, rfl⟩ := ra
    exact PySem.W.mg_isqrt h0 h1 ⟨.int _, H, I.tok _, ⟨_, rfl⟩, q⟩
theorem ev_isqrt {σ : L2.St} {H : Hp} {ta : TE} {a : Int} (ha : Ev ta σ H (.int a)) (h0 : 0 ≤ a) (h1 : a < 2 ^ 64) : Ev (tCB rIsqrt (tCons ta tNil)) σ H (.int ((Float64.isqrt a.toNat : Nat) : Int)) := fun H1 e Q q =>
  ha H1 e _ fun H2 e2 => ⟨a, rfl, h0, h1, q H2 e2⟩
end SX

namespace SX
open PySem PySem.Spec PyProof.Rows L2 Evl
/-! ### one of two ways to read -/
def tEither (t u : TE) : TE := fun σ H Q => t σ H Q ∨ u σ H Q
theorem pe_either {X : Cx} {e : Expr} {t u : TE} (h1 : PE X e t) (h2 : PE X e u) : PE X e (tEither t u) := ⟨fun pins s σ H Q I h => by
  rcases h with h | h
  · exact h1.run pins s σ H Q I h
  · exact h2.run pins s σ H Q I h⟩
section
variable {K : PySem.W.Frag} {σ : L2.St} {H H' : Hp} {ta tb te : TE} {tt : TT} {x y z v : V} {D : Ends} {tz tu : TS}
theorem ev_e1 (h : Ev ta σ H v) : Ev (tEither ta tb) σ H v := fun H1 e Q q => .inl (h H1 e Q q)
theorem ev_e2 (h : Ev tb σ H v) : Ev (tEither ta tb) σ H v := fun H1 e Q q => .inr (h H1 e Q q)
/-! ### xs[::-1] -/
theorem el_rev {a : Addr} {xs : List V} (h : Ev te σ H (.ref a)) (hx : SqL K H a xs) : EvL (tRevL K te) σ H xs.reverse := fun H1 e Q q =>
  h H1 e _ fun H2 e2 => ⟨a, xs, rfl, ex_l (e.trans e2) hx, fun p hp => q p _ (fresh_back e2 hp) (e2.trans (Ex.new hp)) upd_same⟩
theorem rv_isB {a b : Bool} : RV rIsB (.bl a) (.bl b) H (.bl (decide (a = b))) := fun H1 _ _ q => ⟨a, b, rfl, rfl, q H1 (Ex.refl H1)⟩
theorem rv_notB {a b : Bool} : RV rNotB (.bl a) (.bl b) H (.bl (!decide (a = b))) := fun H1 _ _ q => ⟨a, b, rfl, rfl, q H1 (Ex.refl H1)⟩
end
/-! ### xs[::c], c written -/
def pick (c : Int) (n : Nat) : List Nat := sliceRange (sliceBounds none none (some c) n).1 (sliceBounds none none (some c) n).2.1 (sliceBounds none none (some c) n).2.2
def stepV {α : Type} (c : Int) (xs : List α) : List α := (pick c xs.length).filterMap (xs[·]?)
def tStep (K : PySem.W.Frag) (c : Int) (te : TE) : TE := fun σ H Q => te σ H fun x H1 => ∃ a xs, x = .ref a ∧ SqL K H1 a xs ∧ ∀ p, H1 p = none → Q (.ref p) (upd H1 p (.lst (stepV c xs)))
theorem vals_pick {xs : List V} {its : List Value} (r : Vals xs its) : ∀ l : List Nat, Vals (l.filterMap (xs[·]?)) (l.filterMap (its[·]?))
  | [] => .nil
  | i :: l => by
    have ih := vals_pick r l
    cases hx : xs[i]? with
    | none =>
      have hi : its[i]? = none := by
        rw [List.getElem?_eq_none_iff] at hx ⊢
        rw [← r.length]
        exact hx
      rw [List.filterMap_cons, List.filterMap_cons]
      simp only [hx, hi]
      exact ih
    | some x =>
      obtain ⟨u, hu, ru⟩ := r.get hx
      rw [List.filterMap_cons, List.filterMap_cons]
      simp only [hx, hu]
      exact .cons ru ih
theorem pe_step {X : Cx} {e : Expr} {te : TE} {c : Nat} {k : Nat} {p1 p3 pos : Pos} (he : PE X e te) (h0 : (c : Int) ≠ 0 := by decide) : PE X (.Subscript e (.Slice none none (some (.Constant (.int c) k p1)) p3) pos) (tStep X.K c te) := by
  refine ⟨fun pins s σ H Q I h => ?_⟩
  refine Subscript_ (thn (he.run pins s σ H _ I h) fun v s1 ⟨x, H1, I1, r1, q1⟩ => ?_)
  obtain ⟨a, xs, ex, hx, q⟩ := q1
  subst ex
  cases r1
  have hst : PO X (some (.Constant (.int c) k p1)) (tPart (tC (.int c))) := po_some pe_int
  refine wpAny_Slice (thn (po_none.run pins s1 σ H1 (fun o H2 => o = none ∧ H2 = H1) I1 ⟨rfl, rfl⟩) fun vl s2 ⟨l, H2, I2, pl, el, e2⟩ => ?_)
  subst el e2
  refine thn (po_none.run pins s2 σ H2 (fun o H3 => o = none ∧ H3 = H2) I2 ⟨rfl, rfl⟩) fun vu s3 ⟨u, H3, I3, pu, eu, e3⟩ => ?_
  subst eu e3
  refine thn (hst.run pins s3 σ H3 (fun o H4 => o = some (c : Int) ∧ H4 = H3) I3 ⟨(c : Int), rfl, rfl, rfl⟩) fun vs s4 ⟨o, H4, I4, ps, eo, e4⟩ => ?_
  subst eo e4
  have I5 : Inv X pins σ H4 { s4 with heap := s4.heap.push { cls := .type "slice", data := .fields #[vl, vu, vs] } } := I4.kept (t' := s4.toks) fun b ob q => Heap.get?_push_of_some _ q
  obtain ⟨its, r, ht, hz⟩ := I5.list hx
  have hlen := r.length
  show wpAny (model X.prog X.w) X.A (subscriptTail e (.Slice none none (some (.Constant (.int c) k p1)) p3) (.ref a) (.ref s4.heap.objs.size)) (EP X pins σ Q) X.xe { s4 with heap := s4.heap.push { cls := .type "slice", data := .fields #[vl, vu, vs] } }
  refine tail_any (ops := [.ref a, .ref s4.heap.objs.size]) ht.isList.typeIs (PySem.slot_list_getitem.lookup) ?_ (by with_unfolding_all rfl)
  refine wpAny_getItem_list_slice ht.isList (Heap.IsSliceOf.new _ vl vu vs) pl pu ps (by intro z; exact h0 (Option.some.inj z)) ?_ (by rw [List.size_toArray]; omega)
  have hpk : slicePick its.toArray none none (some (c : Int)) = (stepV (c : Int) its).toArray := by
    unfold slicePick stepV pick
    rw [List.size_toArray]
    congr 1
    congr 1
    funext i
    simp
  rw [hpk]
  have hv : Vals (stepV (c : Int) xs) (stepV (c : Int) its) := by
    unfold stepV
    rw [hlen]
    exact vals_pick r _
  have hl2 : (stepV (c : Int) xs).length ≤ sizeLine := by
    have h1 := slicePick_size_le its.toArray none none (some (c : Int))
    rw [hpk, List.size_toArray, List.size_toArray, ← hv.length, ← hlen] at h1
    omega
  refine ⟨.ref _, _, I5.laid (t' := s4.toks) (o := .lst (stepV (c : Int) xs)) (fun b ob q => Heap.get?_push_of_some _ q) (Nat.le_refl _) ?_, rfl, q _ (I5.hok.fresh (Nat.le_refl _))⟩
  exact ⟨hl2, _, 0, hv, Heap.get?_push_size _ rfl⟩
theorem step_ints (c : Int) (ns : List Int) : stepV c (ns.map V.int) = (stepV c ns).map V.int := by
  unfold stepV
  rw [List.length_map, List.map_filterMap]
  congr 1
  funext i
  rw [List.getElem?_map]
theorem pick_rise (c : Int) (hc : 0 < c) (n : Nat) : (pick c n).Pairwise (· < ·) := by
  unfold pick sliceRange sliceBounds
  simp only [Option.getD_some]
  refine List.pairwise_map.mpr (List.Pairwise.imp ?_ List.pairwise_lt_range)
  intro a b hab
  have h : c * (a : Int) < c * (b : Int) := Int.mul_lt_mul_of_pos_left (by omega) hc
  have h0 : 0 ≤ c * (a : Int) := Int.mul_nonneg (by omega) (by omega)
  simp only [hc, if_true]
  omega
theorem step_le {α : Type} (c : Int) (hc : 0 < c) (xs : List α) : (stepV c xs).length ≤ xs.length := by
  unfold stepV
  refine Nat.le_trans (List.length_filterMap_le _ _) ?_
  unfold pick
  refine sliceRange_length_le _ _ _ _ (fun _ => ?_) fun h => ?_
  · simp [sliceBounds, hc]
  · simp [sliceBounds] at h
    omega
theorem step_mem {α : Type} {c : Int} {xs : List α} {x : α} (h : x ∈ stepV c xs) : x ∈ xs := by
  unfold stepV at h
  obtain ⟨i, _, hi⟩ := List.mem_filterMap.mp h
  exact List.mem_of_getElem? hi
theorem step_rise {c : Int} (hc : 0 < c) {ns : List Int} (h : ns.Pairwise (· < ·)) : (stepV c ns).Pairwise (· < ·) := by
  unfold stepV
  refine List.Pairwise.filterMap _ ?_ (pick_rise c hc ns.length)
  intro i j hij a ha b hb
  obtain ⟨h1, rfl⟩ := List.getElem?_eq_some_iff.mp ha
  obtain ⟨h2, rfl⟩ := List.getElem?_eq_some_iff.mp hb
  exact List.pairwise_iff_getElem.mp h i j h1 h2 hij
theorem el_step {K : PySem.W.Frag} {σ : L2.St} {H : Hp} {te : TE} {a : Addr} {ns : List Int} {c : Int} (h : Ev te σ H (.ref a)) (hx : SqL K H a (ns.map V.int)) : EvL (tStep K c te) σ H ((stepV c ns).map V.int) := fun H1 e Q q =>
  h H1 e _ fun H2 e2 => ⟨a, _, rfl, ex_l (e.trans e2) hx, fun p hp => q p _ (fresh_back e2 hp) (e2.trans (Ex.new hp)) (by rw [upd_same, step_ints])⟩
section
variable {K : PySem.W.Frag} {σ : L2.St} {H H' : Hp} {ta tb te : TE} {tt : TT} {x y z v : V} {D : Ends} {tz tu : TS}
theorem eap_1 {t1 : TE} {P1 : V → Hp → Prop} (h1 : EvP t1 σ H P1) : EvAP (tCons t1 tNil) σ H (fun vs H => ∃ x, vs = [x] ∧ P1 x H) := fun H1 e Q q =>
  h1 H1 e _ fun x H2 e2 p => q [x] H2 e2 ⟨x, rfl, p⟩
theorem eap_2 {t1 t2 : TE} {P1 P2 : V → Hp → Prop} (m1 : Mono P1) (h1 : EvP t1 σ H P1) (h2 : EvP t2 σ H P2) : EvAP (tCons t1 (tCons t2 tNil)) σ H (fun vs H => ∃ x y, vs = [x, y] ∧ P1 x H ∧ P2 y H) := fun H1 e Q q =>
  h1 H1 e _ fun x H2 e2 p1 => h2 H2 (e.trans e2) _ fun y H3 e3 p2 => q [x, y] H3 (e2.trans e3) ⟨x, y, rfl, m1 _ _ _ e3 p1, p2⟩
/-- a list of two things -/
def L2P (P1 P2 : V → Hp → Prop) : V → Hp → Prop := fun v H => ∃ p x y, v = .ref p ∧ H p = some (.lst [x, y]) ∧ P1 x H ∧ P2 y H
theorem L2P.mono {P1 P2 : V → Hp → Prop} (m1 : Mono P1) (m2 : Mono P2) : Mono (L2P P1 P2) := fun _ _ _ e ⟨p, x, y, h, q, h1, h2⟩ => ⟨p, x, y, h, e p _ q, m1 _ _ _ e h1, m2 _ _ _ e h2⟩
theorem evp_lst2 {t1 t2 : TE} {P1 P2 : V → Hp → Prop} (m1 : Mono P1) (m2 : Mono P2) (h1 : EvP t1 σ H P1) (h2 : EvP t2 σ H P2) : EvP (tLst (tCons t1 (tCons t2 tNil))) σ H (L2P P1 P2) := fun H1 e Q q =>
  eap_2 m1 h1 h2 H1 e _ fun vs H2 e2 ⟨x, y, evs, p1, p2⟩ => by
    subst evs
    exact ⟨by show 2 ≤ sizeLine; decide, fun p hp => q _ _ (e2.trans (Ex.new hp)) ⟨p, x, y, rfl, upd_same, m1 _ _ _ (Ex.new hp) p1, m2 _ _ _ (Ex.new hp) p2⟩⟩
/-- an operation on two such things -/
theorem ev_opPP {r : R2} {P1 P2 : V → Hp → Prop} (m1 : Mono P1) (h1 : EvP ta σ H P1) (h2 : EvP tb σ H P2) (hr : ∀ x y H1, Ex H H1 → P1 x H1 → P2 y H1 → RV r x y H1 z) : Ev (tOp r ta tb) σ H z := fun H1 e Q q =>
  h1 H1 e _ fun x H2 e2 p1 => h2 H2 (e.trans e2) _ fun y H3 e3 p2 => hr x y H3 ((e.trans e2).trans e3) (m1 _ _ _ e3 p1) p2 H3 (Ex.refl H3) Q fun H4 e4 => q H4 ((e2.trans e3).trans e4)
theorem evp_callP {sp : Sp} {dvs : List V} {E : XK} {ta : TA} {R : List V → Hp → Prop} {P : V → Hp → Prop} (h : EvAP ta σ H R) (hs : ∀ vs H1, Ex H H1 → R vs H1 → ∀ Q : VK, (∀ v H2, Ex H1 H2 → P v H2 → Q v H2) → sp (vs ++ dvs) H1 Q E) : EvP (tCall sp dvs E ta) σ H P := fun H1 e Q q =>
  h H1 e _ fun vs H2 e2 r => hs vs H2 (e.trans e2) r Q fun v H3 e3 p => q v H3 (e2.trans e3) p
theorem ev_cbP {r : List V → Hp → VK → Prop} {ta : TA} {R : List V → Hp → Prop} (h : EvAP ta σ H R) (hr : ∀ vs H1, Ex H H1 → R vs H1 → RC r vs H1 z) : Ev (tCB r ta) σ H z := fun H1 e Q q =>
  h H1 e _ fun vs H2 e2 p => hr vs H2 (e.trans e2) p H2 (Ex.refl H2) Q fun H3 e3 => q H3 (e2.trans e3)
/-- [a, b, ..][i], the things of a kind -/
theorem evp_ixL {P : V → Hp → Prop} {n : Nat} {i : Int} (m : Mono P) (h : EvP ta σ H (LstN P n)) (hb : Ev tb σ H (.int i)) (h0 : 0 ≤ i) (h1 : i < n) : EvP (tOp (rIxL K) ta tb) σ H P := fun H1 e Q q =>
  h H1 e _ fun x H2 e2 ⟨p, xs, ex, hp, hl, hx⟩ => hb H2 (e.trans e2) _ fun H3 e3 => by
    subst ex
    obtain ⟨j, rfl⟩ := Int.eq_ofNat_of_zero_le h0
    have hj : j < xs.length := by omega
    exact ⟨p, xs, (j : Int), xs[j], rfl, rfl, sq_of (e3 p _ hp), atI_nat (List.getElem?_eq_getElem hj), q _ _ (e2.trans e3) (m _ _ _ e3 (hx _ (List.getElem_mem hj)))⟩
end
/-- two lists of two tuples of ints, the same -/
theorem rv_neL2 {K : PySem.W.Frag} {H : Hp} {p q a b c d : Addr} {as bs : List Int} (hp : SqL K H p [.ref a, .ref b]) (hq : SqL K H q [.ref c, .ref d]) (ha : SqT K H a (as.map V.int)) (hb : SqT K H b (bs.map V.int)) (hc : SqT K H c (as.map V.int)) (hd : SqT K H d (bs.map V.int)) : RV (rNeD K) (.ref p) (.ref q) H (.bl false) := fun H1 e Q k => by
  have sh : SeqAt.shaped (.list [.tuple (as.map PyData.int), .tuple (bs.map PyData.int)]) = true := by
    simp [SeqAt.shaped, PyData.canLay0, PyData.canLayAll0, PyData.depth, PyData.depthAll, PySem.W.ke_canLayAll0, PySem.W.ke_depthAll]
  have eq : PyData.eqv (.list [.tuple (as.map PyData.int), .tuple (bs.map PyData.int)]) (.list [.tuple (as.map PyData.int), .tuple (bs.map PyData.int)]) = true := by
    simp [PyData.eqv, PyData.eqvAll, PySem.W.ked_eqvAll]
  exact ⟨_, _, .lst (ex_l e hp) (.cons (.tup (ex_t e ha) (dpAll_ints as)) (.cons (.tup (ex_t e hb) (dpAll_ints bs)) .nil)), .lst (ex_l e hq) (.cons (.tup (ex_t e hc) (dpAll_ints as)) (.cons (.tup (ex_t e hd) (dpAll_ints bs)) .nil)), sh, sh, by rw [eq]; exact k H1 (Ex.refl H1)⟩
/-! ### isinstance of own classes: what the top has left -/
theorem kit_own {K : PySem.W.Frag} {C D : Addr} {b : Bool} (hdct : PySem.W.hasDictIn K D = true) (ht : PySem.W.typeIn K (.ref D) = some (.type "type")) (h4 : PySem.W.subIn K (.ref C) (.ref D) = some b) (hs : PySem.W.subIn K (.ref D) (.ref D) = some true) : PySem.W.kitOne K (.ref C) (.ref D) = some b := by
  obtain ⟨cd, hc, _⟩ := PySem.W.any_some hdct
  have e2 : ((PySem.W.clsIn K D).isSome && PySem.W.typeIn K (.ref D) == some (.type "type")) = true := by rw [hc, ht] <;> rfl
  unfold PySem.W.kitOne
  by_cases e : (Value.ref C == Value.ref D) = true
  · rw [if_pos e]
    have e3 : C = D := by
      have := eq_of_beq e
      injection this
    subst e3
    rw [hs] at h4
    exact h4
  · rw [if_neg e]
    show (if ((PySem.W.clsIn K D).isSome && PySem.W.typeIn K (.ref D) == some (.type "type")) = true then PySem.W.subIn K (.ref C) (.ref D) else none) = some b
    rw [if_pos e2]
    exact h4
end SX

/-! ### the end of a list where an exception is handled -/
namespace SX
open PySem PySem.Spec PyProof.Rows L2 Evl HotX
section
variable {prog : Program} {w : World} {A : Around} {E : Value → Shared → Prop} {s : Shared}
theorem pyNext_list_end_hot {it l x1 : Addr} {i : Nat} {items : Array Value} {Q : Option Value → Shared → Prop} (hot : HotAt A x1 s.heap) (hne : x1 ≠ it)
    (hit : s.heap.IsListIter it l i) (hl : s.heap.IsList l items) (hx : items[i]? = none)
    (hQ : ∀ h', (∀ b o, b ≠ it → s.heap.get? b = some o → h'.get? b = some o) → Q none { s with heap := h' }) : wpAny (model prog w) A (pyNext (.ref it)) Q E s := by
  obtain ⟨o, ho, hc, hd⟩ := id hit
  obtain ⟨ol, hol, _, nl, hdl⟩ := hl
  obtain ⟨hh, o1, vs1, h1, d1, c1⟩ := hot
  unfold pyNext
  refine wpAny_bind (wpAny_attempt (wpAny_callSpecial?_slot (name := Str.ofString "__next__") hit.typeIs slot_listiter_next
    (wpAny_call_entry slot_listiter_next hit.typeIs entry_listiter_next ?_ (args_listiter_next _))))
  show wpAny _ _ (field (.ref it) 0 >>= _) _ _ s
  refine wpAny_bind (wpAny_field ho hd (x := .ref l) rfl ?_)
  show wpAny _ _ (if (Value.ref l == Value.none) = true then _ else _) _ _ s
  rw [if_neg (show ¬ ((Value.ref l == Value.none) = true) from Bool.false_ne_true)]
  show wpAny _ _ (field (.ref it) 1 >>= _) _ _ s
  refine wpAny_bind (wpAny_field ho hd (x := .int i 0) rfl ?_)
  show wpAny _ _ (seqItems? (.ref l) >>= _) _ _ s
  refine wpAny_bind (wpAny_seqItems hol hdl ?_)
  simp only [Int.toNat_natCast, hx]
  refine wpAny_bind (wpAny_rule (wpAny_bind (wpAny_setField ho hd (by simp) ?_)))
  have keep : ∀ b o, b ≠ it → s.heap.get? b = some o → (s.heap.update it (Obj.mapFields (·.setIfInBounds 0 .none))).get? b = some o := fun b o hb e => (Heap.get?_update_other _ _ (Ne.symm hb)).trans e
  have h1' := keep x1 o1 hne h1
  show wpAny _ _ (newExc (.type "StopIteration") [] >>= _) _ _ _
  refine wpAny_bind ?_
  simp only [newExc, newTuple]
  refine wpAny_bind (wpAny_newObj_type ?_ (by size_fits))
  refine wpAny_bind (m := firstArgMember _ _) (wpAny_of_eq (a := Value.none) (by first | rfl | (simp only [firstArgMember]; rfl)) ?_)
  refine wpAny_newObj_type ?_ (by size_fits)
  refine raiseNew_hot ⟨hh, o1, vs1, Heap.get?_push_of_some _ (Heap.get?_push_of_some _ h1'), d1, c1⟩ (Nat.ne_of_lt (Heap.lt_size (Heap.get?_push_of_some _ h1'))) (Heap.get?_push_size _ rfl) rfl (by first | (simp; done) | (simp; omega) | (simp only [Array.size_append]; simp; omega)) ?_
  refine wpAny_bind (wpAny_isInstance (T := "StopIteration") (b := true) ⟨_, Heap.get?_update_self _ (Heap.get?_push_size _ rfl) rfl, rfl⟩ isSubtype_stop ?_)
  refine wpAny_pure (hQ _ fun b o hb e => ?_)
  have e2 := keep b o hb e
  rw [Heap.get?_update_other _ _ (Nat.ne_of_gt (Heap.lt_size (Heap.get?_push_of_some _ e2)))]
  exact Heap.get?_push_of_some _ (Heap.get?_push_of_some _ e2)
theorem walks_list_hot {x1 : Addr} (I ax : Addr) (hne : ax ≠ I) (hx : x1 ≠ I) (items : Array Value) :
    Walks prog w A I [I, ax, x1] [I] items.size (fun i v => items[i]? = some v) (fun i h => (h.IsListIter I ax i ∧ h.IsList ax items) ∧ HotAt A x1 h) where
  sub := fun b hb => by simp at hb; simp [hb]
  frame := fun _ _ _ st hk => ⟨⟨st.1.1.at fun o e => hk I (by simp) o e, st.1.2.at fun o e => hk ax (by simp) o e⟩, by
    obtain ⟨hh, o, vs, e, d, c⟩ := st.2
    exact ⟨hh, o, vs, hk x1 (by simp) o e, d, c⟩⟩
  item := fun i s Q E hi st hQ => by
    refine wpAny_pyNext_list_item st.1.1 st.1.2 (x := items[i]) (by simp [hi]) fun h' hit' hs' => ?_
    refine hQ _ h' s.toks (by simp [hi]) ⟨⟨hit', st.1.2.extBut hs'.extBut hne⟩, ?_⟩ fun b o hb e => hs'.extBut b o (fun h => hb (by simp [h])) e
    obtain ⟨hh, o, vs, e, d, c⟩ := st.2
    exact ⟨hh, o, vs, hs'.extBut x1 o hx e, d, c⟩
  done := fun s Q E st hQ => pyNext_list_end_hot st.2 hx st.1.1 st.1.2 (by simp) fun h' he' => hQ h' s.toks fun b o hb e => he' b o (fun h => hb (by simp [h])) e
  self := fun _ _ _ _ st hQ => wpAny_pyIter_listiter st.1.1 hQ
end
theorem cr_anyH {X : Cx} (hc : L2H.HotC X) : CallR X (.builtin "any") (rAny X.K) := by
  intro pins s σ H vs us Q I r h
  obtain ⟨a, bs, rfl, hs, q⟩ := h
  obtain ⟨its, rv, hl, _⟩ := I.list hs
  rw [Vals.ref1 r]
  have hb := rv.bls
  obtain ⟨x1, hh, o1, v1, g1, d1, c1⟩ := hc.at I
  refine call_any_walk (iter_any hl.isList fun s₂ e2 st hne => ?_)
  subst e2
  have g2 := Heap.get?_push_of_some { cls := Value.type "list_iterator", data := .fields #[.ref a, .int 0 0] } g1
  refine ⟨_, _, _, _, _, _, _, rfl, walks_list_hot (A := X.A.in1) (x1 := x1) _ a hne (Nat.ne_of_lt (Heap.lt_size g1)) its.toArray, ⟨st, hh, o1, v1, g2, d1, c1⟩, truth_bools hb, fun h' tk hk => ?_⟩
  refine ⟨.bl _, H, I.kept fun b o eo => hk b o (fun hmem => ?_) (Heap.get?_push_of_some _ eo), ?_, q⟩
  · rcases List.mem_cons.mp hmem with e1 | hmem
    · exact absurd (e1 ▸ Heap.lt_size eo) (Nat.lt_irrefl _)
    · cases hmem
  · show Value.bool _ = Value.bool _
    rw [← L2.any_range, hb, List.size_toArray, List.length_map]
theorem hotC_suite {X : Cx} {a : Addr} {oe : Obj} {pn : List (Addr × Obj)} {cls : Value} {d : Option Addr} (hz : L2N.Zn cls d oe) (hf : ∃ vs, oe.data = .fields vs) : L2H.HotC (X.suite a ((a, oe) :: pn)) := by
  obtain ⟨vs, hv⟩ := hf
  exact ⟨(a, oe), ⟨rfl, vs, hv, hz.2.2 vs hv⟩, List.mem_cons_self⟩
theorem cr_anyS {X : Cx} {K : PySem.W.Frag} {a : Addr} {oe : Obj} {pn : List (Addr × Obj)} {cls : Value} {d : Option Addr} (hz : L2N.Zn cls d oe) (hf : ∃ vs, oe.data = .fields vs) (h : X.K = K := by rfl) : CallR (X.suite a ((a, oe) :: pn)) (.builtin "any") (rAny K) := by
  subst h
  exact cr_anyH (hotC_suite hz hf)
/-- isinstance(error, C) in the suite, the error's class told -/
def rIsE2 (K : PySem.W.Frag) (cls : Value) (d : Option Addr) (a : Addr) : List V → Hp → VK → Prop := fun xs H Q => ∃ D, cls = .ref D ∧ d = none ∧ ExcC K D ∧ rIsE K D a xs H Q
theorem isi_e {X : Cx} {a : Addr} {cls : Value} {d : Option Addr} {oe : Obj} {pn : List (Addr × Obj)} (hz : L2N.Zn cls d oe) (hf : ∃ vs, oe.data = .fields vs) : CallR (X.suite a ((a, oe) :: pn)) (.builtin "isinstance") (rIsE2 X.K cls d a) := by
  intro pins s σ H xs us Q I r h
  obtain ⟨D, rfl, rfl, C, h⟩ := h
  exact call_isE C hz.zc hf pins s σ H xs us Q I r h
theorem ev_isE {K : PySem.W.Frag} {σ : L2.St} {H : Hp} {ta tb : TE} {a C D : Addr} {b : Bool} (hC : ExcC K D) (h1 : Ev ta σ H (.ref a)) (h2 : Ev tb σ H (.ref C)) (hk : PySem.W.kitOne K (.ref D) (.ref C) = some b) :
    Ev (tCB (rIsE2 K (.ref D) none a) (tCons ta (tCons tb tNil))) σ H (.bl b) := fun H1 e Q q =>
  h1 H1 e _ fun H2 e2 => h2 H2 (e.trans e2) _ fun H3 e3 => ⟨D, rfl, rfl, hC, .ref C, .ref C, b, rfl, fun u r => r, hk, q H3 (e2.trans e3)⟩
theorem ev_isET {K : PySem.W.Frag} {σ : L2.St} {H : Hp} {ta tb : TE} {a D : Addr} {n : String} {b : Bool} (hC : ExcC K D) (h1 : Ev ta σ H (.ref a)) (h2 : Ev tb σ H (.ty n)) (hk : PySem.W.kitOne K (.ref D) (.type n) = some b) :
    Ev (tCB (rIsE2 K (.ref D) none a) (tCons ta (tCons tb tNil))) σ H (.bl b) := fun H1 e Q q =>
  h1 H1 e _ fun H2 e2 => h2 H2 (e.trans e2) _ fun H3 e3 => ⟨D, rfl, rfl, hC, .ty n, .type n, b, rfl, fun u r => r, hk, q H3 (e2.trans e3)⟩
/-! ### defs that may raise, their errors' context none -/
theorem passN {X : Cx} : Passes (L2N.CX X.prog X.w) X E0 := fun _ _ _ _ _ _ _ h => by
  obtain ⟨_, _, _, _, _, _, _, _, _, _, _, _, z⟩ := h
  exact z.elim
theorem takes0N {X : Cx} : L2N.Takes X (fun _ _ _ _ => False) := fun _ _ x => by
  obtain ⟨_, _, _, _, _, _, _, _, _, _, _, _, _, _, _, _, z⟩ := x
  exact z.elim
section
variable {P : Program} {w : World} {K : PySem.W.Frag} {mg : Str → Option Value} {base : Heap}
theorem okN {x qual : Str} {st : Stmt} {f : Addr} {fd : FuncData} {N ps : List Str} {k : Nat} {sp : Sp} (F : Fun K x qual st f fd) (S : FnScope N ps (defScope st)) (len : ∀ vs H Q E, sp vs H Q E → vs.length = ps.length)
    (hbody : ∀ (cdv : Value) (A : Around) (outer : List Env) (s : Shared) (H : Hp) (vs : List V) (Q : VK) (E : XK), Room k (A.deeper (envOfC qual (defScope st) s.heap.objs.size f cdv)) → sp vs H Q E →
      ∃ t, PSs (cxOf (L2N.CX P w) P w K mg base N qual (defScope st) f cdv A outer s H E) (defBody st) t ∧ t { nx := fun _ H' => Q .non H', rt := Q } (start N vs) H) : FnOk P w K mg base (L2N.CX P w) (k + 1) f fd ps sp := by
  obtain ⟨oc, od, kV, doc, pm, an, cdv, ct, osl, rfl, lk, hcd⟩ := F.ex
  exact fn_of lk hcd S len fun A outer s H vs Q E hr hsp => hbody cdv A outer s H vs Q E hr hsp
end
theorem evp_cbP {σ : L2.St} {H : Hp} {r : List V → Hp → VK → Prop} {ta : TA} {R : List V → Hp → Prop} {P : V → Hp → Prop} (h : EvAP ta σ H R) (hr : ∀ vs H1, Ex H H1 → R vs H1 → ∀ Q : VK, (∀ v H2, Ex H1 H2 → P v H2 → Q v H2) → r vs H1 Q) : EvP (tCB r ta) σ H P := fun H1 e Q q =>
  h H1 e _ fun vs H2 e2 p => hr vs H2 (e.trans e2) p Q fun v H3 e3 pv => q v H3 (e2.trans e3) pv
/-- sorted of a new list of ints -/
theorem evp_sortedN {K : PySem.W.Frag} {σ : L2.St} {H : Hp} {te : TE} {ks : List Int} (h : EvL te σ H (ks.map V.int)) : EvP (tCB (rSortedI K) (tCons te tNil)) σ H (fun v H1 => ∃ (p : Addr) (bs : List Int), v = .ref p ∧ H1 p = some (.lst (bs.map V.int)) ∧ bs.Perm ks ∧ bs.Pairwise (· ≤ ·)) :=
  evp_cbP (eap_1 (P1 := fun v H1 => ∃ l, v = .ref l ∧ H1 l = some (.lst (ks.map V.int))) (evp_evL h fun p H1 e1 h1 => ⟨p, rfl, h1⟩)) fun vs H1 e1 hR Q q => by
    obtain ⟨v, rfl, l, rfl, hl⟩ := hR
    exact ⟨l, ks, rfl, sq_of hl, fun bs p hpm hso hp => q _ _ (Ex.new hp) ⟨p, bs, rfl, upd_same, hpm, hso⟩⟩
section
variable {K : PySem.W.Frag} {σ : L2.St} {H H' : Hp} {ta tb te : TE} {tt : TT} {x y z v : V} {D : Ends} {tz tu : TS}
/-- a list of one thing -/
theorem evp_lst1 {P : V → Hp → Prop} (m : Mono P) (h : EvP te σ H P) : EvP (tLst (tCons te tNil)) σ H (fun v H1 => ∃ p x, v = .ref p ∧ H1 p = some (.lst [x]) ∧ P x H1) := fun H1 e Q q =>
  h H1 e _ fun x H2 e2 px => ⟨by show 1 ≤ sizeLine; decide, fun p hp => q _ _ (e2.trans (Ex.new hp)) ⟨p, x, rfl, upd_same, m _ _ _ (Ex.new hp) px⟩⟩
/-- xs + [x] -/
theorem evp_cat1 {P : V → Hp → Prop} {a : Addr} {xs : List V} (m : Mono P) (ha : Ev ta σ H (.ref a)) (hx : H a = some (.lst xs)) (hz : xs.length < 100000) (h : EvP te σ H P) : EvP (tOp rCat ta (tLst (tCons te tNil))) σ H (fun v H1 => ∃ p x, v = .ref p ∧ H1 p = some (.lst (xs ++ [x])) ∧ P x H1) := fun H1 e Q q =>
  ha H1 e _ fun H2 e2 => evp_lst1 m h H2 (e.trans e2) _ fun v H3 e3 ⟨b, x, ev, hb, px⟩ => by
    subst ev
    exact ⟨a, b, xs, [x], rfl, rfl, ((e.trans e2).trans e3) a _ hx, hb, sz_of (by show xs.length + 1 ≤ 100000; omega), fun r hr => q _ _ ((e2.trans e3).trans (Ex.new hr)) ⟨r, x, rfl, upd_same, m _ _ _ (Ex.new hr) px⟩⟩
/-- [..][:k] of such a list -/
theorem evp_take {k : Nat} {th : TO} {R : List Int → Prop} (h : EvP te σ H (fun v H1 => ∃ p ms, v = .ref p ∧ H1 p = some (.lst (ms.map V.int)) ∧ R ms)) (h2 : EvO th σ H (some (k : Int))) : EvP (tSl (rSlL K) te tNoPart th) σ H (fun v H1 => ∃ p ms, v = .ref p ∧ H1 p = some (.lst ((ms.take k).map V.int)) ∧ R ms) := fun H1 e Q q =>
  h H1 e _ fun v H2 e2 ⟨p, ms, ev, hp, hR⟩ => eo_none H2 (e.trans e2) _ fun H3 e3 => h2 H3 ((e.trans e2).trans e3) _ fun H4 e4 => by
    subst ev
    exact ⟨p, _, rfl, sq_of (e4 p _ (e3 p _ hp)), fun r hr => q _ _ (((e2.trans e3).trans e4).trans (Ex.new hr)) ⟨r, ms, rfl, by rw [upd_same, cut_take], hR⟩⟩
theorem putK_le {kvs : List (Key × V)} {k : Key} : (putK kvs k v).length ≤ kvs.length + 1 := by
  unfold putK
  split
  · rw [List.length_map]
    omega
  · rw [List.length_append]
    exact Nat.le_refl _
end
end SX

/-! plain mathematics: the sums of all pairs in two orders -/
namespace SM
def progTo (f : Nat → Nat → Int) (n i : Nat) : List Int := (List.range i).flatMap fun k => (List.range' k (n - k)).map (f k)
def lawTo (f : Nat → Nat → Int) (i : Nat) : List Int := (List.range i).flatMap fun k => (List.range (k + 1)).map fun j => f j k
theorem flatMap_snoc {α : Type} (g : α → List Int) (h : α → Int) : ∀ l : List α, (l.flatMap fun k => g k ++ [h k]).Perm (l.flatMap g ++ l.map h)
  | [] => by simp
  | a :: r => by
    have ih := flatMap_snoc g h r
    simp only [List.flatMap_cons, List.map_cons, List.append_assoc]
    refine List.Perm.append_left _ ?_
    show (h a :: List.flatMap (fun k => g k ++ [h k]) r).Perm (List.flatMap g r ++ h a :: List.map h r)
    exact (ih.cons (h a)).trans List.perm_middle.symm
theorem prog_succ (f : Nat → Nat → Int) (n : Nat) : progTo f n (n + 1) = progTo f n n := by
  unfold progTo
  rw [List.range_succ, List.flatMap_append]
  simp
theorem prog_step (f : Nat → Nat → Int) (n : Nat) : (progTo f (n + 1) (n + 1)).Perm (progTo f n n ++ (List.range (n + 1)).map fun j => f j n) := by
  have e : progTo f (n + 1) (n + 1) = (List.range (n + 1)).flatMap fun k => (List.range' k (n - k)).map (f k) ++ [f k n] := by
    unfold progTo
    rw [List.flatMap_def, List.flatMap_def]
    congr 1
    refine List.map_congr_left fun k hk => ?_
    have hk : k < n + 1 := List.mem_range.mp hk
    have e1 : n + 1 - k = (n - k) + 1 := by omega
    have e2 : k + 1 * (n - k) = n := by omega
    rw [e1, List.range'_concat, List.map_append, e2, List.map_singleton]
  rw [e]
  refine (flatMap_snoc _ _ _).trans ?_
  have e3 : (List.range (n + 1)).flatMap (fun k => (List.range' k (n - k)).map (f k)) = progTo f n (n + 1) := rfl
  rw [e3, prog_succ]
theorem law_step (f : Nat → Nat → Int) (n : Nat) : lawTo f (n + 1) = lawTo f n ++ (List.range (n + 1)).map fun j => f j n := by
  unfold lawTo
  rw [List.range_succ, List.flatMap_append]
  simp [List.range_succ]
theorem perm_all (f : Nat → Nat → Int) : ∀ n, (progTo f n n).Perm (lawTo f n)
  | 0 => by simp [progTo, lawTo]
  | n + 1 => by
    rw [law_step]
    exact (prog_step f n).trans ((perm_all f n).append_right _)
theorem nodup_iff (f : Nat → Nat → Int) (n : Nat) : (progTo f n n).Nodup ↔ (lawTo f n).Nodup := (perm_all f n).nodup_iff
theorem prog_next (f : Nat → Nat → Int) (n i : Nat) : progTo f n (i + 1) = progTo f n i ++ (List.range' i (n - i)).map (f i) := by
  unfold progTo
  rw [List.range_succ, List.flatMap_append]
  simp
theorem law_len (f : Nat → Nat → Int) : ∀ n, 2 * (lawTo f n).length = n * (n + 1)
  | 0 => rfl
  | n + 1 => by
    have ih := law_len f n
    rw [law_step, List.length_append, List.length_map, List.length_range, Nat.mul_add, ih, Nat.mul_comm 2 (n + 1), Nat.mul_comm n (n + 1), ← Nat.mul_add]
theorem law_le (f : Nat → Nat → Int) {n : Nat} (h : n ≤ 50) : (lawTo f n).length ≤ 1275 := by
  have e := law_len f n
  have h2 : n * (n + 1) ≤ 50 * 51 := Nat.mul_le_mul h (by omega)
  omega
theorem prog_le (f : Nat → Nat → Int) {n i : Nat} (hi : i ≤ n) (h : n ≤ 50) : (progTo f n i).length ≤ 2500 := by
  have hl : ∀ i, i ≤ n → (progTo f n i).length ≤ i * n := by
    intro i
    induction i with
    | zero => intro _; simp [progTo]
    | succ i ih =>
      intro hi
      have := ih (by omega)
      rw [prog_next, List.length_append, List.length_map, List.length_range', Nat.succ_mul]
      omega
  have h1 := hl i hi
  have h2 : i * n ≤ 50 * 50 := Nat.mul_le_mul (by omega) h
  omega
/-- the sum of two marks by their counts -/
def two (ms : List Int) (j k : Nat) : Int := ms.getD j 0 + ms.getD k 0
def Apart (ms : List Int) : Prop := (lawTo (two ms) ms.length).Nodup
instance (ms : List Int) : Decidable (Apart ms) := inferInstanceAs (Decidable (List.Nodup _))
/-- a pair of counts below n -/
def isPair : List Int → Int → Bool
  | [a, b], n => (decide (0 ≤ a) && decide (a < n)) && ((decide (0 ≤ b) && decide (b < n)) && decide (a ≤ b))
  | _, _ => false
def okPair : List Int → Int → Bool
  | [a, b], n => decide (0 ≤ a) && (decide (a ≤ b) && decide (b < n))
  | _, _ => false
theorem pair_same (ns : List Int) (n : Int) : isPair ns n = okPair ns n := by
  unfold isPair okPair
  split
  · rename_i a b
    rw [Bool.eq_iff_iff]
    simp only [Bool.and_eq_true, decide_eq_true_eq]
    omega
  · rfl
def sumAt (ms ns : List Int) : Int := ms.getD (ns.getD 0 0).toNat 0 + ms.getD (ns.getD 1 0).toNat 0
/-- whether two pairs are shown by the marks -/
def tells2 (ms as bs : List Int) : Bool := isPair as ms.length && (isPair bs ms.length && (!decide (as = bs) && decide (sumAt ms as = sumAt ms bs)))
end SM

/-! pairs of counts; rising lists -/
namespace SM
def prTo (n i : Nat) : List (Nat × Nat) := (List.range i).flatMap fun k => (List.range' k (n - k)).map fun j => (k, j)
def prs (n : Nat) : List (Nat × Nat) := prTo n n
theorem prTo_next (n i : Nat) : prTo n (i + 1) = prTo n i ++ (List.range' i (n - i)).map fun j => (i, j) := by
  unfold prTo
  rw [List.range_succ, List.flatMap_append]
  simp
theorem prTo_le {n i : Nat} (hi : i ≤ n) (h : n ≤ 50) : (prTo n i).length ≤ 2500 := by
  have hl : ∀ i, i ≤ n → (prTo n i).length ≤ i * n := by
    intro i
    induction i with
    | zero => intro _; simp [prTo]
    | succ i ih =>
      intro hi
      have := ih (by omega)
      rw [prTo_next, List.length_append, List.length_map, List.length_range', Nat.succ_mul]
      omega
  have h1 := hl i hi
  have h2 : i * n ≤ 50 * 50 := Nat.mul_le_mul (by omega) h
  omega
theorem prs_map (f : Nat → Nat → Int) (n : Nat) : (prs n).map (fun p => f p.1 p.2) = progTo f n n := by
  unfold prs prTo progTo
  rw [List.map_flatMap]
  congr 1
  funext k
  rw [List.map_map]
  rfl
theorem mem_prs {n a b : Nat} : (a, b) ∈ prs n ↔ a ≤ b ∧ b < n := by
  unfold prs prTo
  simp only [List.mem_flatMap, List.mem_range, List.mem_map, List.mem_range'_1, Prod.mk.injEq]
  constructor
  · rintro ⟨k, hk, j, hj, rfl, rfl⟩
    omega
  · intro h
    exact ⟨a, by omega, b, by omega, rfl, rfl⟩
theorem prs_nodup (n : Nat) : (prs n).Nodup := by
  unfold prs prTo List.Nodup
  rw [List.pairwise_flatMap]
  refine ⟨fun k hk => ?_, ?_⟩
  · refine List.pairwise_map.mpr (List.Pairwise.imp ?_ (List.nodup_range' (s := k) (n := n - k)))
    intro a b h e
    injection e with _ e
    exact h e
  · refine List.Pairwise.imp ?_ (List.nodup_range (n := n))
    intro a b h x hx y hy e
    obtain ⟨i, _, rfl⟩ := List.mem_map.mp hx
    obtain ⟨j, _, rfl⟩ := List.mem_map.mp hy
    injection e with e _
    exact h e
theorem inj_of_nodup {α : Type} (f : α → Int) : ∀ l : List α, (l.map f).Nodup → ∀ x ∈ l, ∀ y ∈ l, f x = f y → x = y
  | [], _, x, hx, _, _, _ => absurd hx (by simp)
  | a :: l, h, x, hx, y, hy, e => by
    rw [List.map_cons, List.nodup_cons] at h
    rcases List.mem_cons.mp hx with h1 | h1 <;> rcases List.mem_cons.mp hy with h2 | h2
    · rw [h1, h2]
    · exact absurd (List.mem_map.mpr ⟨y, h2, by rw [← e, h1]⟩) h.1
    · exact absurd (List.mem_map.mpr ⟨x, h1, by rw [e, h2]⟩) h.1
    · exact inj_of_nodup f l h.2 x h1 y h2 e
theorem apart_prs (ms : List Int) : Apart ms ↔ ((prs ms.length).map fun p => two ms p.1 p.2).Nodup := by
  unfold Apart
  rw [prs_map, nodup_iff]
theorem apart_inj {ms : List Int} (h : Apart ms) {a b c d : Nat} (h1 : a ≤ b) (h2 : b < ms.length) (h3 : c ≤ d) (h4 : d < ms.length) (e : two ms a b = two ms c d) : a = c ∧ b = d := by
  have h5 := inj_of_nodup _ _ ((apart_prs ms).mp h) (a, b) (mem_prs.mpr ⟨h1, h2⟩) (c, d) (mem_prs.mpr ⟨h3, h4⟩) e
  injection h5 with h6 h7
  exact ⟨h6, h7⟩
/-- a list of counts of two marks -/
def pl (p : Nat × Nat) : List Int := [(p.1 : Int), (p.2 : Int)]
theorem sumAt_pl (ms : List Int) (p : Nat × Nat) : sumAt ms (pl p) = two ms p.1 p.2 := by
  unfold sumAt pl two
  rfl
theorem tells_of {ms : List Int} {p q : Nat × Nat} (hp : p ∈ prs ms.length) (hq : q ∈ prs ms.length) (hne : p ≠ q) (e : two ms p.1 p.2 = two ms q.1 q.2) : tells2 ms (pl p) (pl q) = true := by
  obtain ⟨a, b⟩ := p
  obtain ⟨c, d⟩ := q
  have h1 := mem_prs.mp hp
  have h2 := mem_prs.mp hq
  unfold tells2
  rw [sumAt_pl, sumAt_pl, decide_eq_true e]
  have h3 : isPair (pl (a, b)) ms.length = true := by
    unfold pl isPair
    simp only [Bool.and_eq_true, decide_eq_true_eq]
    omega
  have h4 : isPair (pl (c, d)) ms.length = true := by
    unfold pl isPair
    simp only [Bool.and_eq_true, decide_eq_true_eq]
    omega
  have h5 : decide (pl (a, b) = pl (c, d)) = false := decide_eq_false fun h => hne (by
    unfold pl at h
    simp only [List.cons.injEq, Int.natCast_inj, and_true] at h
    rw [h.1, h.2])
  rw [h3, h4, h5]
  rfl
theorem not_apart {ms as bs : List Int} (h : tells2 ms as bs = true) : ¬ Apart ms := fun ha => by
  unfold tells2 at h
  simp only [Bool.and_eq_true, Bool.not_eq_true', decide_eq_false_iff_not, decide_eq_true_eq] at h
  obtain ⟨h1, h2, h3, h4⟩ := h
  match as, h1 with
  | [a, b], h1 =>
    match bs, h2 with
    | [c, d], h2 =>
      unfold isPair at h1 h2
      simp only [Bool.and_eq_true, decide_eq_true_eq] at h1 h2
      obtain ⟨a', rfl⟩ := Int.eq_ofNat_of_zero_le h1.1.1
      obtain ⟨b', rfl⟩ := Int.eq_ofNat_of_zero_le h1.2.1.1
      obtain ⟨c', rfl⟩ := Int.eq_ofNat_of_zero_le h2.1.1
      obtain ⟨d', rfl⟩ := Int.eq_ofNat_of_zero_le h2.2.1.1
      have e : two ms a' b' = two ms c' d' := h4
      have h5 := apart_inj ha (by omega) (by omega) (by omega) (by omega) e
      exact h3 (by rw [h5.1, h5.2])
/-- the sums of the pairs, told one by one -/
theorem apart_at {ms : List Int} (h : ∀ i j : Nat, i < j → ∀ p q, (prs ms.length)[i]? = some p → (prs ms.length)[j]? = some q → two ms p.1 p.2 ≠ two ms q.1 q.2) : Apart ms := by
  rw [apart_prs]
  unfold List.Nodup
  rw [List.pairwise_map, List.pairwise_iff_getElem]
  intro i j hi hj hij
  exact h i j hij _ _ (List.getElem?_eq_getElem hi) (List.getElem?_eq_getElem hj)
theorem prs_ne {n i j : Nat} {p q : Nat × Nat} (hi : (prs n)[i]? = some p) (hj : (prs n)[j]? = some q) (hij : i < j) : p ≠ q := by
  obtain ⟨h1, rfl⟩ := List.getElem?_eq_some_iff.mp hi
  obtain ⟨h2, rfl⟩ := List.getElem?_eq_some_iff.mp hj
  exact List.pairwise_iff_getElem.mp (prs_nodup n) i j h1 h2 hij
/-! ### rising -/
theorem rise_adj (ns : List Int) : (((List.range (ns.length - 1)).map fun i => decide (ns.getD i 0 < ns.getD (i + 1) 0)).all id) = decide (ns.Pairwise (· < ·)) := by
  rw [Bool.eq_iff_iff, List.all_eq_true, decide_eq_true_eq]
  have gd : ∀ i (h : i < ns.length), ns.getD i 0 = ns[i] := fun i h => by
    rw [List.getD_eq_getElem?_getD, List.getElem?_eq_getElem h] <;> rfl
  constructor
  · intro h
    have adj : ∀ i, i + 1 < ns.length → ns.getD i 0 < ns.getD (i + 1) 0 := fun i hi => by
      have := h _ (List.mem_map.mpr ⟨i, List.mem_range.mpr (by omega), rfl⟩)
      exact of_decide_eq_true this
    rw [List.pairwise_iff_getElem]
    intro i j hi hj hij
    rw [← gd i hi, ← gd j hj]
    obtain ⟨k, rfl⟩ : ∃ k, j = i + 1 + k := ⟨j - (i + 1), by omega⟩
    clear hij
    induction k with
    | zero => exact adj i hj
    | succ k ih => exact Int.lt_trans (ih (by omega)) (adj (i + 1 + k) (by omega))
  · intro h b hb
    obtain ⟨i, hi, rfl⟩ := List.mem_map.mp hb
    have hi := List.mem_range.mp hi
    rw [List.pairwise_iff_getElem] at h
    refine decide_eq_true ?_
    rw [gd i (by omega), gd (i + 1) (by omega)]
    exact h i (i + 1) (by omega) (by omega) (by omega)
end SM

/-! what can be put behind -/
namespace SM
theorem gd {ms : List Int} {i : Nat} (h : i < ms.length) : ms.getD i 0 = ms[i] := by
  rw [List.getD_eq_getElem?_getD, List.getElem?_eq_getElem h] <;> rfl
theorem rise_lt {ms : List Int} (hr : ms.Pairwise (· < ·)) {i j : Nat} (hj : j < ms.length) (h : i < j) : ms.getD i 0 < ms.getD j 0 := by
  rw [gd (by omega), gd hj]
  exact List.pairwise_iff_getElem.mp hr i j (by omega) hj h
theorem rise_le {ms : List Int} (hr : ms.Pairwise (· < ·)) {i j : Nat} (hi : i < ms.length) (hj : j < ms.length) : ms.getD i 0 ≤ ms.getD j 0 ↔ i ≤ j := by
  constructor
  · intro h
    refine Classical.byContradiction fun hn => ?_
    have := rise_lt hr hi (show j < i by omega)
    omega
  · intro h
    rcases Nat.lt_or_ge i j with h1 | h1
    · exact Int.le_of_lt (rise_lt hr hj h1)
    · have : i = j := by omega
      rw [this]
      exact Int.le_refl _
theorem rise_inj {ms : List Int} (hr : ms.Pairwise (· < ·)) {i j : Nat} (hi : i < ms.length) (hj : j < ms.length) (e : ms.getD i 0 = ms.getD j 0) : i = j := by
  have h1 := (rise_le hr hi hj).mp (by omega)
  have h2 := (rise_le hr hj hi).mp (by omega)
  omega
theorem mem_at {ms : List Int} {a : Int} : a ∈ ms ↔ ∃ i, i < ms.length ∧ ms.getD i 0 = a := by
  constructor
  · intro h
    obtain ⟨i, hi, rfl⟩ := List.mem_iff_getElem.mp h
    exact ⟨i, hi, gd hi⟩
  · rintro ⟨i, hi, rfl⟩
    rw [gd hi]
    exact List.getElem_mem hi
/-- apart, told by the marks themselves -/
def ApV (ms : List Int) : Prop := ∀ a ∈ ms, ∀ b ∈ ms, ∀ c ∈ ms, ∀ d ∈ ms, a ≤ b → c ≤ d → a + b = c + d → a = c ∧ b = d
theorem apart_val {ms : List Int} (hr : ms.Pairwise (· < ·)) : Apart ms ↔ ApV ms := by
  constructor
  · intro h a ha b hb c hc d hd hab hcd e
    obtain ⟨i, hi, rfl⟩ := mem_at.mp ha
    obtain ⟨j, hj, rfl⟩ := mem_at.mp hb
    obtain ⟨k, hk, rfl⟩ := mem_at.mp hc
    obtain ⟨l, hl, rfl⟩ := mem_at.mp hd
    have h1 := apart_inj h ((rise_le hr hi hj).mp hab) hj ((rise_le hr hk hl).mp hcd) hl e
    exact ⟨by rw [h1.1], by rw [h1.2]⟩
  · intro h
    refine apart_at fun i j hij p q hp hq e => prs_ne hp hq hij ?_
    obtain ⟨a, b⟩ := p
    obtain ⟨c, d⟩ := q
    have h1 := mem_prs.mp (List.mem_of_getElem? hp)
    have h2 := mem_prs.mp (List.mem_of_getElem? hq)
    have m : ∀ k, k < ms.length → ms.getD k 0 ∈ ms := fun k hk => mem_at.mpr ⟨k, hk, rfl⟩
    have h3 := h _ (m a (by omega)) _ (m b h1.2) _ (m c (by omega)) _ (m d h2.2) ((rise_le hr (by omega) h1.2).mpr h1.1) ((rise_le hr (by omega) h2.2).mpr h2.1) e
    rw [rise_inj hr (by omega) (by omega) h3.1, rise_inj hr h1.2 h2.2 h3.2]
theorem apart_sub {ms ks : List Int} (hr : ms.Pairwise (· < ·)) (hk : ks.Pairwise (· < ·)) (hs : ∀ z ∈ ks, z ∈ ms) (h : Apart ms) : Apart ks :=
  (apart_val hk).mpr fun a ha b hb c hc d hd => (apart_val hr).mp h a (hs a ha) b (hs b hb) c (hs c hc) d (hs d hd)
/-- what is barred: one and another, less a third -/
def barL (ns : List Int) : List Int := (progTo (two ns) ns.length ns.length).flatMap fun t => ns.map fun z => t - z
theorem mem_bar {ns : List Int} {x : Int} : x ∈ barL ns ↔ ∃ a ∈ ns, ∃ b ∈ ns, ∃ c ∈ ns, x = a + b - c := by
  unfold barL
  rw [← prs_map]
  simp only [List.mem_flatMap, List.mem_map]
  constructor
  · rintro ⟨t, ⟨⟨i, j⟩, hp, rfl⟩, z, hz, rfl⟩
    have h1 := mem_prs.mp hp
    exact ⟨ns.getD i 0, mem_at.mpr ⟨i, by omega, rfl⟩, ns.getD j 0, mem_at.mpr ⟨j, h1.2, rfl⟩, z, hz, rfl⟩
  · rintro ⟨a, ha, b, hb, c, hc, rfl⟩
    obtain ⟨i, hi, rfl⟩ := mem_at.mp ha
    obtain ⟨j, hj, rfl⟩ := mem_at.mp hb
    rcases Nat.le_total i j with h | h
    · exact ⟨_, ⟨(i, j), mem_prs.mpr ⟨h, hj⟩, rfl⟩, c, hc, rfl⟩
    · refine ⟨_, ⟨(j, i), mem_prs.mpr ⟨h, hi⟩, rfl⟩, c, hc, ?_⟩
      show ns.getD j 0 + ns.getD i 0 - c = _
      omega
def lastOf (ns : List Int) : Int := ns.getD (ns.length - 1) 0
theorem le_last {ns : List Int} (hr : ns.Pairwise (· < ·)) : ∀ z ∈ ns, z ≤ lastOf ns := fun z hz => by
  obtain ⟨i, hi, rfl⟩ := mem_at.mp hz
  exact (rise_le hr hi (by omega)).mpr (by omega)
/-- L is what is put behind -/
def Least (ns : List Int) (L : Int) : Prop := lastOf ns < L ∧ L ∉ barL ns ∧ ∀ x, lastOf ns < x → x < L → x ∈ barL ns
theorem least_unique {ns : List Int} {L M : Int} (h : Least ns L) (g : Least ns M) : L = M := by
  rcases Int.lt_trichotomy L M with h1 | h1 | h1
  · exact absurd (g.2.2 L h.1 h1) h.2.1
  · exact h1
  · exact absurd (h.2.2 M g.1 h1) g.2.1
/-- the walk through what is barred -/
def scan : List Int → Int → Int
  | [], l => l
  | z :: r, l => scan r (if z = l then l + 1 else l)
theorem scan_snoc : ∀ (bs : List Int) (z l : Int), scan (bs ++ [z]) l = if z = scan bs l then scan bs l + 1 else scan bs l
  | [], z, l => rfl
  | y :: r, z, l => scan_snoc r z _
theorem scan_ok {bs : List Int} {a : Int} (hs : bs.Pairwise (· ≤ ·)) : ∀ i, i ≤ bs.length → a < scan (bs.take i) (a + 1) ∧ (∀ y ∈ bs.take i, y ≠ scan (bs.take i) (a + 1)) ∧ ∀ x, a < x → x < scan (bs.take i) (a + 1) → x ∈ bs
  | 0, _ => by
    rw [List.take_zero]
    exact ⟨by show a < a + 1; omega, fun y hy => absurd hy (by simp), fun x h1 h2 => by
      have : x < a + 1 := h2
      omega⟩
  | i + 1, hi => by
    obtain ⟨h1, h2, h3⟩ := scan_ok hs i (by omega)
    have e : bs.take (i + 1) = bs.take i ++ [bs[i]] := by
      rw [List.take_add_one, List.getElem?_eq_getElem (by omega)] <;> rfl
    rw [e, scan_snoc]
    generalize scan (bs.take i) (a + 1) = l at h1 h2 h3
    by_cases hz : bs[i] = l
    · rw [if_pos hz]
      refine ⟨by omega, fun y hy => ?_, fun x hx hx2 => ?_⟩
      · rcases List.mem_append.mp hy with hy | hy
        · obtain ⟨j, hj, rfl⟩ := List.mem_iff_getElem.mp hy
          rw [List.getElem_take]
          rw [List.length_take] at hj
          have := List.pairwise_iff_getElem.mp hs j i (by omega) (by omega) (by omega)
          omega
        · rw [List.mem_singleton.mp hy]
          omega
      · by_cases hxl : x = l
        · rw [hxl, ← hz]
          exact List.getElem_mem (by omega)
        · exact h3 x hx (by omega)
    · rw [if_neg hz]
      refine ⟨h1, fun y hy => ?_, h3⟩
      rcases List.mem_append.mp hy with hy | hy
      · exact h2 y hy
      · rw [List.mem_singleton.mp hy]
        exact hz
theorem scan_least {ns bs : List Int} (hp : bs.Perm (barL ns)) (hs : bs.Pairwise (· ≤ ·)) : Least ns (scan bs (lastOf ns + 1)) := by
  obtain ⟨h1, h2, h3⟩ := scan_ok (a := lastOf ns) hs bs.length (Nat.le_refl _)
  rw [List.take_length] at h1 h2 h3
  exact ⟨h1, fun h => h2 _ (hp.mem_iff.mpr h) rfl, fun x a b => hp.mem_iff.mp (h3 x a b)⟩
theorem rise_put {ns : List Int} {L : Int} (hr : ns.Pairwise (· < ·)) (hl : ∀ z ∈ ns, z < L) : (ns ++ [L]).Pairwise (· < ·) :=
  List.pairwise_append.mpr ⟨hr, List.pairwise_singleton _ _, fun a ha b hb => by rw [List.mem_singleton.mp hb]; exact hl a ha⟩
theorem apart_put {ns : List Int} {L : Int} (hr : ns.Pairwise (· < ·)) (ha : Apart ns) (hl : ∀ z ∈ ns, z < L) (hb : L ∉ barL ns) : Apart (ns ++ [L]) := by
  refine (apart_val (rise_put hr hl)).mpr fun a ma b mb c mc d md hab hcd e => ?_
  have hv := (apart_val hr).mp ha
  have no : ∀ x ∈ ns, ∀ y ∈ ns, ∀ z ∈ ns, L ≠ x + y - z := fun x hx y hy z hz e => hb (mem_bar.mpr ⟨x, hx, y, hy, z, hz, e⟩)
  have cs : ∀ x, x ∈ ns ++ [L] → (x ∈ ns ∧ x < L) ∨ x = L := fun x hx => by
    rcases List.mem_append.mp hx with h | h
    · exact .inl ⟨h, hl x h⟩
    · exact .inr (List.mem_singleton.mp h)
  rcases cs a ma with ⟨a1, a2⟩ | a1 <;> rcases cs b mb with ⟨b1, b2⟩ | b1 <;> rcases cs c mc with ⟨c1, c2⟩ | c1 <;> rcases cs d md with ⟨d1, d2⟩ | d1
  · exact hv a a1 b b1 c c1 d d1 hab hcd e
  · exact absurd (show L = a + b - c by omega) (no a a1 b b1 c c1)
  · omega
  · omega
  · exact absurd (show L = c + d - a by omega) (no c c1 d d1 a a1)
  all_goals omega
/-- without marks: the first ones put behind -/
def firstKs : List Int := [0, 1, 3, 7, 12, 20, 30, 44]
theorem first_ok : ∀ i : Fin 7, (decide (lastOf (firstKs.take (i.val + 1)) < firstKs.getD (i.val + 1) 0) && (!(barL (firstKs.take (i.val + 1))).contains (firstKs.getD (i.val + 1) 0)) &&
    ((List.range 16).all fun j => decide (firstKs.getD (i.val + 1) 0 ≤ lastOf (firstKs.take (i.val + 1)) + 1 + (j : Nat)) || (barL (firstKs.take (i.val + 1))).contains (lastOf (firstKs.take (i.val + 1)) + 1 + (j : Nat)))) = true := by decide +kernel
theorem first_gap : ∀ i : Fin 7, firstKs.getD (i.val + 1) 0 ≤ lastOf (firstKs.take (i.val + 1)) + 16 := by decide +kernel
theorem first_least {i : Nat} (h0 : 1 ≤ i) (h : i < 8) : Least (firstKs.take i) (firstKs.getD i 0) := by
  obtain ⟨k, rfl⟩ : ∃ k, i = k + 1 := ⟨i - 1, by omega⟩
  have h1 := first_ok ⟨k, by omega⟩
  have h2 := first_gap ⟨k, by omega⟩
  simp only [Bool.and_eq_true, Bool.not_eq_true', decide_eq_true_eq, List.all_eq_true, List.mem_range, Bool.or_eq_true] at h1 h2
  obtain ⟨⟨a1, a2⟩, a3⟩ := h1
  refine ⟨a1, fun h => ?_, fun x hx hx2 => ?_⟩
  · rw [List.contains_iff_mem.mpr h] at a2
    exact Bool.noConfusion a2
  · obtain ⟨j, hj⟩ : ∃ j : Nat, x - (lastOf (firstKs.take (k + 1)) + 1) = (j : Int) := Int.eq_ofNat_of_zero_le (by omega)
    rcases a3 j (by omega) with h | h
    · omega
    · rw [List.contains_iff_mem] at h
      have e : lastOf (firstKs.take (k + 1)) + 1 + (j : Int) = x := by omega
      rw [e] at h
      exact h
theorem first_apart : ∀ i : Fin 9, Apart (firstKs.take i.val) := by decide +kernel
theorem first_rises : ∀ i : Fin 9, (firstKs.take i.val).Pairwise (· < ·) := by decide +kernel
end SM

namespace K4
open PySem PySem.Spec PyProof.Rows L2 Evl SX SM
def topS (i : Nat) : Stmt := PySem.Challenge.pw_sumsapart_k04_whole_behind.main.body.getD i (.Pass ⟨0, 0, 0, 0⟩)
local macro_rules | `(tactic| walk_at "cond") => `(tactic| first
  | assumption
  | exact cdiv_small (by decide) (by decide)
  | exact cmul_l (by decide) (by decide)
  | exact cmul_r (by decide) (by decide)
  | exact cpow_c (by decide) (by decide) (by decide)
  | (show (0 : Int) < _; decide)
  | (show (0 : Int) < _; omega))
local macro_rules | `(tactic| walk_at "ev") => `(tactic| first
  | with_reducible exact ev_c
  | ((with_reducible apply ev_var); exact rfl)
  | with_reducible exact ea_nil
  | with_reducible exact eo_none
  | ((with_reducible apply ea_cons) <;> walk_at "ev")
  | ((with_reducible apply eo_some); walk_at "ev")
  | ((with_reducible apply ev_op (hr := rv_I0)) <;> walk_at "ev")
  | ((with_reducible apply ev_op (hr := rv_I ?cnd)); (· walk_at "ev"); (· walk_at "ev"); (· walk_at "cond"))
  | ((with_reducible apply ev_un (hr := ru_neg)); walk_at "ev")
  | ((with_reducible apply ev_op (hr := rv_eq ?cnd)); (· walk_at "ev"); (· walk_at "ev"); (· exact rfl))
  | ((with_reducible apply ev_op (hr := rv_ne ?cnd)); (· walk_at "ev"); (· walk_at "ev"); (· exact rfl))
  | ((with_reducible apply ev_lenI); (· walk_at "ev"); (· assumption))
  | ((with_reducible apply ev_ixL); (· walk_at "ev"); (· walk_at "ev"); (· assumption); (· first | exact atI_nat (j := 0) rfl | exact atI_nat (j := 1) rfl | exact atI_nat (j := 2) rfl))
  | ((with_reducible apply et_test); walk_at "ev")
  | ((with_reducible apply et_B); walk_at "ev"))
local macro_rules | `(tactic| walk_at "tup") => `(tactic| first
  | ((with_reducible apply evp_T [_, _]); (· walk_at "ev"); (· exact rfl); (· show 2 ≤ 100000; decide))
  | ((with_reducible apply evp_T [_]); (· walk_at "ev"); (· exact rfl); (· show 1 ≤ 100000; decide))
  | ((with_reducible apply evp_T [_, _, _]); (· walk_at "ev"); (· exact rfl); (· show 3 ≤ 100000; decide))
  | ((with_reducible apply evp_T []); (· walk_at "ev"); (· exact rfl); (· show 0 ≤ 100000; decide)))
local macro_rules | `(tactic| walk_at "pairs") => `(tactic| first
  | with_reducible exact eal_nil
  | ((with_reducible apply eal_cons PairT.mono); (· ((with_reducible apply evp_pair) <;> walk_at "tup")); (· walk_at "pairs")))
/-! ### what stands in the module -/
structure Tx (mg : Str → Option Value) : Prop where
  b_len : mg "len" = none
  b_set : mg "set" = none
  b_isinstance : mg "isinstance" = none
  b_bool : mg "bool" = none
  b_int : mg "int" = none
  b_tuple : mg "tuple" = none
  b_enumerate : mg "enumerate" = none
  b_sum : mg "sum" = none
  b_sorted : mg "sorted" = none
  b_range : mg "range" = none
  b_list : mg "list" = none
  b_str : mg "str" = none
  b_abs : mg "abs" = none
  b_all : mg "all" = none
  b_any : mg "any" = none
  b_zip : mg "zip" = none
  b_max : mg "max" = none
  b_min : mg "min" = none
  b_reversed : mg "reversed" = none
abbrev s_is_number : Stmt := topS 1
abbrev N_is_number : List Str := ["found"]
theorem sc_is_number : FnScope N_is_number ["found"] (defScope s_is_number) := ⟨rfl, rfl, rfl, by decide +kernel, rfl, by decide +kernel, by decide +kernel⟩
abbrev s_all_sums : Stmt := topS 3
abbrev N_all_sums : List Str := ["marks", "at", "first", "second"]
theorem sc_all_sums : FnScope N_all_sums ["marks"] (defScope s_all_sums) := ⟨rfl, rfl, rfl, by decide +kernel, rfl, by decide +kernel, by decide +kernel⟩
abbrev s_Apart_shows : Stmt := inClass (topS 5) 0
abbrev N_Apart_shows : List Str := ["self", "marks", "sums"]
theorem sc_Apart_shows : FnScope N_Apart_shows ["self", "marks"] (defScope s_Apart_shows) := ⟨rfl, rfl, rfl, by decide +kernel, rfl, by decide +kernel, by decide +kernel⟩
section
variable {K : PySem.W.Frag} {σ : L2.St} {H H' : Hp} {te : TE} {x y : V} {D : Ends} {tz : TS} {i j : Nat}
theorem q_two {p : Addr} (h : Ev te σ H (.ref p)) (hp : SqT K H p [x, y]) (k : ∀ H1, Ex H H1 → tz D ((σ.set i (some x)).set j (some y)) H1) : tSeq (tAsg te (gTup K 2 (gCons (gName i) (gCons (gName j) gNil)))) tz D σ H :=
  h H (Ex.refl H) _ fun H1 e1 => g_two (ex_t e1 hp) (k H1 e1)
end
section
variable {P : Program} {w : World} {K : PySem.W.Frag} {mg : Str → Option Value} {base : Heap}
/-! ### the program -/
/-- what is a whole number, and what isn't -/
def NumV (v : V) (H : Hp) (b : Bool) : Prop := (∃ i, v = .int i ∧ b = true) ∨ (b = false ∧ (v = .non ∨ (∃ s, v = .str s) ∨ (∃ c, v = .bl c) ∨ (∃ p xs, v = .ref p ∧ H p = some (.lst xs)) ∨ (∃ p xs, v = .ref p ∧ H p = some (.tup xs)) ∨ (∃ p kvs, v = .ref p ∧ H p = some (.dK kvs))))
theorem NumV.mono {v : V} {H H' : Hp} {b : Bool} (e : Ex H H') (h : NumV v H b) : NumV v H' b := by
  rcases h with h | ⟨hb, h | h | h | ⟨p, xs, h, q⟩ | ⟨p, xs, h, q⟩ | ⟨p, xs, h, q⟩⟩
  · exact .inl h
  · exact .inr ⟨hb, .inl h⟩
  · exact .inr ⟨hb, .inr (.inl h)⟩
  · exact .inr ⟨hb, .inr (.inr (.inl h))⟩
  · exact .inr ⟨hb, .inr (.inr (.inr (.inl ⟨p, xs, h, e p _ q⟩)))⟩
  · exact .inr ⟨hb, .inr (.inr (.inr (.inr (.inl ⟨p, xs, h, e p _ q⟩))))⟩
  · exact .inr ⟨hb, .inr (.inr (.inr (.inr (.inr ⟨p, xs, h, e p _ q⟩))))⟩
theorem rc_isiAs {K : PySem.W.Frag} {H : Hp} {x : V} {t n : String} {b : Bool} (ht : ∀ H1, Ex H H1 → TyX K H1 x (.type t)) (hk : kitB t n = some b) : RC (rIsi K) [x, .ty n] H (.bl b) := rc_isi (.ty n) ht (kit_ty hk)
theorem isi_num {K : PySem.W.Frag} {σ : L2.St} {H : Hp} {te : TE} {v : V} {b : Bool} (hv : NumV v H b) (h : ∀ H1, Ex H H1 → Ev te σ H1 v) :
    Ev (tAndV (tCB (rIsi K) (tCons te (tCons (tC (.ty "int")) tNil))) (tNotV (tCB (rIsi K) (tCons te (tCons (tC (.ty "bool")) tNil))))) σ H (.bl b) := by
  have h0 := h H (Ex.refl H)
  have ha : EvA (tCons te (tCons (tC (.ty "int")) tNil)) σ H [v, .ty "int"] := ea_cons h0 (ea_cons ev_c ea_nil)
  have hb : EvA (tCons te (tCons (tC (.ty "bool")) tNil)) σ H [v, .ty "bool"] := ea_cons h0 (ea_cons ev_c ea_nil)
  rcases hv with ⟨i, rfl, rfl⟩ | ⟨rfl, rfl | ⟨s, rfl⟩ | ⟨c, rfl⟩ | ⟨p, xs, rfl, q⟩ | ⟨p, xs, rfl, q⟩ | ⟨p, xs, rfl, q⟩⟩
  · exact ev_andV (a := true) (b := true) (ev_cb ha (rc_isiInt (by decide +kernel))) fun _ => ev_notV (a := false) (ev_cb hb (rc_isiInt (by decide +kernel)))
  · exact ev_andV (a := false) (b := false) (ev_cb ha (rc_isiAs (t := "NoneType") (fun H1 e => .base .non) (by decide +kernel))) fun h => nomatch h
  · exact ev_andV (a := false) (b := false) (ev_cb ha (rc_isiAs (t := "str") (fun H1 e => .base (.str s)) (by decide +kernel))) fun h => nomatch h
  · exact ev_andV (a := true) (b := false) (ev_cb ha (rc_isiBl (by decide +kernel))) fun _ => ev_notV (a := true) (ev_cb hb (rc_isiBl (by decide +kernel)))
  · exact ev_andV (a := false) (b := false) (ev_cb ha (rc_isiAs (t := "list") (fun H1 e => .base (.lst (e p _ q))) (by decide +kernel))) fun h => nomatch h
  · exact ev_andV (a := false) (b := false) (ev_cb ha (rc_isiAs (t := "tuple") (fun H1 e => .base (.tup (e p _ q))) (by decide +kernel))) fun h => nomatch h
  · exact ev_andV (a := false) (b := false) (ev_cb ha (rc_isiAs (t := "dict") (fun H1 e => .base (.dK (e p _ q))) (by decide +kernel))) fun h => nomatch h
def spNumber : Sp := fun vs H Q _ => ∃ v b, vs = [v] ∧ NumV v H b ∧ RetV (.bl b) H Q
theorem ok_number {f : Addr} {fd : FuncData} (D : Dfn K mg "is_number" "is_number" s_is_number ["found"] f fd) (T : Tx mg) : FnOk P w K mg base CX0 1 f fd ["found"] spNumber := by
  refine D.F.ok sc_is_number (fun vs H Q E h => ?_) (fun cdv A outer s H vs Q E hr h => ?_)
  · obtain ⟨v, b, rfl, _⟩ := h
    rfl
  · obtain ⟨v, b, rfl, hv, k⟩ := h
    refine ⟨_, (pss_one (ps_ret (pe_and (pe_callB call_isi (by rfl) T.b_isinstance (by decide +kernel) (pa_cons (pv 0) (pa_cons (pe_bltn (v := .ty "int") (by rfl) T.b_int (by decide +kernel) rfl) pa_nil))) (pe_one (pe_not (pe_callB call_isi (by rfl) T.b_isinstance (by decide +kernel) (pa_cons (pv 0) (pa_cons (pe_bltn (v := .ty "bool") (by rfl) T.b_bool (by decide +kernel) rfl) pa_nil)))))))), ?_⟩
    exact s_ret (isi_num hv fun _ _ => ev_var rfl) fun H2 e2 => k H2 e2
/-! the sums of all pairs -/
theorem getD_at {ms : List Int} {k : Nat} (h : k < ms.length) : ms.getD k 0 = ms[k] := by
  rw [List.getD_eq_getElem?_getD, List.getElem?_eq_getElem h] <;> rfl
theorem at_getD {ms : List Int} {k : Nat} (h : k < ms.length) : (ms.map V.int)[k]? = some (.int (ms.getD k 0)) := by
  rw [List.getElem?_map, List.getElem?_eq_getElem h, getD_at h] <;> rfl
def spAll (K : PySem.W.Frag) : Sp := fun vs H Q _ => ∃ (m : Addr) (ms : List Int), vs = [.ref m] ∧ SqL K H m (ms.map V.int) ∧ ms.length ≤ 50 ∧ RetL ((progTo (two ms) ms.length ms.length).map V.int) H Q
theorem ok_all {f : Addr} {fd : FuncData} (D : Dfn K mg "all_sums" "all_sums" s_all_sums ["marks"] f fd) (T : Tx mg) : FnOk P w K mg base CX0 1 f fd ["marks"] (spAll K) := by
  refine D.F.ok sc_all_sums (fun vs H Q E h => ?_) (fun cdv A outer s H vs Q E hr h => ?_)
  · obtain ⟨m, ms, rfl, _⟩ := h
    rfl
  · obtain ⟨m, ms, rfl, hm, hz, k⟩ := h
    refine ⟨_, (pss_one (ps_ret (pe_lc2 (own := [("at", 1), ("first", 2), ("second", 3)]) (vs1 := [3]) rfl sc_all_sums.nd (pi_enum (by rfl) T.b_enumerate (pa_cons (pv 0) pa_nil)) (blkOk_by (N := N_all_sums) (sc := defScope s_all_sums) (by decide +kernel)) (by decide) (fun _ _ _ _ _ => (SX.pg_tupK (K := K) (n := 2) rfl (pgs_cons (pg_name (i := 1) sc_all_sums.nd rfl (by first | exact Or.inl rfl | exact Or.inr rfl)) (pgs_cons (pg_name (i := 2) sc_all_sums.nd rfl (by first | exact Or.inl rfl | exact Or.inr rfl)) pgs_nil)))) (fun _ _ _ _ _ => pts_nil) (fun _ _ _ _ _ => (SX.pi_listK (K := K) (pe_slice (SX.sl_listK (K := K)) (pv 0) (po_some (pv 1)) po_none))) (fun _ _ _ _ _ => (pg_name (i := 3) sc_all_sums.nd rfl (by first | exact Or.inl rfl | exact Or.inr rfl))) (fun _ _ _ _ _ => pts_nil) (fun _ _ _ _ _ => (pe_op op_add (pv 2) (pv 3)))))), ?_⟩
    refine ⟨.ref m, rfl, m, ms.map V.int, rfl, hm, fun L hL => ?_⟩
    have hm0 : ∀ H', Ex H H' → SqL K H' m (ms.map V.int) := fun H' e => ex_l e hm
    refine ⟨fun i c H' => c = ms.length - i ∧ i ≤ ms.length ∧ Ex H H' ∧ H' L = some (.lst ((progTo (two ms) ms.length i).map V.int)), ⟨_, rfl, Nat.zero_le _, Ex.new hL, upd_same⟩, ?_⟩
    rintro i c H1 ⟨rfl, hi, e1, h1⟩
    by_cases hlt : i < ms.length
    · refine .inr ⟨⟨_, .int (ms.getD i 0), hm0 _ e1, at_getD hlt⟩, fun H' => Ex H H' ∧ H' L = some (.lst ((progTo (two ms) ms.length (i + 1)).map V.int)), fun H' h' => ⟨_, by omega, rfl, hlt, h'.1, h'.2⟩, ?_⟩
      rintro x H2 ⟨T0, z, rfl, hT, rfl, hz0⟩
      obtain rfl : z = .int (ms.getD i 0) := Option.some.inj ((hz0 _ (hm0 _ e1)).symm.trans (at_getD hlt))
      have e2 : Ex H1 (upd H1 T0 (.tup [.int (i : Nat), .int (ms.getD i 0)])) := Ex.new hT
      have hTu : SqT K (upd H1 T0 (.tup [.int (i : Nat), .int (ms.getD i 0)])) T0 [.int (i : Nat), .int (ms.getD i 0)] := st_of upd_same
      generalize upd H1 T0 (.tup [.int (i : Nat), .int (ms.getD i 0)]) = H2 at e2 hTu ⊢
      have eH := e1.trans e2
      have h2 := e2 L _ h1
      refine g_two hTu ⟨rfl, tyes_if ?_⟩
      refine el_cutDrop (ev_var rfl) (eo_some (ev_var rfl)) (hm0 _ eH) H2 (Ex.refl H2) _ fun p H3 hp e3 h3 => ⟨p, rfl, ⟨_, sq_of h3⟩, ?_⟩
      have npL : L ≠ p := ne_of_none h2 hp
      refine ⟨fun j c H' => c = ms.length - i - j ∧ j ≤ ms.length - i ∧ Ex H H' ∧ H' p = some (.lst ((ms.drop i).map V.int)) ∧ H' L = some (.lst ((progTo (two ms) ms.length i ++ (List.range' i j).map (two ms i)).map V.int)),
        ⟨_, rfl, Nat.zero_le _, eH.trans e3, h3, by rw [e3 L _ h2]; simp⟩, ?_⟩
      rintro j c H4 ⟨rfl, hj, e4, h4p, h4⟩
      have hlen : ((ms.drop i).map V.int).length = ms.length - i := by simp
      by_cases hjl : j < ms.length - i
      · have hz1 : ((ms.drop i).map V.int)[j]? = some (.int (ms.getD (i + j) 0)) := by
          rw [List.map_drop, List.getElem?_drop]
          exact at_getD (by omega)
        refine .inr ⟨⟨_, _, sq_of h4p, hz1⟩, fun H' => Ex H H' ∧ H' p = some (.lst ((ms.drop i).map V.int)) ∧ H' L = some (.lst ((progTo (two ms) ms.length i ++ (List.range' i (j + 1)).map (two ms i)).map V.int)), fun H' h' => ⟨_, by omega, rfl, hjl, h'.1, h'.2.1, h'.2.2⟩, ?_⟩
        rintro y H5 ⟨rfl, hy⟩
        obtain rfl : y = .int (ms.getD (i + j) 0) := Option.some.inj ((hy _ (sq_of h4p)).symm.trans hz1)
        refine ⟨rfl, tyes_if ?_⟩
        have hsz := prog_le (two ms) hi hz
        refine ⟨_, rfl, _, rfl, _, _, rfl, rfl, _, h4, ?_, Ex.mut e4 hL, by rw [upd_ne npL.symm]; exact h4p, ?_⟩
        · rw [List.length_map, List.length_append, List.length_map, List.length_range']
          exact sz_lt (by omega)
        · have e5 : i + 1 * j = i + j := by omega
          have e6 : (List.range' i (j + 1)).map (two ms i) = (List.range' i j).map (two ms i) ++ [ms.getD i 0 + ms.getD (i + j) 0] := by
            rw [List.range'_concat, List.map_append, e5] <;> rfl
          rw [upd_same, e6, ← List.append_assoc]
          simp only [List.map_append, List.map_cons, List.map_nil]
      · refine .inl ⟨⟨_, sq_of h4p, by rw [hlen]; omega⟩, e4, ?_⟩
        have e5 : j = ms.length - i := by omega
        rw [h4, prog_next, e5]
    · have e : i = ms.length := by omega
      subst e
      exact .inl ⟨⟨_, hm0 _ e1, by rw [List.length_map] <;> exact Nat.le_refl _⟩, k L H1 hL e1 h1⟩
def spApart (K : PySem.W.Frag) : Sp := fun vs H Q _ => ∃ (s : V) (m : Addr) (ms : List Int), vs = [s, .ref m] ∧ SqL K H m (ms.map V.int) ∧ ms.length ≤ 50 ∧ RetV (.bl (decide (SM.Apart ms))) H Q
theorem ok_apart {f f1 : Addr} {fd fd1 : FuncData} (D : Fun K "shows" "Apart.shows" s_Apart_shows f fd) (T : Tx mg) (D_all_sums : Dfn K mg "all_sums" "all_sums" s_all_sums ["marks"] f1 fd1) : FnOk P w K mg base CX0 2 f fd ["self", "marks"] (spApart K) := by
  have G_all_sums : FnOk P w K mg base CX0 1 f1 fd1 ["marks"] (spAll K) := ok_all D_all_sums T
  refine D.ok sc_Apart_shows (fun vs H Q E h => ?_) (fun cdv A outer s H vs Q E hr h => ?_)
  · obtain ⟨s, m, ms, rfl, _⟩ := h
    rfl
  · obtain ⟨s0, m, ms, rfl, hm, hz, k⟩ := h
    refine ⟨_, (pss_cons (ps_set (i := 2) sc_Apart_shows.nd rfl (by first | exact Or.inl rfl | exact Or.inr rfl) (pe_call G_all_sums (hr.mono (by decide)) (by rfl) D_all_sums.g D_all_sums.F.kp D_all_sums.b .nil pass0 (pa_cons (pv 1) pa_nil)))
      (pss_one (ps_ret (pe_cmpR op_eq (SX.pe_lenSet (by rfl) T.b_len (by rfl) T.b_set (pv 2)) (pe_callB call_len_seq (by rfl) T.b_len (by decide +kernel) (pa_cons (pv 2) pa_nil)) (nomark _))))), ?_⟩
    refine q_asgL (el_call (by walk_at "ev") fun H1 e1 Q q E => ⟨m, ms, rfl, ex_l e1 hm, hz, q⟩) fun p H1 hp e1 h1 => ?_
    refine s_ret (ev_op (ev_lenSet (ev_var rfl) (sq_of h1) (by have := prog_le (two ms) (Nat.le_refl _) hz; omega)) (ev_lenI (ev_var rfl) (sq_of h1)) (rv_eq rfl)) fun H2 e2 => ?_
    rw [nDis_dec, decide_eq_decide.mpr (nodup_iff (two ms) ms.length)]
    exact k H2 (e1.trans e2)
theorem dec_self (v : V) : decide (v = v) = true := decide_eq_true rfl
end
end K4

namespace K4
open PySem PySem.Spec PyProof.Rows L2 Evl SX SM
local macro_rules | `(tactic| walk_at "cond") => `(tactic| first
  | assumption
  | exact cdiv_small (by decide) (by decide)
  | exact cmul_l (by decide) (by decide)
  | exact cmul_r (by decide) (by decide)
  | exact cpow_c (by decide) (by decide) (by decide)
  | (show (0 : Int) < _; decide)
  | (show (0 : Int) < _; omega))
local macro_rules | `(tactic| walk_at "ev") => `(tactic| first
  | with_reducible exact ev_c
  | ((with_reducible apply ev_var); exact rfl)
  | with_reducible exact ea_nil
  | with_reducible exact eo_none
  | ((with_reducible apply ea_cons) <;> walk_at "ev")
  | ((with_reducible apply eo_some); walk_at "ev")
  | ((with_reducible apply ev_op (hr := rv_I0)) <;> walk_at "ev")
  | ((with_reducible apply ev_op (hr := rv_I ?cnd)); (· walk_at "ev"); (· walk_at "ev"); (· walk_at "cond"))
  | ((with_reducible apply ev_un (hr := ru_neg)); walk_at "ev")
  | ((with_reducible apply ev_op (hr := rv_eq ?cnd)); (· walk_at "ev"); (· walk_at "ev"); (· exact rfl))
  | ((with_reducible apply ev_op (hr := rv_ne ?cnd)); (· walk_at "ev"); (· walk_at "ev"); (· exact rfl))
  | ((with_reducible apply ev_lenI); (· walk_at "ev"); (· assumption))
  | ((with_reducible apply ev_ixL); (· walk_at "ev"); (· walk_at "ev"); (· assumption); (· first | exact atI_nat (j := 0) rfl | exact atI_nat (j := 1) rfl | exact atI_nat (j := 2) rfl))
  | ((with_reducible apply et_test); walk_at "ev")
  | ((with_reducible apply et_B); walk_at "ev"))
local macro_rules | `(tactic| walk_at "tup") => `(tactic| first
  | ((with_reducible apply evp_T [_, _]); (· walk_at "ev"); (· exact rfl); (· show 2 ≤ 100000; decide))
  | ((with_reducible apply evp_T [_]); (· walk_at "ev"); (· exact rfl); (· show 1 ≤ 100000; decide))
  | ((with_reducible apply evp_T [_, _, _]); (· walk_at "ev"); (· exact rfl); (· show 3 ≤ 100000; decide))
  | ((with_reducible apply evp_T []); (· walk_at "ev"); (· exact rfl); (· show 0 ≤ 100000; decide)))
local macro_rules | `(tactic| walk_at "pairs") => `(tactic| first
  | with_reducible exact eal_nil
  | ((with_reducible apply eal_cons PairT.mono); (· ((with_reducible apply evp_pair) <;> walk_at "tup")); (· walk_at "pairs")))
abbrev s_law_number : Stmt := topS 19
abbrev N_law_number : List Str := ["_law_cell", "_law_at", "_law_whole_here", "_law_mixed", "_law_more"]
theorem sc_law_number : FnScope N_law_number ["_law_cell", "_law_at", "_law_whole_here"] (defScope s_law_number) := ⟨rfl, rfl, rfl, by decide +kernel, rfl, by decide +kernel, by decide +kernel⟩
abbrev s_law_marks : Stmt := topS 21
abbrev N_law_marks : List Str := ["_law_script", "_law_cells", "_law_whole_here", "_law_kind", "_law_prime", "_law_found", "_law_at", "_law_cell", "_law_wide", "_law_last"]
theorem sc_law_marks : FnScope N_law_marks ["_law_script"] (defScope s_law_marks) := ⟨rfl, rfl, rfl, by decide +kernel, rfl, by decide +kernel, by decide +kernel⟩
abbrev s_law_apart : Stmt := topS 22
abbrev N_law_apart : List Str := ["_law_marks_here", "_law_sums", "_law_other", "_law_one"]
theorem sc_law_apart : FnScope N_law_apart ["_law_marks_here"] (defScope s_law_apart) := ⟨rfl, rfl, rfl, by decide +kernel, rfl, by decide +kernel, by decide +kernel⟩
/-! ### bits -/
theorem lt_of_bits {z : Int} {n : Nat} (h : Builtin.Int.intBits z ≤ n) : z.natAbs < 2 ^ n := by
  unfold Builtin.Int.intBits at h
  by_cases hz : z = 0
  · subst hz
    exact Nat.two_pow_pos n
  · have hb : (z == 0) = false := by simpa using hz
    rw [hb] at h
    simp only [Bool.false_eq_true, if_false] at h
    exact Nat.lt_of_lt_of_le Nat.lt_log2_self (Nat.pow_le_pow_right (by decide) h)
theorem natAbs_add_lt {a b : Int} {n : Nat} (h1 : a.natAbs < 2 ^ n) (h2 : b.natAbs < 2 ^ n) : (a + b).natAbs < 2 ^ (n + 1) := by
  rw [Nat.pow_succ]
  omega
theorem sum_lt : ∀ (l : List Int) (n k : Nat), l.length ≤ 2 ^ k → (∀ z ∈ l, z.natAbs < 2 ^ n) → l.sum.natAbs ≤ l.length * 2 ^ n
  | [], n, k, _, _ => by simp
  | a :: r, n, k, hl, h => by
    have ih := sum_lt r n k (by simp only [List.length_cons] at hl; omega) fun z hz => h z (List.mem_cons_of_mem _ hz)
    have h1 := h a List.mem_cons_self
    rw [List.sum_cons, List.length_cons, Nat.succ_mul]
    omega
theorem bits_sum {l : List Int} {n : Nat} (hl : l.length ≤ 63) (h : ∀ z ∈ l, Builtin.Int.intBits z ≤ n) : Builtin.Int.intBits l.sum ≤ n + 6 := by
  refine intBits_le (Nat.lt_of_le_of_lt (sum_lt l n 6 (by omega) fun z hz => lt_of_bits (h z hz)) ?_)
  rw [Nat.pow_add, Nat.mul_comm (2 ^ n)]
  exact Nat.mul_lt_mul_of_pos_right (by omega) (Nat.two_pow_pos n)
/-! ### _law_number -/
def mixed (c a w : Int) : Int := ((c + 977 * a) * 48271 + w) % 2147483647
def more (c a w : Int) : Int := mixed c a w * (c + 31 * a + 7)
def number (c a w : Int) : Int := if decide (10 ^ (18 : Int).toNat ≤ c) = true then c / (1 + a % 7) else more c a w * (mixed c a w + c + 5) * (mixed c a w * mixed c a w + 11) / (1009 + a)
theorem mixed_ge (c a w : Int) : 0 ≤ mixed c a w := Int.emod_nonneg _ (by decide)
theorem mixed_lt (c a w : Int) : mixed c a w < 2147483647 := Int.emod_lt_of_pos _ (by decide)
theorem more_mul {c a w : Int} {n : Nat} (hn : n ≤ 1100000) (hc : Builtin.Int.intBits c ≤ n) (h0 : 0 ≤ a) (h1 : a ≤ 100) : CMulX (more c a w) (mixed c a w + c + 5) := by
  have h2 := mixed_ge c a w
  have h3 := mixed_lt c a w
  have hc2 : c.natAbs < 2 ^ (n + 32) := Nat.lt_of_lt_of_le (lt_of_bits hc) (Nat.pow_le_pow_right (by decide) (by omega))
  have e32 : (2 : Nat) ^ 32 ≤ 2 ^ (n + 32) := Nat.pow_le_pow_right (by decide) (by omega)
  have hp : (2 : Nat) ^ 32 = 4294967296 := by decide
  rw [hp] at e32
  have f1 : (c + 31 * a + 7).natAbs < 2 ^ (n + 33) := by
    rw [show n + 33 = (n + 32) + 1 from rfl, Nat.pow_succ]
    omega
  have f2 : (mixed c a w + c + 5).natAbs < 2 ^ (n + 33) := by
    rw [show n + 33 = (n + 32) + 1 from rfl, Nat.pow_succ]
    omega
  have f3 : (mixed c a w).natAbs < 2 ^ 32 := by
    rw [hp]
    omega
  exact mulx_ok (wide_lt f3 f1) f2 (by omega)
section
variable {P : Program} {w : World} {K : PySem.W.Frag} {mg : Str → Option Value} {base : Heap}
def spNum : Sp := fun vs H Q _ => ∃ c a v : Int, vs = [.int c, .int a, .int v] ∧ Builtin.Int.intBits c ≤ 1100000 ∧ 0 ≤ a ∧ a ≤ 100 ∧ RetV (.int (number c a v)) H Q
theorem ok_num {f : Addr} {fd : FuncData} (D : Dfn K mg "_law_number" "_law_number" s_law_number ["_law_cell", "_law_at", "_law_whole_here"] f fd) : FnOk P w K mg base CX0 1 f fd ["_law_cell", "_law_at", "_law_whole_here"] spNum := by
  refine D.F.ok sc_law_number (fun vs H Q E h => ?_) (fun cdv A outer s H vs Q E hr h => ?_)
  · obtain ⟨c, a, v, rfl, _⟩ := h
    rfl
  · obtain ⟨c, a, v, rfl, hc, h0, h1, k⟩ := h
    refine ⟨_, (pss_cons (ps_if (pt_cmpR op_ge (pv 0) (pe_op op_pow pe_int pe_int) (nomark _))
      (pss_one (ps_ret (pe_op op_fdivW (pv 0) (pe_op op_add pe_int (pe_op op_mod (pv 1) pe_int)))))
      pss_nil)
      (pss_cons (ps_set (i := 3) sc_law_number.nd rfl (by first | exact Or.inl rfl | exact Or.inr rfl) (pe_op op_mod (pe_op op_add (pe_op op_mul (pe_op op_add (pv 0) (pe_op op_mul pe_int (pv 1))) pe_int) (pv 2)) pe_int))
      (pss_cons (ps_set (i := 4) sc_law_number.nd rfl (by first | exact Or.inl rfl | exact Or.inr rfl) (pe_op op_mul (pv 3) (pe_op op_add (pe_op op_add (pv 0) (pe_op op_mul pe_int (pv 1))) pe_int)))
      (pss_one (ps_ret (pe_op op_fdivW (pe_op op_mul (pe_op op_mulX (pv 4) (pe_op op_add (pe_op op_add (pv 3) (pv 0)) pe_int)) (pe_op op_add (pe_op op_mul (pv 3) (pv 3)) pe_int)) (pe_op op_add pe_int (pv 1)))))))), ?_⟩
    have c1 : CDivW c (1 + a % 7) := cdiv_small (by omega) (by omega)
    refine q_when (et_test (by walk_at "ev")) (fun hb H1 e1 => ?_) fun hb H1 e1 => ?_
    · refine s_ret (by walk_at "ev") fun H2 e2 => ?_
      have q := k H2 (e1.trans e2)
      unfold number at q
      rw [if_pos hb] at q
      exact q
    · have hv : number c a v = more c a v * (mixed c a v + c + 5) * (mixed c a v * mixed c a v + 11) / (1009 + a) := by
        unfold number
        rw [if_neg (by rw [hb] <;> exact Bool.false_ne_true)]
      have m0 := mixed_ge c a v
      have m1 := mixed_lt c a v
      have mm : mixed c a v * mixed c a v ≤ 2147483647 * 2147483647 := Int.mul_le_mul (by omega) (by omega) m0 (by decide)
      have mn : 0 ≤ mixed c a v * mixed c a v := Int.mul_nonneg m0 m0
      have c2 : CMul (mixed c a v) (c + 31 * a + 7) := cmul_l (by omega) (by omega)
      have c3 : CMulX (more c a v) (mixed c a v + c + 5) := more_mul (Nat.le_refl _) hc h0 h1
      have c4 : CMul (mixed c a v) (mixed c a v) := cmul_l (by omega) (by omega)
      have c5 : CMul (more c a v * (mixed c a v + c + 5)) (mixed c a v * mixed c a v + 11) := cmul_r (by omega) (by omega)
      have c6 : CDivW (more c a v * (mixed c a v + c + 5) * (mixed c a v * mixed c a v + 11)) (1009 + a) := cdiv_small (by omega) (by omega)
      have c7 : CMul (31 : Int) a := cmul_l (by decide) (by decide)
      refine q_asg (v := .int (mixed c a v)) (ev_is (by walk_at "ev") (by exact rfl)) fun H2 e2 => ?_
      refine q_asg (v := .int (more c a v)) (ev_is (by walk_at "ev") (by exact rfl)) fun H3 e3 => ?_
      refine s_ret (v := .int (more c a v * (mixed c a v + c + 5) * (mixed c a v * mixed c a v + 11) / (1009 + a))) (ev_is (by walk_at "ev") (by exact rfl)) fun H4 e4 => ?_
      have q := k H4 (((e1.trans e2).trans e3).trans e4)
      rw [hv] at q
      exact q
/-! ### _law_marks -/
def cellsOf (ns : List Int) (k : Nat) (d : Int) : List Int := if ns = [] then [d] else ns.take k
theorem cells_yes {ns : List Int} {k : Nat} {d : Int} (h : (!decide (ns = [])) = true) : cellsOf ns k d = ns.take k := by
  unfold cellsOf
  refine if_neg fun e => ?_
  rw [decide_eq_true e] at h
  exact Bool.noConfusion h
theorem cells_no {ns : List Int} {k : Nat} {d : Int} (h : (!decide (ns = [])) = false) : cellsOf ns k d = [d] := by
  unfold cellsOf
  refine if_pos ?_
  cases h2 : decide (ns = []) with
  | true => exact of_decide_eq_true h2
  | false => rw [h2] at h; exact Bool.noConfusion h
theorem cells_len {ns : List Int} {k : Nat} {d : Int} (hk : 1 ≤ k) : (cellsOf ns k d).length ≤ k := by
  unfold cellsOf
  split
  · exact hk
  · rw [List.length_take]; omega
theorem cells_bits {ns : List Int} {k : Nat} {d : Int} {n : Nat} (hd : Builtin.Int.intBits d ≤ n) (h : ∀ z ∈ ns, Builtin.Int.intBits z ≤ n) : ∀ z ∈ cellsOf ns k d, Builtin.Int.intBits z ≤ n := by
  intro z hz
  unfold cellsOf at hz
  split at hz
  · rw [List.mem_singleton.mp hz]
    exact hd
  · exact h z (List.mem_of_mem_take hz)
theorem el_cells {K : PySem.W.Frag} {σ : L2.St} {H : Hp} {hu : R2} {a : Addr} {ns : List Int} {k : Nat} {d : Int} {i : Nat} (hs : σ[i]? = some (some (.ref a))) (hS : SqL K H a (ns.map V.int)) :
    EvL (tIf (tTest (tOp (rNeD K) (tVar i) (tLst tNil))) (tSl (rSlL K) (tVar i) tNoPart (tPart (tC (.int (k : Int))))) (tLst (tCons (tC (.int d)) tNil))) σ H ((cellsOf ns k d).map V.int) := by
  refine el_if (et_test (ev_opL (ev_var hs) (el_lst ea_nil (by decide)) fun p H1 h1 e1 => rv_neLL (ms := []) (ex_l e1 hS) (sq_of h1))) (fun hb => ?_) fun hb => ?_
  · rw [cells_yes hb]
    exact el_cutTake (ev_var hs) (eo_some ev_c) hS
  · rw [cells_no hb]
    exact el_ints [d] (ea_cons ev_c ea_nil) rfl (by show 1 ≤ 100000; decide)
def spMarks (K : PySem.W.Frag) : Sp := fun vs H Q _ => ∃ (a : Addr) (ns : List Int), vs = [.ref a] ∧ SqL K H a (ns.map V.int) ∧ ns.length ≤ 63 ∧ (∀ z ∈ ns, Builtin.Int.intBits z ≤ 1048576) ∧
  ∀ (ms : List Int) (p : Addr) (H2 : Hp), ms.length ≤ 40 → ms.Pairwise (· < ·) → H p = none → Ex H H2 → H2 p = some (.lst (ms.map V.int)) → Q (.ref p) H2
theorem four {W : Int} (a b c d : Int) : ∃ v, (v = a ∨ v = b ∨ v = c ∨ v = d) ∧ atI ([a, b, c, d].map V.int) (W % 4) = some (.int v) := by
  have h : W % 4 = 0 ∨ W % 4 = 1 ∨ W % 4 = 2 ∨ W % 4 = 3 := by omega
  rcases h with h | h | h | h <;> rw [h]
  · exact ⟨a, .inl rfl, rfl⟩
  · exact ⟨b, .inr (.inl rfl), rfl⟩
  · exact ⟨c, .inr (.inr (.inl rfl)), rfl⟩
  · exact ⟨d, .inr (.inr (.inr rfl)), rfl⟩
theorem fourK {k w : Int} (h1 : 1 ≤ k) (h2 : k ≤ 3) (a b c d : Int) : ∃ v, (v = a ∨ v = b ∨ v = c ∨ v = d) ∧ atI ([a, b, c, d].map V.int) (k + w % 2 - 1) = some (.int v) := by
  have h : k + w % 2 - 1 = 0 ∨ k + w % 2 - 1 = 1 ∨ k + w % 2 - 1 = 2 ∨ k + w % 2 - 1 = 3 := by omega
  rcases h with h | h | h | h <;> rw [h]
  · exact ⟨a, .inl rfl, rfl⟩
  · exact ⟨b, .inr (.inl rfl), rfl⟩
  · exact ⟨c, .inr (.inr (.inl rfl)), rfl⟩
  · exact ⟨d, .inr (.inr (.inr rfl)), rfl⟩
theorem three {W : Int} (a b c : Int) : ∃ v, (v = a ∨ v = b ∨ v = c) ∧ atI ([a, b, c].map V.int) (W % 3) = some (.int v) := by
  have h : W % 3 = 0 ∨ W % 3 = 1 ∨ W % 3 = 2 := by omega
  rcases h with h | h | h <;> rw [h]
  · exact ⟨a, .inl rfl, rfl⟩
  · exact ⟨b, .inr (.inl rfl), rfl⟩
  · exact ⟨c, .inr (.inr rfl), rfl⟩
theorem get_ints {cs : List Int} {i : Nat} {x : V} (h : (cs.map V.int)[i]? = some x) : ∃ z ∈ cs, x = .int z ∧ i < cs.length := by
  obtain ⟨h1, h2⟩ := List.getElem?_eq_some_iff.mp h
  rw [List.length_map] at h1
  refine ⟨cs[i], List.getElem_mem h1, ?_, h1⟩
  rw [← h2, List.getElem_map]
theorem ok_marks {f f1 : Addr} {fd fd1 : FuncData} (D : Dfn K mg "_law_marks" "_law_marks" s_law_marks ["_law_script"] f fd) (T : Tx mg) (D_law_number : Dfn K mg "_law_number" "_law_number" s_law_number ["_law_cell", "_law_at", "_law_whole_here"] f1 fd1) : FnOk P w K mg base CX0 2 f fd ["_law_script"] (spMarks K) := by
  have G_law_number : FnOk P w K mg base CX0 1 f1 fd1 ["_law_cell", "_law_at", "_law_whole_here"] spNum := ok_num D_law_number
  refine D.F.ok sc_law_marks (fun vs H Q E h => ?_) (fun cdv A outer s H vs Q E hr h => ?_)
  · obtain ⟨a, ns, rfl, _⟩ := h
    rfl
  · obtain ⟨a, ns, rfl, hS, hlen, hbits, k⟩ := h
    refine ⟨_, (pss_cons (ps_set (i := 1) sc_law_marks.nd rfl (by first | exact Or.inl rfl | exact Or.inr rfl) (pe_ifExp (pt_cmpR (op_neD hr.units) (pv 0) (pe_lst pa_nil) (nomark _)) (pe_slice sl_list (pv 0) po_none (po_some pe_int)) (pe_lst (pa_cons pe_int pa_nil))))
      (pss_cons (ps_set (i := 2) sc_law_marks.nd rfl (by first | exact Or.inl rfl | exact Or.inr rfl) (pe_callB (cr_sum rfl) (by rfl) T.b_sum (by decide +kernel) (pa_cons (pv 1) pa_nil)))
      (pss_cons (ps_set (i := 3) sc_law_marks.nd rfl (by first | exact Or.inl rfl | exact Or.inr rfl) (pe_op op_mod (pv 2) pe_int))
      (Evl.pss_cut (ps_if (pt_cmpR op_eq (pv 3) pe_int (nomark _))
      (pss_cons (ps_set (i := 4) sc_law_marks.nd rfl (by first | exact Or.inl rfl | exact Or.inr rfl) (pe_ix ix_tup (pe_tup (pa_cons pe_int (pa_cons pe_int (pa_cons pe_int (pa_cons pe_int pa_nil))))) (pe_op op_mod (pe_op op_fdivW (pv 2) pe_int) pe_int) (fun _ _ => rfl)))
      (pss_cons (ps_set (i := 5) sc_law_marks.nd rfl (by first | exact Or.inl rfl | exact Or.inr rfl) (pe_lst pa_nil))
      (pss_one (ps_for PassesOwn.never rfl (pi_enum (by rfl) T.b_enumerate (pa_cons (pe_slice sl_list (pv 1) po_none (po_some pe_int)) pa_nil)) (pg_tup rfl (pgs_cons (pg_name (i := 6) sc_law_marks.nd rfl (by first | exact Or.inl rfl | exact Or.inr rfl)) (pgs_cons (pg_name (i := 7) sc_law_marks.nd rfl (by first | exact Or.inl rfl | exact Or.inr rfl)) pgs_nil)))
      (pss_one (ps_if (pt_cmpR op_gt (pe_op op_mod (pe_call G_law_number (hr.mono (by decide)) (by rfl) D_law_number.g D_law_number.F.kp D_law_number.b .nil pass0 (pa_cons (pv 7) (pa_cons (pv 6) (pa_cons (pv 2) pa_nil)))) pe_int) pe_int (nomark _))
      (pss_one (ps_expr (pe_bm PySem.F.plainAttrs_list PySem.F.slot_list_append PySem.F.type_list_append mt_append (pv 5) (pa_cons (pe_op op_add (pe_op op_mul (pe_op op_mul pe_int (pv 4)) (pv 6)) (pe_op op_mod (pe_op op_mul (pv 6) (pv 6)) (pv 4))) pa_nil))))
      pss_nil))))))
      (pss_cons (ps_set (i := 8) sc_law_marks.nd rfl (by first | exact Or.inl rfl | exact Or.inr rfl) (pe_ix ix_tup (pe_tup (pa_cons pe_int (pa_cons pe_int (pa_cons pe_int (pa_cons (pe_op op_pow pe_int pe_int) pa_nil))))) (pe_op op_sub (pe_op op_add (pv 3) (pe_op op_mod (pe_op op_fdivW (pv 2) pe_int) pe_int)) pe_int) (fun _ _ => rfl)))
      (pss_cons (ps_set (i := 9) sc_law_marks.nd rfl (by first | exact Or.inl rfl | exact Or.inr rfl) (pe_ix ix_tup (pe_tup (pa_cons pe_int (pa_cons (pe_un un_neg pe_int) (pa_cons (pe_op op_pow pe_int pe_int) (pa_cons (pe_un un_neg (pe_op op_pow pe_int pe_int)) pa_nil))))) (pe_op op_mod (pe_op op_fdivW (pv 2) pe_int) pe_int) (fun _ _ => rfl)))
      (pss_cons (ps_set (i := 5) sc_law_marks.nd rfl (by first | exact Or.inl rfl | exact Or.inr rfl) (pe_lst pa_nil))
      (pss_one (ps_for PassesOwn.never rfl (pi_enum (by rfl) T.b_enumerate (pa_cons (pe_slice sl_list (pv 1) po_none (po_some (pe_ix ix_tup (pe_tup (pa_cons pe_int (pa_cons pe_int (pa_cons pe_int pa_nil)))) (pe_op op_mod (pe_op op_fdivW (pv 2) pe_int) pe_int) (fun _ _ => rfl)))) pa_nil)) (pg_tup rfl (pgs_cons (pg_name (i := 6) sc_law_marks.nd rfl (by first | exact Or.inl rfl | exact Or.inr rfl)) (pgs_cons (pg_name (i := 7) sc_law_marks.nd rfl (by first | exact Or.inl rfl | exact Or.inr rfl)) pgs_nil)))
      (pss_cons (ps_set (i := 9) sc_law_marks.nd rfl (by first | exact Or.inl rfl | exact Or.inr rfl) (pe_op op_add (pe_op op_add (pv 9) pe_int) (pe_op op_mod (pe_op op_fdivW (pe_call G_law_number (hr.mono (by decide)) (by rfl) D_law_number.g D_law_number.F.kp D_law_number.b .nil pass0 (pa_cons (pv 7) (pa_cons (pv 6) (pa_cons (pv 2) pa_nil)))) pe_int) (pv 8))))
      (pss_one (ps_expr (pe_bm PySem.F.plainAttrs_list PySem.F.slot_list_append PySem.F.type_list_append mt_append (pv 5) (pa_cons (pv 9) pa_nil)))))))))))
      (Evl.pss_cut (ps_if (PW.pt (pw_and (pt_cmpR op_eq (pe_op op_mod (pe_op op_fdivW (pv 2) pe_int) pe_int) pe_int (nomark _)) (pw_and1 (pt_cmpR op_gt (pe_callB call_len_seq (by rfl) T.b_len (by decide +kernel) (pa_cons (pv 5) pa_nil)) pe_int (nomark _)))))
      (pss_cons (ps_set (i := 6) sc_law_marks.nd rfl (by first | exact Or.inl rfl | exact Or.inr rfl) (pe_op op_mod (pe_op op_fdivW (pv 2) pe_int) (pe_callB call_len_seq (by rfl) T.b_len (by decide +kernel) (pa_cons (pv 5) pa_nil))))
      (pss_one (ps_asg (pe_op op_sub (pe_op op_add (pe_ix ix_list (pv 5) (pv 6) (fun _ _ => rfl)) pe_int) (pe_op op_mod (pe_op op_fdivW (pv 2) pe_int) pe_int)) (pg_sub (pv 5) (pv 6) set_list))))
      pss_nil)
      (pss_one (ps_ret (SX.pe_sortSet (by rfl) T.b_sorted (by rfl) T.b_set (pv 5))))))))), ?_⟩
    refine q_asgL (el_cells (hu := rNeD K) (k := 40) (d := 2) rfl hS) fun c H1 hc e1 h1 => ?_
    have cl : (cellsOf ns 40 2).length ≤ 40 := cells_len (by decide)
    have cb : ∀ z ∈ cellsOf ns 40 2, Builtin.Int.intBits z ≤ 1048576 := cells_bits (by decide) hbits
    refine q_asg (ev_sum (ev_var rfl) (sq_of h1)) fun H2 e2 => ?_
    generalize hcs : cellsOf ns 40 2 = cs at h1 cl cb ⊢
    generalize cs.sum = W
    refine q_asg (v := .int (W % 4)) (by walk_at "ev") fun H3 e3 => ?_
    have e03 : Ex H H3 := (e1.trans e2).trans e3
    have h3 : H3 c = some (.lst (cs.map V.int)) := e3 c _ (e2 c _ h1)
    refine q_cut (M := fun σ' H' => ∃ (fs : List Int) (l : Addr) (y4 y6 y7 y8 y9 : Option V), σ' = [some (.ref a), some (.ref c), some (.int W), some (.int (W % 4)), y4, some (.ref l), y6, y7, y8, y9] ∧ Ex H H' ∧ H l = none ∧ H' l = some (.lst (fs.map V.int)) ∧ fs.length ≤ 40) ?_ ?_
    · refine s_if (et_test (by walk_at "ev")) (fun hb H4 e4 => ?_) fun hb H4 e4 => ?_
      · obtain ⟨pr, hpr, hat⟩ := four (W := W / 4) 31 37 41 43
        have p0 : (0 : Int) < pr := by omega
        have p1 : pr < 100 := by omega
        refine q_asg (ev_ixU (eu_ints [31, 37, 41, 43] (by walk_at "ev") (by exact rfl) (by decide)) (by walk_at "ev") hat) fun H5 e5 => ?_
        refine q_asgL (el_ints [] ea_nil rfl (by decide)) fun l H6 hl e6 h6 => ?_
        have e06 : Ex H H6 := ((e03.trans e4).trans e5).trans e6
        have hl0 : H l = none := fresh_back ((e03.trans e4).trans e5) hl
        refine s_forE (evp_new (el_cutTake (k := 31) (ev_var rfl) (eo_some ev_c) (sq_of (e6 c _ (e5 c _ (e4 c _ h3)))))) fun v H7 e7 hv => ?_
        obtain ⟨q, rfl, hq0, hq⟩ := hv
        have nlq : q ≠ l := (ne_of_none h6 hq0).symm
        refine ⟨q, (cs.take 31).map V.int, fun i σ' H' => ∃ (fs : List Int) (y6 y7 : Option V), σ' = [some (.ref a), some (.ref c), some (.int W), some (.int (W % 4)), some (.int pr), some (.ref l), y6, y7, none, none] ∧ Ex H H' ∧ H' q = some (.lst ((cs.take 31).map V.int)) ∧ H' l = some (.lst (fs.map V.int)) ∧ fs.length ≤ i,
          rfl, ⟨[], _, _, rfl, e06.trans e7, hq, e7 l _ h6, Nat.le_refl _⟩, fun i σ' H' _ ⟨_, _, _, _, _, z, _⟩ => sq_of z, ?_, ?_⟩
        · rintro i x σ' H' H8 hx ⟨fs, y6, y7, rfl, e8, z8, l8, n8⟩ e9
          obtain ⟨z, hz, rfl, hi⟩ := get_ints hx
          have hi2 : i < 31 := by rw [List.length_take] at hi; omega
          have hzb := cb z (List.mem_of_mem_take hz)
          have c1 : CMul (2 * pr) (i : Int) := cmul_r (by omega) (by omega)
          have c2 : CMul (i : Int) (i : Int) := cmul_r (by omega) (by omega)
          have l9 := e9 l _ l8
          refine s_when (et_test (ev_op (ev_op (ev_call (by walk_at "ev") fun H1 e Q q E => ⟨z, i, W, rfl, Nat.le_trans hzb (by decide), by omega, by omega, q⟩) ev_c (rv_I (by walk_at "cond"))) ev_c rv_I0)) (fun _ H10 e10 => ?_) fun _ H10 e10 => ?_
          · refine s_app (e10 l _ l9) (ev_var rfl) (by walk_at "ev") (by rw [List.length_map]; omega) fun H11 e11 => ?_
            refine ⟨fs ++ [_], _, _, rfl, Ex.mut (((e8.trans e9).trans e10).trans e11) hl0, by rw [upd_ne nlq]; exact e11 q _ (e10 q _ (e9 q _ z8)), by rw [List.map_append]; exact upd_same, by rw [List.length_append]; exact Nat.succ_le_succ n8⟩
          · exact ⟨fs, _, _, rfl, (e8.trans e9).trans e10, e10 q _ (e9 q _ z8), e10 l _ l9, Nat.le_succ_of_le n8⟩
        · rintro σ' H' ⟨fs, y6, y7, rfl, e8, z8, l8, n8⟩
          refine ⟨fs, l, _, _, _, _, _, rfl, e8, hl0, l8, ?_⟩
          rw [List.length_map, List.length_take] at n8
          omega
      · have hk : (1 : Int) ≤ W % 4 ∧ W % 4 ≤ 3 := by
          have h0 : decide (V.int (W % 4) = V.int 0) = false := hb
          have h1 : ¬ W % 4 = 0 := fun e => by
            rw [e] at h0
            exact absurd h0 (by decide)
          omega
        obtain ⟨wd, hwd, hat⟩ := fourK (w := W / 16) hk.1 hk.2 1 6 400 (10 ^ (30 : Int).toNat)
        obtain ⟨la, hla, hat2⟩ := four (W := W / 32) 0 (-50) (10 ^ (20 : Int).toNat) (-(10 ^ (25 : Int).toNat))
        obtain ⟨tk, htk, hat3⟩ := three (W := W / 128) 40 12 5
        have w0 : (0 : Int) < wd := by
          rcases hwd with h | h | h | h <;> rw [h] <;> decide
        refine q_asg (ev_ixU (eu_ints [1, 6, 400, 10 ^ (30 : Int).toNat] (by walk_at "ev") (by exact rfl) (by decide)) (by walk_at "ev") hat) fun H5 e5 => ?_
        refine q_asg (ev_ixU (eu_ints [0, -50, 10 ^ (20 : Int).toNat, -(10 ^ (25 : Int).toNat)] (by walk_at "ev") (by exact rfl) (by decide)) (by walk_at "ev") hat2) fun H6 e6 => ?_
        refine q_asgL (el_ints [] ea_nil rfl (by decide)) fun l H7 hl e7 h7 => ?_
        have e06 : Ex H H6 := ((e03.trans e4).trans e5).trans e6
        have hl0 : H l = none := fresh_back e06 hl
        obtain ⟨tn, htn, htn2⟩ : ∃ tn : Nat, tk = (tn : Int) ∧ tn ≤ 40 := by
          rcases htk with h | h | h
          · exact ⟨40, h, by decide⟩
          · exact ⟨12, h, by decide⟩
          · exact ⟨5, h, by decide⟩
        subst htn
        refine s_forE (evp_new (el_cutTake (k := tn) (ev_var rfl) (eo_some (ev_ixU (eu_ints [40, 12, 5] (by walk_at "ev") (by exact rfl) (by decide)) (by walk_at "ev") hat3)) (sq_of (e7 c _ (e6 c _ (e5 c _ (e4 c _ h3))))))) fun v H8 e8 hv => ?_
        obtain ⟨q, rfl, hq0, hq⟩ := hv
        have nlq : q ≠ l := (ne_of_none h7 hq0).symm
        refine ⟨q, (cs.take tn).map V.int, fun i σ' H' => ∃ (fs : List Int) (z : Int) (y6 y7 : Option V), σ' = [some (.ref a), some (.ref c), some (.int W), some (.int (W % 4)), none, some (.ref l), y6, y7, some (.int wd), some (.int z)] ∧ Ex H H' ∧ H' q = some (.lst ((cs.take tn).map V.int)) ∧ H' l = some (.lst (fs.map V.int)) ∧ fs.length ≤ i,
          rfl, ⟨[], _, _, _, rfl, (e06.trans e7).trans e8, hq, e8 l _ h7, Nat.le_refl _⟩, fun i σ' H' _ ⟨_, _, _, _, _, _, z, _⟩ => sq_of z, ?_, ?_⟩
        · rintro i x σ' H' H9 hx ⟨fs, lz, y6, y7, rfl, e9, z9, l9, n9⟩ e10
          obtain ⟨z, hz, rfl, hi⟩ := get_ints hx
          have hi2 : i < 40 := by rw [List.length_take] at hi; omega
          have hzb := cb z (List.mem_of_mem_take hz)
          have l10 := e10 l _ l9
          refine q_asg (ev_op (ev_op (ev_var rfl) ev_c rv_I0) (ev_op (ev_op (ev_call (by walk_at "ev") fun H1 e Q q E => ⟨z, i, W, rfl, Nat.le_trans hzb (by decide), by omega, by omega, q⟩) ev_c (rv_I (by walk_at "cond"))) (ev_var rfl) (rv_I (by walk_at "cond"))) rv_I0) fun H11 e11 => ?_
          refine s_app (e11 l _ l10) (ev_var rfl) (ev_var rfl) (by rw [List.length_map]; omega) fun H12 e12 => ?_
          exact ⟨fs ++ [_], _, _, _, rfl, Ex.mut (((e9.trans e10).trans e11).trans e12) hl0, by rw [upd_ne nlq]; exact e12 q _ (e11 q _ (e10 q _ z9)), by rw [List.map_append]; exact upd_same, by rw [List.length_append]; exact Nat.succ_le_succ n9⟩
        · rintro σ' H' ⟨fs, lz, y6, y7, rfl, e9, z9, l9, n9⟩
          refine ⟨fs, l, _, _, _, _, _, rfl, e9, hl0, l9, ?_⟩
          rw [List.length_map, List.length_take] at n9
          omega
    · rintro σ' H' ⟨fs, l, y4, y6, y7, y8, y9, rfl, e4, hl0, h4, n4⟩
      refine q_cut (M := fun σ' H' => ∃ (fs : List Int) (y6 : Option V), σ' = [some (.ref a), some (.ref c), some (.int W), some (.int (W % 4)), y4, some (.ref l), y6, y7, y8, y9] ∧ Ex H H' ∧ H' l = some (.lst (fs.map V.int)) ∧ fs.length ≤ 40) ?_ ?_
      · refine s_when (et_and (et_test (by walk_at "ev")) fun _ => et_test (ev_op (ev_lenI (ev_var rfl) (sq_of h4)) ev_c rv_I0)) (fun hb H5 e5 => ?_) fun hb H5 e5 => ⟨fs, _, rfl, e4.trans e5, e5 l _ h4, n4⟩
        have hlen2 : 2 < fs.length := by
          have h2 := (Bool.and_eq_true_iff.mp hb).2
          have h3 := of_decide_eq_true h2
          omega
        have n0 : (0 : Int) < (fs.length : Int) := by omega
        have h5 := e5 l _ h4
        obtain ⟨j, hj⟩ : ∃ j : Nat, W / 12 % (fs.length : Int) = (j : Int) := Int.eq_ofNat_of_zero_le (Int.emod_nonneg _ (by omega))
        have hjl : j < fs.length := by
          have := Int.emod_lt_of_pos (W / 12) n0
          omega
        refine q_asg (ev_is (ev_op (by walk_at "ev") (ev_lenI (ev_var rfl) (sq_of h5)) (rv_I n0)) (congrArg V.int hj)) fun H6 e6 => ?_
        have h6 := e6 l _ h5
        refine s_setL h6 (ev_op (ev_op (ev_ixL (ev_var rfl) (ev_var rfl) (sq_of h6) (at_ints (by omega) (by omega))) ev_c rv_I0) (by walk_at "ev") rv_I0) (ev_var rfl) (ev_var rfl) (by rw [List.length_map]; exact hjl) fun H7 e7 => ?_
        exact ⟨fs.set j _, _, rfl, Ex.mut (((e4.trans e5).trans e6).trans e7) hl0, by rw [upd_same, List.map_set], by rw [List.length_set]; exact n4⟩
      · rintro σ' H' ⟨fs, y6, rfl, e5, h5, n5⟩
        refine s_retP (evp_sortSet (ev_var rfl) (sq_of h5) (by omega)) fun v H6 e6 hv => ?_
        obtain ⟨p, ms, rfl, hp, hs, _, hm, hp0⟩ := hv
        exact k ms p H6 (by omega) hs (fresh_back e5 hp0) (e5.trans e6) hp
/-! ### _law_apart -/
theorem given_all (n : Nat) (v : Nat → V) : given n (fun _ => true) v = (List.range n).map v := by
  unfold given
  rw [List.filter_eq_self.mpr fun _ _ => rfl]
def spLawApart (K : PySem.W.Frag) : Sp := fun vs H Q _ => ∃ (m : Addr) (ms : List Int), vs = [.ref m] ∧ SqL K H m (ms.map V.int) ∧ ms.length ≤ 50 ∧ RetV (.bl (decide (SM.Apart ms))) H Q
theorem ok_lawApart {f : Addr} {fd : FuncData} (D : Dfn K mg "_law_apart" "_law_apart" s_law_apart ["_law_marks_here"] f fd) (T : Tx mg) : FnOk P w K mg base CX0 1 f fd ["_law_marks_here"] (spLawApart K) := by
  refine D.F.ok sc_law_apart (fun vs H Q E h => ?_) (fun cdv A outer s H vs Q E hr h => ?_)
  · obtain ⟨m, ms, rfl, _⟩ := h
    rfl
  · obtain ⟨m, ms, rfl, hm, hz, k⟩ := h
    refine ⟨_, (pss_cons (ps_set (i := 1) sc_law_apart.nd rfl (by first | exact Or.inl rfl | exact Or.inr rfl) (pe_lst pa_nil))
      (pss_cons (ps_for PassesOwn.never rfl (pi_range1 (by rfl) T.b_range (pa_cons (pe_callB call_len_seq (by rfl) T.b_len (by decide +kernel) (pa_cons (pv 0) pa_nil)) pa_nil)) (pg_name (i := 2) sc_law_apart.nd rfl (by first | exact Or.inl rfl | exact Or.inr rfl))
      (pss_one (ps_expr (pe_bm PySem.F.plainAttrs_list PySem.F.slot_list_extend PySem.F.type_list_extend mt_extend (pv 1) (pa_cons (pe_lc (own := [("_law_one", 3)]) (g := gName 3) rfl sc_law_apart.nd (pi_range1 (by rfl) T.b_range (pa_cons (pe_op op_add (pv 2) pe_int) pa_nil)) (blkOk_by (N := N_law_apart) (sc := defScope s_law_apart) (by decide +kernel)) (fun _ _ _ _ _ => (pg_name (i := 3) sc_law_apart.nd rfl (by first | exact Or.inl rfl | exact Or.inr rfl))) (fun _ _ _ _ _ => pts_nil) (fun _ _ _ _ _ => (pe_op op_add (pe_ix (SX.ix_listK (K := K)) (pv 0) (pv 3) (fun _ _ => rfl)) (pe_ix (SX.ix_listK (K := K)) (pv 0) (pv 2) (fun _ _ => rfl))))) pa_nil)))))
      (pss_one (ps_ret (pe_cmpR op_eq (SX.pe_lenSet (by rfl) T.b_len (by rfl) T.b_set (pv 1)) (pe_callB call_len_seq (by rfl) T.b_len (by decide +kernel) (pa_cons (pv 1) pa_nil)) (nomark _)))))), ?_⟩
    refine q_asgL (el_ints [] ea_nil rfl (by decide)) fun l H1 hl e1 h1 => ?_
    refine q_forR1 (n := (ms.length : Int)) (ea_cons (ev_lenI (ev_var rfl) (ex_l e1 hm)) ea_nil) ⟨by omega, by omega⟩ (fun i σ' H' => ∃ (y2 : Option V), σ' = [some (.ref m), some (.ref l), y2, none] ∧ Ex H H' ∧ H' l = some (.lst ((lawTo (two ms) i).map V.int)))
      (fun H2 e2 => ⟨_, rfl, e1.trans e2, e2 l _ h1⟩) ?_ ?_
    · rintro i σ' H' hi ⟨y2, rfl, e2, h2⟩
      have hil : i < ms.length := by omega
      have hm2 := ex_l e2 hm
      refine s_ext h2 (ev_var rfl) (el_lcR1 (n := (i : Int) + 1) (fun _ => true) (fun j => .int (two ms j i)) (by walk_at "ev") ⟨by omega, by omega⟩ (fun x => rfl) (fun j H3 e3 hj => fun H4 e4 Q q => q H4 (Ex.refl H4)) fun j H3 e3 hj _ => ?_) ?_ fun H3 e3 => ?_
      · have hm3 := ex_l e3 hm2
        exact ev_op (ev_ixL (ev_var rfl) (ev_var rfl) hm3 (at_ints (by omega) (by omega))) (ev_ixL (ev_var rfl) (ev_var rfl) hm3 (at_ints (by omega) (by omega))) rv_I0
      · have h3 := law_le (two ms) (n := i) (by omega)
        rw [given_all, List.length_map, List.length_map, List.length_range]
        omega
      · refine ⟨_, rfl, Ex.mut (e2.trans e3) hl, ?_⟩
        rw [upd_same, law_step, given_all, List.map_append, List.map_map]
        rfl
    · rintro σ' H' ⟨y2, rfl, e2, h2⟩
      rw [Int.toNat_natCast] at h2
      refine s_ret (ev_op (ev_lenSet (ev_var rfl) (sq_of h2) (by have := law_le (two ms) hz; omega)) (ev_lenI (ev_var rfl) (sq_of h2)) (rv_eq rfl)) fun H3 e3 => ?_
      rw [nDis_dec]
      exact k H3 (e2.trans e3)
end
end K4

namespace K4
open PySem PySem.Spec PyProof.Rows L2 Evl SX SM
local macro_rules | `(tactic| walk_at "cond") => `(tactic| first
  | assumption
  | exact cdiv_small (by decide) (by decide)
  | exact cmul_l (by decide) (by decide)
  | exact cmul_r (by decide) (by decide)
  | exact cpow_c (by decide) (by decide) (by decide)
  | (show (0 : Int) < _; decide)
  | (show (0 : Int) < _; omega))
local macro_rules | `(tactic| walk_at "ev") => `(tactic| first
  | with_reducible exact ev_c
  | ((with_reducible apply ev_var); exact rfl)
  | with_reducible exact ea_nil
  | with_reducible exact eo_none
  | ((with_reducible apply ea_cons) <;> walk_at "ev")
  | ((with_reducible apply eo_some); walk_at "ev")
  | ((with_reducible apply ev_op (hr := rv_I0)) <;> walk_at "ev")
  | ((with_reducible apply ev_op (hr := rv_I ?cnd)); (· walk_at "ev"); (· walk_at "ev"); (· walk_at "cond"))
  | ((with_reducible apply ev_un (hr := ru_neg)); walk_at "ev")
  | ((with_reducible apply ev_op (hr := rv_eq ?cnd)); (· walk_at "ev"); (· walk_at "ev"); (· exact rfl))
  | ((with_reducible apply ev_op (hr := rv_ne ?cnd)); (· walk_at "ev"); (· walk_at "ev"); (· exact rfl))
  | ((with_reducible apply ev_lenI); (· walk_at "ev"); (· assumption))
  | ((with_reducible apply ev_ixL); (· walk_at "ev"); (· walk_at "ev"); (· assumption); (· first | exact atI_nat (j := 0) rfl | exact atI_nat (j := 1) rfl | exact atI_nat (j := 2) rfl))
  | ((with_reducible apply et_test); walk_at "ev")
  | ((with_reducible apply et_B); walk_at "ev"))
local macro_rules | `(tactic| walk_at "tup") => `(tactic| first
  | ((with_reducible apply evp_T [_, _]); (· walk_at "ev"); (· exact rfl); (· show 2 ≤ 100000; decide))
  | ((with_reducible apply evp_T [_]); (· walk_at "ev"); (· exact rfl); (· show 1 ≤ 100000; decide))
  | ((with_reducible apply evp_T [_, _, _]); (· walk_at "ev"); (· exact rfl); (· show 3 ≤ 100000; decide))
  | ((with_reducible apply evp_T []); (· walk_at "ev"); (· exact rfl); (· show 0 ≤ 100000; decide)))
local macro_rules | `(tactic| walk_at "pairs") => `(tactic| first
  | with_reducible exact eal_nil
  | ((with_reducible apply eal_cons PairT.mono); (· ((with_reducible apply evp_pair) <;> walk_at "tup")); (· walk_at "pairs")))
abbrev s_rises : Stmt := topS 15
abbrev N_rises : List Str := ["numbers", "first", "second"]
theorem sc_rises : FnScope N_rises ["numbers"] (defScope s_rises) := ⟨rfl, rfl, rfl, by decide +kernel, rfl, by decide +kernel, by decide +kernel⟩
abbrev s_check_marks : Stmt := topS 16
abbrev N_check_marks : List Str := ["marks", "found"]
theorem sc_check_marks : FnScope N_check_marks ["marks"] (defScope s_check_marks) := ⟨rfl, rfl, rfl, by decide +kernel, rfl, by decide +kernel, by decide +kernel⟩
section
variable {P : Program} {w : World} {K : PySem.W.Frag} {mg : Str → Option Value} {base : Heap}
theorem ev_yes {σ : L2.St} {H : Hp} : EvT tYes σ H true := fun H1 e Q q => q H1 (Ex.refl H1)
def spRises (K : PySem.W.Frag) : Sp := fun vs H Q _ => ∃ (a : Addr) (ns : List Int), vs = [.ref a] ∧ SqL K H a (ns.map V.int) ∧ ns.length ≤ 100 ∧ RetV (.bl (decide (ns.Pairwise (· < ·)))) H Q
theorem ok_rises {f : Addr} {fd : FuncData} (D : Dfn K mg "rises" "rises" s_rises ["numbers"] f fd) (T : Tx mg) : FnOk P w K mg base CX0 1 f fd ["numbers"] (spRises K) := by
  refine D.F.ok sc_rises (fun vs H Q E h => ?_) (fun cdv A outer s H vs Q E hr h => ?_)
  · obtain ⟨a, ns, rfl, _⟩ := h
    rfl
  · obtain ⟨a, ns, rfl, hS, hl, k⟩ := h
    refine ⟨_, (pss_one (ps_ret (pe_callB (cr_all rfl) (by rfl) T.b_all (by decide +kernel) (pa_cons (pe_lc (own := [("first", 1), ("second", 2)]) rfl sc_rises.nd (pi_zip (by rfl) T.b_zip (pa_cons (pv 0) (pa_cons (pe_slice sl_list (pv 0) (po_some pe_int) po_none) pa_nil))) (blkOk_by (N := N_rises) (sc := defScope s_rises) (by decide +kernel)) (fun _ _ _ _ _ => (SX.pg_tupK (K := K) (n := 2) rfl (pgs_cons (pg_name (i := 1) sc_rises.nd rfl (by first | exact Or.inl rfl | exact Or.inr rfl)) (pgs_cons (pg_name (i := 2) sc_rises.nd rfl (by first | exact Or.inl rfl | exact Or.inr rfl)) pgs_nil)))) (fun _ _ _ _ _ => pts_nil) (fun _ _ _ _ _ => (pe_cmpR op_lt (pv 1) (pv 2) (nomark _)))) pa_nil)))), ?_⟩
    have hlen : min (ns.map V.int).length ((ns.drop 1).map V.int).length = ns.length - 1 := by
      rw [List.length_map, List.length_map, List.length_drop]
      omega
    have hL := el_lcZ (K := K) (σ := start N_rises [.ref a]) (H := H) (te := tOp (rI0 fun i j => .bl (decide (i < j))) (tVar 1) (tVar 2)) (i0 := 1) (j0 := 2) (vs := [1, 2]) (fun i => .bl (decide (ns.getD i 0 < ns.getD (i + 1) 0))) (ev_var (i := 0) rfl) hS (el_cutDrop (k := 1) (ev_var (i := 0) rfl) (eo_some ev_c) hS) (by rw [List.length_map]; omega) (fun x y => rfl) (fun i x y H1 e1 hx hy => ?_)
    · rw [hlen, given_bl] at hL
      refine s_ret (ev_is (ev_allN hL) (congrArg V.bl (rise_adj ns))) fun H2 e2 => k H2 e2
    · obtain ⟨h1, hx⟩ := List.getElem?_eq_some_iff.mp hx
      obtain ⟨h2, hy⟩ := List.getElem?_eq_some_iff.mp hy
      rw [List.getElem_map] at hx hy
      rw [List.length_map] at h1 h2
      have e1 : ns.getD i 0 = ns[i] := by rw [List.getD_eq_getElem?_getD, List.getElem?_eq_getElem h1] <;> rfl
      have h2' : i + 1 < ns.length := by rw [List.length_drop] at h2; omega
      have e2 : ns.getD (i + 1) 0 = (ns.drop 1)[i] := by
        rw [List.getD_eq_getElem?_getD, List.getElem?_eq_getElem h2', List.getElem_drop]
        show ns[i + 1] = ns[1 + i]
        congr 1
        omega
      subst hx hy
      rw [e1, e2]
      exact ev_op (ev_var rfl) (ev_var rfl) rv_I0
/-! ### what are marks, what aren't -/
def GoodL (v : V) (H : Hp) (ns : List Int) : Prop := ∃ a, v = .ref a ∧ H a = some (.lst (ns.map V.int)) ∧ ns.length ≤ 40 ∧ ns.Pairwise (· < ·)
inductive BadL (v : V) (H : Hp) : Prop where
  | non (h : v = .non)
  | int (i : Int) (h : v = .int i)
  | str (s : Str) (h : v = .str s)
  | tup (p : Addr) (xs : List V) (h : v = .ref p) (q : H p = some (.tup xs))
  | dic (p : Addr) (xs : List (Key × V)) (h : v = .ref p) (q : H p = some (.dK xs))
  | long (p : Addr) (xs : List V) (h : v = .ref p) (q : H p = some (.lst xs)) (l : 40 < xs.length)
  | item (p : Addr) (xs : List V) (f : Nat → Bool) (h : v = .ref p) (q : H p = some (.lst xs)) (l : xs.length ≤ 40) (n : ∀ i x, xs[i]? = some x → NumV x H (f i)) (b : ((List.range xs.length).map f).all id = false)
  | fall (p : Addr) (ns : List Int) (h : v = .ref p) (q : H p = some (.lst (ns.map V.int))) (l : ns.length ≤ 40) (n : ¬ ns.Pairwise (· < ·))
theorem BadL.mono {v : V} {H H1 : Hp} (e1 : Ex H H1) (hb : BadL v H) : BadL v H1 := by
  cases hb with
  | non h => exact .non h
  | int i h => exact .int i h
  | str i h => exact .str i h
  | tup p xs h q => exact .tup p xs h (e1 _ _ q)
  | dic p xs h q => exact .dic p xs h (e1 _ _ q)
  | long p xs h q l => exact .long p xs h (e1 _ _ q) l
  | item p xs f h q l n b => exact .item p xs f h (e1 _ _ q) l (fun i x hx => (n i x hx).mono e1) b
  | fall p ns h q l n => exact .fall p ns h (e1 _ _ q) l n
def spCheck (C : Addr) : Sp := fun vs H Q E => ∃ v, vs = [v] ∧ ((∃ ns, GoodL v H ns ∧ RetV .non H Q) ∨ (BadL v H ∧ ∀ H1, Ex H H1 → E (.ref C) none H1))
theorem ok_check {f f1 f2 C : Addr} {fd fd1 fd2 : FuncData} {tMM : Tok} (D : Dfn K mg "check_marks" "check_marks" s_check_marks ["marks"] f fd) (T : Tx mg) (X_BadMarks : XC K mg "BadMarks" C) (g_MOST_MARKS : mg "MOST_MARKS" = some (.int 40 tMM)) (D_is_number : Dfn K mg "is_number" "is_number" s_is_number ["found"] f1 fd1)
    (D_rises : Dfn K mg "rises" "rises" s_rises ["numbers"] f2 fd2) : FnOk P w K mg base (L2N.CX P w) 2 f fd ["marks"] (spCheck C) := by
  have G_is_number : FnOk P w K mg base CX0 1 f1 fd1 ["found"] spNumber := ok_number D_is_number T
  have G_rises : FnOk P w K mg base CX0 1 f2 fd2 ["numbers"] (spRises K) := ok_rises D_rises T
  refine SX.okN D.F sc_check_marks (fun vs H Q E h => ?_) (fun cdv A outer s H vs Q E hr h => ?_)
  · obtain ⟨v, rfl, _⟩ := h
    rfl
  · obtain ⟨v, rfl, h⟩ := h
    refine ⟨_, (pss_cons (ps_if (PW.pt (pw_or (pt_not (pt_val (pe_callB call_isi (by rfl) T.b_isinstance (by decide +kernel) (pa_cons (pv 0) (pa_cons (pe_bltn (v := .ty "list") (by rfl) T.b_list (by decide +kernel) rfl) pa_nil))))) (pw_or1 (pt_cmpR op_gt (pe_callB call_len_seq (by rfl) T.b_len (by decide +kernel) (pa_cons (pv 0) pa_nil)) (pe_glob (v := .int 40) (by rfl) g_MOST_MARKS ⟨_, rfl⟩) (nomark _)))))
      (pss_one (L2N.ps_raise rfl (L2N.takes_of rfl rfl rfl rfl) (L2N.pmk_own PySem.F.excBase_ValueError X_BadMarks.x X_BadMarks.g X_BadMarks.k (raises_own X_BadMarks.b X_BadMarks.t) (by rfl))))
      pss_nil)
      (pss_cons (ps_if (pt_not (pt_val (pe_callB (cr_all rfl) (by rfl) T.b_all (by decide +kernel) (pa_cons (pe_lc (own := [("found", 1)]) (g := gName 1) rfl sc_check_marks.nd (pi_list (pv 0)) (blkOk_by (N := N_check_marks) (sc := defScope s_check_marks) (by decide +kernel)) (fun _ _ _ _ _ => (pg_name (i := 1) sc_check_marks.nd rfl (by first | exact Or.inl rfl | exact Or.inr rfl))) (fun _ _ _ _ _ => pts_nil) (fun _ _ _ _ _ => (pe_call G_is_number (hr.mono (by decide)) (by rfl) D_is_number.g D_is_number.F.kp D_is_number.b .nil pass0 (pa_cons (pv 1) pa_nil)))) pa_nil))))
      (pss_one (L2N.ps_raise rfl (L2N.takes_of rfl rfl rfl rfl) (L2N.pmk_own PySem.F.excBase_ValueError X_BadMarks.x X_BadMarks.g X_BadMarks.k (raises_own X_BadMarks.b X_BadMarks.t) (by rfl))))
      pss_nil)
      (pss_one (ps_if (pt_not (pt_val (pe_call G_rises (hr.mono (by decide)) (by rfl) D_rises.g D_rises.F.kp D_rises.b .nil pass0 (pa_cons (pv 0) pa_nil))))
      (pss_one (L2N.ps_raise rfl (L2N.takes_of rfl rfl rfl rfl) (L2N.pmk_own PySem.F.excBase_ValueError X_BadMarks.x X_BadMarks.g X_BadMarks.k (raises_own X_BadMarks.b X_BadMarks.t) (by rfl))))
      pss_nil)))), ?_⟩
    have lst1 : ∀ {p : Addr} {xs : List V} {n : String} {b : Bool}, H p = some (.lst xs) → kitB "list" n = some b → RC (rIsi K) [.ref p, .ty n] H (.bl b) := fun q hk => rc_isiAs (t := "list") (fun H1 e => .base (.lst (e _ _ q))) hk
    -- the second test
    have nums : ∀ (σ : L2.St) (H1 : Hp) (p : Addr) (xs : List V) (f : Nat → Bool), σ = [some (.ref p), none] → Ex H H1 → H p = some (.lst xs) → xs.length ≤ 40 → (∀ i x, xs[i]? = some x → NumV x H (f i)) →
        Ev (tCB (rAll K) (tCons (tLc (iList K (tVar 0)) (gName 1) tYes (tCall spNumber [] E0 (tCons (tVar 1) tNil)) [1]) tNil)) σ H1 (.bl (((List.range xs.length).map f).all id)) := by
      intro σ H1 p xs f hσ e1 q l n
      subst hσ
      have hL := el_lcL (K := K) (σ := [some (.ref p), none]) (H := H1) (t := tYes) (te := tCall spNumber [] E0 (tCons (tVar 1) tNil)) (tl := tVar 0) (j := 1) (vs := [1]) (fun _ => true) (fun i => .bl (f i)) (ev_var rfl) (sq_of (e1 p _ q)) (by omega) (fun x => rfl) (fun i x H2 e2 hi => ev_yes)
        (fun i x H2 e2 hi _ => ev_call (ea_cons (ev_var rfl) ea_nil) fun H3 e3 Q q E => ⟨x, f i, rfl, (n i x hi).mono ((e1.trans e2).trans e3), q⟩)
      rw [given_bl] at hL
      exact ev_allN hL
    have allnum : ∀ ns : List Int, ((List.range (ns.map V.int).length).map fun _ => true).all id = true := fun ns => by
      rw [List.all_eq_true]
      intro b hb
      obtain ⟨_, _, rfl⟩ := List.mem_map.mp hb
      rfl
    have isnum : ∀ ns : List Int, ∀ i (x : V), (ns.map V.int)[i]? = some x → NumV x H true := fun ns i x hx => by
      obtain ⟨h1, hx⟩ := List.getElem?_eq_some_iff.mp hx
      rw [List.getElem_map] at hx
      exact .inl ⟨_, hx.symm, rfl⟩
    rcases h with ⟨ns, ⟨a, rfl, hS, hl, hp⟩, k⟩ | ⟨hb, k⟩
    · refine q_when (et_or (a := false) (b := false) (et_not (a := true) (et_B (ev_cb (by walk_at "ev") (lst1 hS (by decide +kernel))))) fun _ => et_is (et_test (ev_op (ev_lenI (ev_var rfl) (sq_of hS)) ev_c rv_I0)) (decide_eq_false (by omega))) (fun h => nomatch h) fun _ H1 e1 => ?_
      refine q_when (b := false) (et_not (a := true) (et_B (ev_is (nums _ _ a _ (fun _ => true) rfl e1 hS (by rw [List.length_map]; exact hl) (isnum ns)) (congrArg V.bl (allnum ns))))) (fun h => nomatch h) fun _ H2 e2 => ?_
      refine s_when (b := false) (et_not (a := true) (et_B (ev_is (ev_call (by walk_at "ev") fun H3 e3 Q q E => ⟨a, ns, rfl, sq_of (((e1.trans e2).trans e3) a _ hS), by omega, q⟩) (congrArg V.bl (decide_eq_true hp))))) (fun h => nomatch h) fun _ H3 e3 => k H3 ((e1.trans e2).trans e3)
    · cases hb with
      | non h => subst h; exact q_when (et_or (a := true) (b := true) (et_not (a := false) (et_B (ev_cb (by walk_at "ev") (rc_isiAs (t := "NoneType") (fun H1 e => .base .non) (by decide +kernel))))) fun h => nomatch h) (fun _ H1 e1 => k H1 e1) fun h => nomatch h
      | int i h => subst h; exact q_when (et_or (a := true) (b := true) (et_not (a := false) (et_B (ev_cb (by walk_at "ev") (rc_isiInt (by decide +kernel))))) fun h => nomatch h) (fun _ H1 e1 => k H1 e1) fun h => nomatch h
      | str i h => subst h; exact q_when (et_or (a := true) (b := true) (et_not (a := false) (et_B (ev_cb (by walk_at "ev") (rc_isiAs (t := "str") (fun H1 e => .base (.str i)) (by decide +kernel))))) fun h => nomatch h) (fun _ H1 e1 => k H1 e1) fun h => nomatch h
      | tup p xs h q => subst h; exact q_when (et_or (a := true) (b := true) (et_not (a := false) (et_B (ev_cb (by walk_at "ev") (rc_isiTup q (by decide +kernel))))) fun h => nomatch h) (fun _ H1 e1 => k H1 e1) fun h => nomatch h
      | dic p xs h q => subst h; exact q_when (et_or (a := true) (b := true) (et_not (a := false) (et_B (ev_cb (by walk_at "ev") (rc_isiAs (t := "dict") (fun H1 e => .base (.dK (e _ _ q))) (by decide +kernel))))) fun h => nomatch h) (fun _ H1 e1 => k H1 e1) fun h => nomatch h
      | long p xs h q l =>
        subst h
        exact q_when (et_or (a := false) (b := true) (et_not (a := true) (et_B (ev_cb (by walk_at "ev") (lst1 q (by decide +kernel))))) fun _ => et_is (et_test (ev_op (ev_lenL (ev_var rfl) (sq_of q)) ev_c rv_I0)) (decide_eq_true (by omega))) (fun _ H1 e1 => k H1 e1) fun h => nomatch h
      | item p xs f h q l n b =>
        subst h
        refine q_when (et_or (a := false) (b := false) (et_not (a := true) (et_B (ev_cb (by walk_at "ev") (lst1 q (by decide +kernel))))) fun _ => et_is (et_test (ev_op (ev_lenL (ev_var rfl) (sq_of q)) ev_c rv_I0)) (decide_eq_false (by omega))) (fun h => nomatch h) fun _ H1 e1 => ?_
        exact q_when (b := true) (et_not (a := false) (et_B (ev_is (nums _ _ p xs f rfl e1 q l n) (congrArg V.bl b)))) (fun _ H2 e2 => k H2 (e1.trans e2)) fun h => nomatch h
      | fall p ns h q l n =>
        subst h
        refine q_when (et_or (a := false) (b := false) (et_not (a := true) (et_B (ev_cb (by walk_at "ev") (lst1 q (by decide +kernel))))) fun _ => et_is (et_test (ev_op (ev_lenI (ev_var rfl) (sq_of q)) ev_c rv_I0)) (decide_eq_false (by omega))) (fun h => nomatch h) fun _ H1 e1 => ?_
        refine q_when (b := false) (et_not (a := true) (et_B (ev_is (nums _ _ p _ (fun _ => true) rfl e1 q (by rw [List.length_map]; exact l) (isnum ns)) (congrArg V.bl (allnum ns))))) (fun h => nomatch h) fun _ H2 e2 => ?_
        exact s_when (b := true) (et_not (a := false) (et_B (ev_is (ev_call (by walk_at "ev") fun H3 e3 Q q2 E => ⟨p, ns, rfl, sq_of (((e1.trans e2).trans e3) p _ q), by omega, q2⟩) (congrArg V.bl (decide_eq_false n))))) (fun _ H3 e3 => k H3 ((e1.trans e2).trans e3)) fun h => nomatch h
end
end K4

namespace K4
open PySem PySem.Spec PyProof.Rows L2 Evl SX SM
local macro_rules | `(tactic| walk_at "cond") => `(tactic| first
  | assumption
  | exact cdiv_small (by decide) (by decide)
  | exact cmul_l (by decide) (by decide)
  | exact cmul_r (by decide) (by decide)
  | exact cpow_c (by decide) (by decide) (by decide)
  | (show (0 : Int) < _; decide)
  | (show (0 : Int) < _; omega))
local macro_rules | `(tactic| walk_at "ev") => `(tactic| first
  | with_reducible exact ev_c
  | ((with_reducible apply ev_var); exact rfl)
  | with_reducible exact ea_nil
  | with_reducible exact eo_none
  | ((with_reducible apply ea_cons) <;> walk_at "ev")
  | ((with_reducible apply eo_some); walk_at "ev")
  | ((with_reducible apply ev_op (hr := rv_I0)) <;> walk_at "ev")
  | ((with_reducible apply ev_op (hr := rv_I ?cnd)); (· walk_at "ev"); (· walk_at "ev"); (· walk_at "cond"))
  | ((with_reducible apply ev_un (hr := ru_neg)); walk_at "ev")
  | ((with_reducible apply ev_op (hr := rv_eq ?cnd)); (· walk_at "ev"); (· walk_at "ev"); (· exact rfl))
  | ((with_reducible apply ev_op (hr := rv_ne ?cnd)); (· walk_at "ev"); (· walk_at "ev"); (· exact rfl))
  | ((with_reducible apply ev_lenI); (· walk_at "ev"); (· assumption))
  | ((with_reducible apply ev_ixL); (· walk_at "ev"); (· walk_at "ev"); (· assumption); (· first | exact atI_nat (j := 0) rfl | exact atI_nat (j := 1) rfl | exact atI_nat (j := 2) rfl))
  | ((with_reducible apply et_test); walk_at "ev")
  | ((with_reducible apply et_B); walk_at "ev"))
local macro_rules | `(tactic| walk_at "tup") => `(tactic| first
  | ((with_reducible apply evp_T [_, _]); (· walk_at "ev"); (· exact rfl); (· show 2 ≤ 100000; decide))
  | ((with_reducible apply evp_T [_]); (· walk_at "ev"); (· exact rfl); (· show 1 ≤ 100000; decide))
  | ((with_reducible apply evp_T [_, _, _]); (· walk_at "ev"); (· exact rfl); (· show 3 ≤ 100000; decide))
  | ((with_reducible apply evp_T []); (· walk_at "ev"); (· exact rfl); (· show 0 ≤ 100000; decide)))
local macro_rules | `(tactic| walk_at "pairs") => `(tactic| first
  | with_reducible exact eal_nil
  | ((with_reducible apply eal_cons PairT.mono); (· ((with_reducible apply evp_pair) <;> walk_at "tup")); (· walk_at "pairs")))
abbrev s_behind : Stmt := topS 17
abbrev N_behind : List Str := ["marks", "barred", "least", "number", "total", "found"]
theorem sc_behind : FnScope N_behind ["marks"] (defScope s_behind) := ⟨rfl, rfl, rfl, by decide +kernel, rfl, by decide +kernel, by decide +kernel⟩
section
variable {P : Program} {w : World} {K : PySem.W.Frag} {mg : Str → Option Value} {base : Heap}
/-! ### behind -/
theorem et_truL {σ : L2.St} {H : Hp} {ta : TE} {a : Addr} {xs : List V} (h : Ev ta σ H (.ref a)) (hx : SqL K H a xs) : EvT (fun σ H Q => ta σ H fun x H' => ∃ k, TruV K x H' k ∧ Q k H') σ H (!xs.isEmpty) := fun H1 e Q q =>
  h H1 e _ fun H2 e2 => ⟨_, .inl ⟨xs, ex_l (e.trans e2) hx, rfl⟩, q H2 e2⟩
theorem at_last {ns : List Int} (h : 0 < ns.length) : atI (ns.map V.int) (-1) = some (.int (lastOf ns)) := by
  unfold atI ixN
  rw [if_neg (by decide), List.length_map, if_pos (by omega)]
  have e : ((-1 : Int) + (ns.length : Int)).toNat = ns.length - 1 := by omega
  rw [e]
  show (ns.map V.int)[ns.length - 1]? = _
  rw [List.getElem?_map, List.getElem?_eq_getElem (by omega)]
  unfold lastOf
  rw [gd (by omega)]
  rfl
/-- [t - z for t in sums for z in marks], sorted -/
theorem evp_barred {σ : L2.St} {H : Hp} {tl : TE} {a : Addr} {ns ts : List Int} (h : EvL tl σ H (ts.map V.int)) (hs : ∀ x y, ((wipe σ [4, 5]).set 4 (some x)) = σ.set 4 (some x) ∧ wipe (σ.set 4 (some x)) [4, 5] = wipe σ [4, 5] ∧ ((wipe (σ.set 4 (some x)) [5]).set 5 (some y)) = (σ.set 4 (some x)).set 5 (some y) ∧ wipe ((σ.set 4 (some x)).set 5 (some y)) [5] = wipe (σ.set 4 (some x)) [5] ∧ ((σ.set 4 (some x)).set 5 (some y))[4]? = some (some x) ∧ ((σ.set 4 (some x)).set 5 (some y))[5]? = some (some y) ∧ (σ.set 4 (some x))[0]? = some (some (.ref a)))
    (hm : H a = some (.lst (ns.map V.int))) (hz : ts.length * ns.length ≤ 100000) :
    EvL (tLc2 (iList K tl) (gName 4) tYes (iList K (tVar 0)) (gName 5) tYes (tOp (rI0 fun i j => .int (i - j)) (tVar 4) (tVar 5)) [4, 5] [5]) σ H ((ts.flatMap fun t => ns.map fun z => t - z).map V.int) := fun H1 e Q q =>
  h H1 e _ fun p H2 hp e2 h2 => ⟨p, rfl, ⟨_, sq_of h2⟩, fun L hL => by
    have e02 := e.trans e2
    have hm2 := e02 a _ hm
    let acc : Nat → List Int := fun i => (ts.take i).flatMap fun t => ns.map fun z => t - z
    have hlen : ∀ i, (acc i).length ≤ i * ns.length := fun i => by
      induction i with
      | zero => simp [acc]
      | succ i ih =>
        by_cases hi : i < ts.length
        · show ((ts.take (i + 1)).flatMap _).length ≤ _
          rw [List.take_add_one, List.getElem?_eq_getElem hi, List.flatMap_append, List.length_append]
          have ih' : ((ts.take i).flatMap fun t => ns.map fun z => t - z).length ≤ i * ns.length := ih
          simp only [Option.toList_some, List.flatMap_cons, List.flatMap_nil, List.append_nil, List.length_map]
          rw [Nat.succ_mul]
          omega
        · show ((ts.take (i + 1)).flatMap _).length ≤ _
          rw [List.take_of_length_le (by omega), ← List.take_of_length_le (show ts.length ≤ i by omega)]
          have ih' : ((ts.take i).flatMap fun t => ns.map fun z => t - z).length ≤ i * ns.length := ih
          rw [Nat.succ_mul]
          omega
    refine ⟨fun i c H' => c = ts.length - i ∧ i ≤ ts.length ∧ Ex H2 H' ∧ H' L = some (.lst ((acc i).map V.int)), ⟨_, rfl, Nat.zero_le _, Ex.new hL, by rw [upd_same] <;> rfl⟩, ?_⟩
    rintro i c H3 ⟨rfl, hi, e3, h3⟩
    have q3 : SqL K H3 p (ts.map V.int) := sq_of (e3 p _ h2)
    by_cases hlt : i < ts.length
    · have hx : (ts.map V.int)[i]? = some (.int ts[i]) := by rw [List.getElem?_map, List.getElem?_eq_getElem hlt] <;> rfl
      refine .inr ⟨⟨_, _, q3, hx⟩, fun H' => Ex H2 H' ∧ H' L = some (.lst ((acc (i + 1)).map V.int)), fun H' h' => ⟨_, by omega, rfl, hlt, h'.1, h'.2⟩, ?_⟩
      rintro x H4 ⟨rfl, hx2⟩
      obtain rfl : x = .int ts[i] := Option.some.inj ((hx2 _ q3).symm.trans hx)
      obtain ⟨s1, s2, s3, s4, s5, s6, s7⟩ := hs (.int ts[i]) .non
      show wipe ((wipe σ [4, 5]).set 4 (some (.int ts[i]))) [4, 5] = wipe σ [4, 5] ∧ _
      refine ⟨by rw [s1, s2], ?_⟩
      show tYes ((wipe σ [4, 5]).set 4 (some (.int ts[i]))) H4 _
      rw [s1]
      refine tyes_if ?_
      refine ⟨.ref a, s7, a, rfl, ⟨_, sq_of (e3 a _ hm2)⟩, ?_⟩
      refine ⟨fun j c H' => c = ns.length - j ∧ j ≤ ns.length ∧ Ex H2 H' ∧ H' L = some (.lst ((acc i ++ (ns.take j).map fun z => ts[i] - z).map V.int)), ⟨_, rfl, Nat.zero_le _, e3, by rw [h3]; simp⟩, ?_⟩
      rintro j c H5 ⟨rfl, hj, e5, h5⟩
      have q5 : SqL K H5 a (ns.map V.int) := sq_of (e5 a _ hm2)
      by_cases hjl : j < ns.length
      · have hy : (ns.map V.int)[j]? = some (.int ns[j]) := by rw [List.getElem?_map, List.getElem?_eq_getElem hjl] <;> rfl
        refine .inr ⟨⟨_, _, q5, hy⟩, fun H' => Ex H2 H' ∧ H' L = some (.lst ((acc i ++ (ns.take (j + 1)).map fun z => ts[i] - z).map V.int)), fun H' h' => ⟨_, by omega, rfl, hjl, h'.1, h'.2⟩, ?_⟩
        rintro y H6 ⟨rfl, hy2⟩
        obtain rfl : y = .int ns[j] := Option.some.inj ((hy2 _ q5).symm.trans hy)
        obtain ⟨_, _, t3, t4, t5, t6, _⟩ := hs (.int ts[i]) (.int ns[j])
        show wipe ((wipe (σ.set 4 (some (.int ts[i]))) [5]).set 5 (some (.int ns[j]))) [5] = wipe (σ.set 4 (some (.int ts[i]))) [5] ∧ tYes ((wipe (σ.set 4 (some (.int ts[i]))) [5]).set 5 (some (.int ns[j]))) H6 _
        rw [t3]
        refine ⟨t4, tyes_if ?_⟩
        refine ⟨_, t5, _, t6, _, _, rfl, rfl, _, h5, ?_, Ex.mut e5 hL, ?_⟩
        · have := hlen i
          have h7 : i * ns.length + ns.length ≤ ts.length * ns.length := by
            have := Nat.mul_le_mul_right ns.length (show i + 1 ≤ ts.length from hlt)
            rw [Nat.succ_mul] at this
            exact this
          rw [List.length_map, List.length_append, List.length_map, List.length_take]
          exact sz_lt (by omega)
        · rw [upd_same, List.take_add_one, List.getElem?_eq_getElem hjl]
          simp only [Option.toList_some, List.map_append, List.map_cons, List.map_nil, List.append_assoc]
      · refine .inl ⟨⟨_, q5, by rw [List.length_map]; omega⟩, e5, ?_⟩
        rw [h5, List.take_of_length_le (by omega)]
        show some (HO.lst _) = some (HO.lst (((ts.take (i + 1)).flatMap fun t => ns.map fun z => t - z).map V.int))
        rw [List.take_add_one, List.getElem?_eq_getElem hlt, List.flatMap_append]
        simp [acc]
    · have e5 : i = ts.length := by omega
      subst e5
      refine .inl ⟨⟨_, q3, by rw [List.length_map] <;> exact Nat.le_refl _⟩, q L H3 (fresh_back e2 hL) (e2.trans e3) ?_⟩
      rw [h3]
      show some (HO.lst (((ts.take ts.length).flatMap _).map V.int)) = _
      rw [List.take_length]⟩
def spBehind (CB CN : Addr) : Sp := fun vs H Q E => ∃ v, vs = [v] ∧ ((∃ ns, GoodL v H ns ∧ SM.Apart ns ∧ (ns = [] → RetV (.int 0) H Q) ∧ (ns ≠ [] → ∀ L, Least ns L → RetV (.int L) H Q)) ∨ (∃ ns, GoodL v H ns ∧ ¬ SM.Apart ns ∧ ∀ H1, Ex H H1 → E (.ref CN) none H1) ∨ (BadL v H ∧ ∀ H1, Ex H H1 → E (.ref CB) none H1))
theorem ok_behind {f f1 f2 f3 f4 f5 C2 CB CN : Addr} {fd fd1 fd2 fd3 fd4 fd5 : FuncData} {tMM : Tok} (D : Dfn K mg "behind" "behind" s_behind ["marks"] f fd) (T : Tx mg) (Mk_Apart : MkO K C2) (g_Apart : mg "Apart" = some (.ref C2)) (C_Apart_shows : Cls K C2) (me_Apart_shows : Meth K C2 "shows" f1) (D_ashows : Fun K "shows" "Apart.shows" s_Apart_shows f1 fd1) (b_Apart_shows : Binds K fd1 ["self", "marks"] [])
    (D_all_sums : Dfn K mg "all_sums" "all_sums" s_all_sums ["marks"] f2 fd2) (D_check_marks : Dfn K mg "check_marks" "check_marks" s_check_marks ["marks"] f3 fd3)
    (X_BadMarks : XC K mg "BadMarks" CB) (X_NotApart : XC K mg "NotApart" CN) (g_MOST_MARKS : mg "MOST_MARKS" = some (.int 40 tMM)) (D_is_number : Dfn K mg "is_number" "is_number" s_is_number ["found"] f4 fd4) (D_rises : Dfn K mg "rises" "rises" s_rises ["numbers"] f5 fd5) :
    FnOk P w K mg base (L2N.CX P w) 3 f fd ["marks"] (spBehind CB CN) := by
  have G_Apart_shows : FnOk P w K mg base CX0 2 f1 fd1 ["self", "marks"] (spApart K) := ok_apart D_ashows T D_all_sums
  have G_all_sums : FnOk P w K mg base CX0 1 f2 fd2 ["marks"] (spAll K) := ok_all D_all_sums T
  have G_check_marks : FnOk P w K mg base (L2N.CX P w) 2 f3 fd3 ["marks"] (spCheck CB) := ok_check D_check_marks T X_BadMarks g_MOST_MARKS D_is_number D_rises
  refine SX.okN D.F sc_behind (fun vs H Q E h => ?_) (fun cdv A outer s H vs Q E hr h => ?_)
  · obtain ⟨v, rfl, _⟩ := h
    rfl
  · obtain ⟨v, rfl, h⟩ := h
    refine ⟨_, (pss_cons (ps_expr (pe_callS G_check_marks (hr.mono (by decide)) (by rfl) D_check_marks.g D_check_marks.F.kp D_check_marks.b (fun σ => L2N.passAt (L2N.takes_of rfl rfl rfl rfl) σ) (pa_cons (pv 0) pa_nil)))
      (pss_cons (ps_if (pt_not (pt_val (pe_meth (SX.pe_makeO Mk_Apart (by rfl) g_Apart) C_Apart_shows me_Apart_shows G_Apart_shows (hr.mono (by decide)) b_Apart_shows .nil pass0 (pa_cons (pv 0) pa_nil))))
      (pss_one (L2N.ps_raise rfl (L2N.takes_of rfl rfl rfl rfl) (L2N.pmk_own PySem.F.excBase_ValueError X_NotApart.x X_NotApart.g X_NotApart.k (raises_own X_NotApart.b X_NotApart.t) (by rfl))))
      pss_nil)
      (pss_cons (ps_if (pt_not (pt_truth (pv 0) (by intro _; rfl)))
      (pss_one (ps_ret pe_int))
      pss_nil)
      (pss_cons (ps_set (i := 1) sc_behind.nd rfl (by first | exact Or.inl rfl | exact Or.inr rfl) (pe_callB cr_sortedI (by rfl) T.b_sorted (by decide +kernel) (pa_cons (pe_lc2 (own := [("total", 4), ("found", 5)]) (vs1 := [5]) rfl sc_behind.nd (pi_list (pe_call G_all_sums (hr.mono (by decide)) (by rfl) D_all_sums.g D_all_sums.F.kp D_all_sums.b .nil pass0 (pa_cons (pv 0) pa_nil))) (blkOk_by (N := N_behind) (sc := defScope s_behind) (by decide +kernel)) (by decide) (fun _ _ _ _ _ => (pg_name (i := 4) sc_behind.nd rfl (by first | exact Or.inl rfl | exact Or.inr rfl))) (fun _ _ _ _ _ => pts_nil) (fun _ _ _ _ _ => (SX.pi_listK (K := K) (pv 0))) (fun _ _ _ _ _ => (pg_name (i := 5) sc_behind.nd rfl (by first | exact Or.inl rfl | exact Or.inr rfl))) (fun _ _ _ _ _ => pts_nil) (fun _ _ _ _ _ => (pe_op op_sub (pv 4) (pv 5)))) pa_nil)))
      (pss_cons (ps_set (i := 2) sc_behind.nd rfl (by first | exact Or.inl rfl | exact Or.inr rfl) (pe_op op_add (pe_ix ix_list (pv 0) (pe_un un_neg pe_int) (fun _ _ => rfl)) pe_int))
      (pss_cons (ps_for (passes_of rfl) rfl (pi_list (pv 1)) (pg_name (i := 3) sc_behind.nd rfl (by first | exact Or.inl rfl | exact Or.inr rfl))
      (pss_one (ps_if (pt_cmpR op_eq (pv 3) (pv 2) (nomark _))
      (pss_one (ps_aug (i := 2) sc_behind.nd rfl (by first | exact Or.inl rfl | exact Or.inr rfl) pe_int ip_add))
      pss_nil)))
      (pss_one (ps_ret (pv 2))))))))), ?_⟩
    refine q_callX (vs := [v]) (by walk_at "ev") fun H1 e1 => ⟨v, rfl, ?_⟩
    have shw : ∀ {σ : L2.St} {H1 : Hp} {a : Addr} {ns : List Int}, σ[0]? = some (some (V.ref a)) → H1 a = some (.lst (ns.map V.int)) → ns.length ≤ 40 → EvT (tB (tMeth C2 "shows" (spApart K) [] E0 (tMakeO C2) (tCons (tVar 0) tNil))) σ H1 (decide (SM.Apart ns)) := fun {σ H1 a ns} hs ha hl =>
      et_B (ev_methP (P := fun v H1 => ∃ (q dx : Addr), v = .ref q ∧ H1 q = some (.ins C2 dx [])) (R := fun vs _ => vs = [.ref a]) evp_makeO (eap_ea (ea_cons (ev_var hs) ea_nil) fun _ _ => rfl) (fun v H7 H8 e8 ⟨q, dx, h, h'⟩ => ⟨q, dx, h, e8 q _ h'⟩)
        (fun v H7 ⟨q, dx, h, h'⟩ => ⟨q, dx, _, h, h', rfl⟩) fun v vs H7 e7 _ hvs => by
          subst hvs
          exact fun H8 e8 Q8 q8 E8 => ⟨v, a, ns, rfl, sq_of ((e7.trans e8) a _ ha), by omega, q8⟩)
    rcases h with ⟨ns, ⟨a, rfl, hS, hl, hp⟩, ha, k0, k⟩ | ⟨ns, ⟨a, rfl, hS, hl, hp⟩, ha, k⟩ | ⟨hb, k⟩
    · refine .inl ⟨ns, ⟨a, rfl, e1 a _ hS, hl, hp⟩, fun H2 e2 => ?_⟩
      have hS2 := (e1.trans e2) a _ hS
      refine q_when (b := false) (et_is (et_not (shw rfl hS2 hl)) (by rw [decide_eq_true ha] <;> rfl)) (fun h => nomatch h) fun _ H3 e3 => ?_
      have hS3 := e3 a _ hS2
      have e03 := (e1.trans e2).trans e3
      refine q_when (et_not (et_truL (ev_var rfl) (sq_of hS3))) (fun hb H4 e4 => ?_) fun hb H4 e4 => ?_
      · have hn : ns = [] := by
          cases ns with
          | nil => rfl
          | cons z r => exact nomatch hb
        exact s_ret ev_c fun H5 e5 => k0 hn H5 ((e03.trans e4).trans e5)
      · have hn : ns ≠ [] := fun e => by
          rw [e] at hb
          exact nomatch hb
        have hpos : 0 < ns.length := by
          cases ns with
          | nil => exact absurd rfl hn
          | cons z r => simp
        have e04 := e03.trans e4
        have hS4 := e4 a _ hS3
        have hle := prog_le (two ns) (Nat.le_refl ns.length) (by omega)
        have hsz : (progTo (two ns) ns.length ns.length).length * ns.length ≤ 100000 := by
          have := Nat.mul_le_mul hle hl
          omega
        have hB : EvL (tLc2 (iList K (tCall (spAll K) [] E0 (tCons (tVar 0) tNil))) (gName 4) tYes (iList K (tVar 0)) (gName 5) tYes (tOp (rI0 fun i j => .int (i - j)) (tVar 4) (tVar 5)) [4, 5] [5]) [some (.ref a), none, none, none, none, none] H4 ((barL ns).map V.int) :=
          evp_barred (K := K) (a := a) (ns := ns) (ts := progTo (two ns) ns.length ns.length) (el_call (ea_cons (ev_var rfl) ea_nil) fun H6 e6 Q6 q6 E6 => ⟨a, ns, rfl, sq_of (e6 a _ hS4), by omega, q6⟩) (fun x y => ⟨rfl, rfl, rfl, rfl, rfl, rfl, rfl⟩) hS4 hsz
        refine q_asgP (evp_sortedN hB) fun v H5 e5 hv => ?_
        obtain ⟨p, bs, rfl, h5, hpm, hso⟩ := hv
        have hS5 := e5 a _ hS4
        refine q_asg (v := .int (lastOf ns + 1)) (ev_op (ev_ixL (ev_var rfl) (ev_un ev_c ru_neg) (sq_of hS5) (at_last hpos)) ev_c rv_I0) fun H6 e6 => ?_
        have h6 := e6 p _ h5
        refine q_forLn (ev_var rfl) (sq_of h6) (fun i σ' H' => ∃ y3, σ' = [some (.ref a), some (.ref p), some (.int (scan (bs.take i) (lastOf ns + 1))), y3, none, none] ∧ Ex H6 H') (fun H7 e7 => ⟨_, rfl, e7⟩) (fun i σ' H' _ ⟨_, _, e7⟩ => sq_of (e7 p _ h6)) ?_ ?_
        · rintro i x σ' H7 hx ⟨y3, rfl, e7⟩
          obtain ⟨hi, hx⟩ := List.getElem?_eq_some_iff.mp hx
          rw [List.getElem_map] at hx
          subst hx
          rw [List.length_map] at hi
          have e : bs.take (i + 1) = bs.take i ++ [bs[i]] := by
            rw [List.take_add_one, List.getElem?_eq_getElem hi] <;> rfl
          rw [e, scan_snoc]
          generalize scan (bs.take i) (lastOf ns + 1) = l
          refine s_when (et_test (ev_op (ev_var rfl) (ev_var rfl) (rv_eq rfl))) (fun hb H8 e8 => ?_) fun hb H8 e8 => ?_
          · have hz : bs[i] = l := by
              have := of_decide_eq_true hb
              injection this
            refine s_aug (a := l) (b := 1) rfl ev_c fun H9 e9 => ⟨some (.int bs[i]), ?_, (e7.trans e8).trans e9⟩
            rw [if_pos hz]
            rfl
          · have hz : ¬ bs[i] = l := fun e => of_decide_eq_false hb (by rw [e])
            refine ⟨some (.int bs[i]), ?_, e7.trans e8⟩
            rw [if_neg hz]
            rfl
        · rintro σ' H7 ⟨y3, rfl, e7⟩
          rw [List.length_map, List.take_length]
          exact s_ret (ev_var rfl) fun H8 e8 => k hn _ (scan_least hpm hso) H8 ((((e04.trans e5).trans e6).trans e7).trans e8)
    · refine .inl ⟨ns, ⟨a, rfl, e1 a _ hS, hl, hp⟩, fun H2 e2 => ?_⟩
      exact q_when (b := true) (et_is (et_not (shw rfl ((e1.trans e2) a _ hS) hl)) (by rw [decide_eq_false ha] <;> rfl)) (fun _ H3 e3 => k H3 ((e1.trans e2).trans e3)) fun h => nomatch h
    · refine .inr ⟨?_, fun H2 e2 => k H2 (e1.trans e2)⟩
      exact hb.mono e1
end
end K4

namespace K4
open PySem PySem.Spec PyProof.Rows L2 Evl SX SM
local macro_rules | `(tactic| walk_at "cond") => `(tactic| first
  | assumption
  | exact cdiv_small (by decide) (by decide)
  | exact cmul_l (by decide) (by decide)
  | exact cmul_r (by decide) (by decide)
  | exact cpow_c (by decide) (by decide) (by decide)
  | (show (0 : Int) < _; decide)
  | (show (0 : Int) < _; omega))
local macro_rules | `(tactic| walk_at "ev") => `(tactic| first
  | with_reducible exact ev_c
  | ((with_reducible apply ev_var); exact rfl)
  | with_reducible exact ea_nil
  | with_reducible exact eo_none
  | ((with_reducible apply ea_cons) <;> walk_at "ev")
  | ((with_reducible apply eo_some); walk_at "ev")
  | ((with_reducible apply ev_op (hr := rv_I0)) <;> walk_at "ev")
  | ((with_reducible apply ev_op (hr := rv_I ?cnd)); (· walk_at "ev"); (· walk_at "ev"); (· walk_at "cond"))
  | ((with_reducible apply ev_un (hr := ru_neg)); walk_at "ev")
  | ((with_reducible apply ev_op (hr := rv_eq ?cnd)); (· walk_at "ev"); (· walk_at "ev"); (· exact rfl))
  | ((with_reducible apply ev_op (hr := rv_ne ?cnd)); (· walk_at "ev"); (· walk_at "ev"); (· exact rfl))
  | ((with_reducible apply ev_lenI); (· walk_at "ev"); (· assumption))
  | ((with_reducible apply ev_ixL); (· walk_at "ev"); (· walk_at "ev"); (· assumption); (· first | exact atI_nat (j := 0) rfl | exact atI_nat (j := 1) rfl | exact atI_nat (j := 2) rfl))
  | ((with_reducible apply et_test); walk_at "ev")
  | ((with_reducible apply et_B); walk_at "ev"))
local macro_rules | `(tactic| walk_at "tup") => `(tactic| first
  | ((with_reducible apply evp_T [_, _]); (· walk_at "ev"); (· exact rfl); (· show 2 ≤ 100000; decide))
  | ((with_reducible apply evp_T [_]); (· walk_at "ev"); (· exact rfl); (· show 1 ≤ 100000; decide))
  | ((with_reducible apply evp_T [_, _, _]); (· walk_at "ev"); (· exact rfl); (· show 3 ≤ 100000; decide))
  | ((with_reducible apply evp_T []); (· walk_at "ev"); (· exact rfl); (· show 0 ≤ 100000; decide)))
local macro_rules | `(tactic| walk_at "pairs") => `(tactic| first
  | with_reducible exact eal_nil
  | ((with_reducible apply eal_cons PairT.mono); (· ((with_reducible apply evp_pair) <;> walk_at "tup")); (· walk_at "pairs")))
abbrev s_law_whole : Stmt := topS 20
abbrev N_law_whole : List Str := ["_law_number_here"]
theorem sc_law_whole : FnScope N_law_whole ["_law_number_here"] (defScope s_law_whole) := ⟨rfl, rfl, rfl, by decide +kernel, rfl, by decide +kernel, by decide +kernel⟩
abbrev s_law_kept : Stmt := topS 23
abbrev N_law_kept : List Str := ["_law_marks_here", "_law_found", "_law_number_here"]
theorem sc_law_kept : FnScope N_law_kept ["_law_marks_here"] (defScope s_law_kept) := ⟨rfl, rfl, rfl, by decide +kernel, rfl, by decide +kernel, by decide +kernel⟩
abbrev s_law_right : Stmt := topS 24
abbrev N_law_right : List Str := ["_law_marks_here", "_law_handed", "_law_found", "_law_barred", "_law_one", "_law_other", "_law_third", "_law_due"]
theorem sc_law_right : FnScope N_law_right ["_law_marks_here"] (defScope s_law_right) := ⟨rfl, rfl, rfl, by decide +kernel, rfl, by decide +kernel, by decide +kernel⟩
abbrev s_law_refused : Stmt := topS 25
abbrev N_law_refused : List Str := ["_law_marks_here", "error", "_law_others"]
theorem sc_law_refused : FnScope N_law_refused ["_law_marks_here"] (defScope s_law_refused) := ⟨rfl, rfl, rfl, by decide +kernel, rfl, by decide +kernel, by decide +kernel⟩
section
variable {P : Program} {w : World} {K : PySem.W.Frag} {mg : Str → Option Value} {base : Heap}
theorem ok_whole {f : Addr} {fd : FuncData} (D : Dfn K mg "_law_whole" "_law_whole" s_law_whole ["_law_number_here"] f fd) (T : Tx mg) : FnOk P w K mg base CX0 1 f fd ["_law_number_here"] spNumber := by
  refine D.F.ok sc_law_whole (fun vs H Q E h => ?_) (fun cdv A outer s H vs Q E hr h => ?_)
  · obtain ⟨v, b, rfl, _⟩ := h
    rfl
  · obtain ⟨v, b, rfl, hv, k⟩ := h
    refine ⟨_, (pss_one (ps_ret (pe_and (pe_callB call_isi (by rfl) T.b_isinstance (by decide +kernel) (pa_cons (pv 0) (pa_cons (pe_bltn (v := .ty "int") (by rfl) T.b_int (by decide +kernel) rfl) pa_nil))) (pe_one (pe_not (pe_callB call_isi (by rfl) T.b_isinstance (by decide +kernel) (pa_cons (pv 0) (pa_cons (pe_bltn (v := .ty "bool") (by rfl) T.b_bool (by decide +kernel) rfl) pa_nil)))))))), ?_⟩
    exact s_ret (isi_num hv fun _ _ => ev_var rfl) fun H2 e2 => k H2 e2
theorem num_int {i : Int} {H : Hp} {Q : VK} {E : XK} (k : RetV (.bl true) H Q) : spNumber [.int i] H Q E := ⟨_, true, rfl, .inl ⟨i, rfl, rfl⟩, k⟩
/-- a call of _law_apart on marks and one more -/
theorem ev_apart1 {σ : L2.St} {H : Hp} {ta tb : TE} {E : XK} {m : Addr} {ns : List Int} {z : Int} (ha : Ev ta σ H (.ref m)) (hm : H m = some (.lst (ns.map V.int))) (hb : Ev tb σ H (.int z)) (hl : ns.length < 50) : Ev (tCall (spLawApart K) [] E (tCons (tOp rCat ta (tLst (tCons tb tNil))) tNil)) σ H (.bl (decide (SM.Apart (ns ++ [z])))) :=
  ev_callP (eap_1 (P1 := fun v H1 => ∃ l, v = .ref l ∧ H1 l = some (.lst ((ns ++ [z]).map V.int))) (evp_evL (el_cat ha hm (el_ints [z] (ea_cons hb ea_nil) rfl (by show 1 ≤ 100000; decide)) (by rw [List.length_map]; show ns.length + 1 ≤ 100000; omega)) fun p H1 e1 h1 => ⟨p, rfl, by rw [List.map_append]; exact h1⟩)) fun vs H1 e1 hR => by
    obtain ⟨v, rfl, l, rfl, hl1⟩ := hR
    exact fun H2 e2 Q q E => ⟨l, _, rfl, sq_of (e2 l _ hl1), by rw [List.length_append]; show ns.length + 1 ≤ 50; omega, q⟩
def spKept : Sp := fun vs H Q _ => ∃ (m : Addr) (ms : List Int), vs = [.ref m] ∧ H m = some (.lst (ms.map V.int)) ∧ ms.length ≤ 40 ∧ ms.Pairwise (· < ·) ∧
  ∀ (p : Addr) (H2 : Hp) (fs : List Int), H p = none → Ex H H2 → H2 p = some (.lst (fs.map V.int)) → fs.Pairwise (· < ·) → SM.Apart fs → fs.length ≤ ms.length → Q (.ref p) H2
theorem ok_kept {f f1 : Addr} {fd fd1 : FuncData} (D : Dfn K mg "_law_kept" "_law_kept" s_law_kept ["_law_marks_here"] f fd) (T : Tx mg) (D_law_apart : Dfn K mg "_law_apart" "_law_apart" s_law_apart ["_law_marks_here"] f1 fd1) : FnOk P w K mg base CX0 2 f fd ["_law_marks_here"] spKept := by
  have G_law_apart : FnOk P w K mg base CX0 1 f1 fd1 ["_law_marks_here"] (spLawApart K) := ok_lawApart D_law_apart T
  refine D.F.ok sc_law_kept (fun vs H Q E h => ?_) (fun cdv A outer s H vs Q E hr h => ?_)
  · obtain ⟨m, ms, rfl, _⟩ := h
    rfl
  · obtain ⟨m, ms, rfl, hm, hl, hp, k⟩ := h
    refine ⟨_, (pss_cons (ps_set (i := 1) sc_law_kept.nd rfl (by first | exact Or.inl rfl | exact Or.inr rfl) (pe_lst pa_nil))
      (pss_cons (ps_for PassesOwn.never rfl (pi_list (pv 0)) (pg_name (i := 2) sc_law_kept.nd rfl (by first | exact Or.inl rfl | exact Or.inr rfl))
      (pss_one (ps_if (pt_val (pe_call G_law_apart (hr.mono (by decide)) (by rfl) D_law_apart.g D_law_apart.F.kp D_law_apart.b .nil pass0 (pa_cons (pe_op op_cat (pv 1) (pe_lst (pa_cons (pv 2) pa_nil))) pa_nil)))
      (pss_one (ps_expr (pe_bm PySem.F.plainAttrs_list PySem.F.slot_list_append PySem.F.type_list_append mt_append (pv 1) (pa_cons (pv 2) pa_nil))))
      pss_nil)))
      (pss_one (ps_ret (pv 1))))), ?_⟩
    refine q_asgL (el_ints [] ea_nil rfl (by decide)) fun l H1 hl1 e1 h1 => ?_
    refine q_forLn (ev_var rfl) (sq_of (e1 m _ hm)) (fun i σ' H' => ∃ (fs : List Int) (y2 : Option V), σ' = [some (.ref m), some (.ref l), y2] ∧ Ex H H' ∧ H' l = some (.lst (fs.map V.int)) ∧ fs.Pairwise (· < ·) ∧ SM.Apart fs ∧ (∀ z ∈ fs, z ∈ ms.take i) ∧ fs.length ≤ i)
      (fun H2 e2 => ⟨[], _, rfl, e1.trans e2, e2 l _ h1, List.Pairwise.nil, by decide, fun z hz => absurd hz (by simp), Nat.le_refl _⟩) (fun i σ' H' _ ⟨_, _, _, e2, _⟩ => sq_of (e2 m _ hm)) ?_ ?_
    · rintro i x σ' H2 hx ⟨fs, y2, rfl, e2, h2, r2, a2, s2, n2⟩
      obtain ⟨hi, hx⟩ := List.getElem?_eq_some_iff.mp hx
      rw [List.length_map] at hi
      rw [List.getElem_map] at hx
      subst hx
      have et : ms.take (i + 1) = ms.take i ++ [ms[i]] := by
        rw [List.take_add_one, List.getElem?_eq_getElem hi] <;> rfl
      have hlt : ∀ z ∈ fs, z < ms[i] := fun z hz => by
        obtain ⟨j, hj, rfl⟩ := List.mem_iff_getElem.mp (s2 z hz)
        rw [List.length_take] at hj
        rw [List.getElem_take]
        exact List.pairwise_iff_getElem.mp hp j i (by omega) hi (by omega)
      refine s_when (et_B (ev_apart1 (ev_var rfl) h2 (ev_var rfl) (by omega))) (fun hb H3 e3 => ?_) fun hb H3 e3 => ?_
      · refine s_app (e3 l _ h2) (ev_var rfl) (ev_var rfl) (by rw [List.length_map]; omega) fun H4 e4 => ?_
        refine ⟨fs ++ [ms[i]], _, rfl, Ex.mut ((e2.trans e3).trans e4) hl1, by rw [upd_same, List.map_append] <;> rfl, rise_put r2 hlt, of_decide_eq_true hb, fun z hz => ?_, by rw [List.length_append]; exact Nat.succ_le_succ n2⟩
        rw [et]
        rcases List.mem_append.mp hz with h | h
        · exact List.mem_append_left _ (s2 z h)
        · exact List.mem_append_right _ h
      · exact ⟨fs, _, rfl, e2.trans e3, e3 l _ h2, r2, a2, fun z hz => by rw [et]; exact List.mem_append_left _ (s2 z hz), Nat.le_succ_of_le n2⟩
    · rintro σ' H2 ⟨fs, y2, rfl, e2, h2, r2, a2, s2, n2⟩
      rw [List.length_map] at n2
      exact s_ret (ev_var rfl) fun H3 e3 => k l H3 fs hl1 (e2.trans e3) (e3 l _ h2) r2 a2 n2
/-! ### what is told to be put behind -/
def BehV (ns : List Int) : V → Hp → Prop := fun v _ => ∃ L, v = .int L ∧ (ns = [] → L = 0) ∧ (ns ≠ [] → Least ns L)
theorem BehV.mono {ns : List Int} : Mono (BehV ns) := fun _ _ _ _ h => h
theorem evp_behind {σ : L2.St} {H : Hp} {CB CN : Addr} {E : XK} {ta : TE} {a : Addr} {ns : List Int} (h : Ev ta σ H (.ref a)) (ha : H a = some (.lst (ns.map V.int))) (hl : ns.length ≤ 40) (hp : ns.Pairwise (· < ·)) (hA : SM.Apart ns) : EvP (tCall (spBehind CB CN) [] E (tCons ta tNil)) σ H (BehV ns) :=
  evp_call (ea_cons h ea_nil) fun H1 e1 Q q => ⟨.ref a, rfl, .inl ⟨ns, ⟨a, rfl, e1 a _ ha, hl, hp⟩, hA, fun hn H2 e2 => q _ H2 e2 ⟨0, rfl, fun _ => rfl, fun h => absurd hn h⟩, fun hn L hL H2 e2 => q _ H2 e2 ⟨L, rfl, fun h => absurd h hn, fun _ => hL⟩⟩⟩
theorem ev_behind {σ : L2.St} {H : Hp} {CB CN : Addr} {E : XK} {ta : TE} {a : Addr} {ns : List Int} {L : Int} (h : Ev ta σ H (.ref a)) (ha : H a = some (.lst (ns.map V.int))) (hl : ns.length ≤ 40) (hp : ns.Pairwise (· < ·)) (hA : SM.Apart ns) (h0 : ns = [] → L = 0) (h1 : ns ≠ [] → Least ns L) : Ev (tCall (spBehind CB CN) [] E (tCons ta tNil)) σ H (.int L) :=
  ev_call (ea_cons h ea_nil) fun H1 e1 Q q E => ⟨.ref a, rfl, .inl ⟨ns, ⟨a, rfl, e1 a _ ha, hl, hp⟩, hA, fun hn H2 e2 => by
    have := q H2 e2
    rw [h0 hn] at this
    exact this, fun hn M hM H2 e2 => by
    have := q H2 e2
    rw [least_unique (h1 hn) hM] at this
    exact this⟩⟩
theorem put_ok {ns : List Int} {L : Int} (hp : ns.Pairwise (· < ·)) (hA : SM.Apart ns) (h1 : ns ≠ [] → Least ns L) : (ns ++ [L]).Pairwise (· < ·) ∧ SM.Apart (ns ++ [L]) := by
  by_cases hn : ns = []
  · subst hn
    exact ⟨List.pairwise_singleton _ _, apart_put hp hA (fun z hz => absurd hz (by simp)) (by show L ∉ ([] : List Int); simp)⟩
  · have hL := h1 hn
    have hlt : ∀ z ∈ ns, z < L := fun z hz => Int.lt_of_le_of_lt (le_last hp z hz) hL.1
    exact ⟨rise_put hp hlt, apart_put hp hA hlt hL.2.1⟩
/-! ### _law_right -/
def spRight : Sp := fun vs H Q _ => ∃ (v : V) (ns : List Int), vs = [v] ∧ GoodL v H ns ∧ SM.Apart ns ∧ ns.length ≤ 14 ∧ RetV (.bl true) H Q
/-- keys of a dict that are barred ones -/
def Sound (ns : List Int) (kvs : List (Key × V)) : Prop := ∀ x, (valV kvs (.inl x)).isSome = true → x ∈ barL ns
theorem Sound.put {ns : List Int} {kvs : List (Key × V)} {x : Int} {v : V} (h : Sound ns kvs) (hx : x ∈ barL ns) : Sound ns (putK kvs (.inl x) v) := fun y hy => by
  rw [valV_put] at hy
  by_cases e : (Sum.inl y : Key) = .inl x
  · injection e with e
    rw [e]
    exact hx
  · rw [if_neg e] at hy
    exact h y hy
theorem some_put {kvs : List (Key × V)} {x y : Int} {v : V} (h : (valV kvs (.inl y)).isSome = true) : (valV (putK kvs (.inl x) v) (.inl y)).isSome = true := by
  rw [valV_put]
  split
  · rfl
  · exact h
theorem some_here {kvs : List (Key × V)} {x : Int} {v : V} : (valV (putK kvs (.inl x) v) (.inl x)).isSome = true := by
  rw [valV_put, if_pos rfl]
  rfl
theorem take_in {ns : List Int} {i : Nat} (hi : i < ns.length) {z : Int} (hz : z ∈ ns.take (i + 1)) : z ∈ ns.take i ∨ z = ns[i] := by
  have et : ns.take (i + 1) = ns.take i ++ [ns[i]] := by
    rw [List.take_add_one, List.getElem?_eq_getElem hi] <;> rfl
  rw [et] at hz
  rcases List.mem_append.mp hz with h | h
  · exact .inl h
  · exact .inr (List.mem_singleton.mp h)
theorem ok_right {f f1 f2 f3 : Addr} {fd fd1 fd2 fd3 : FuncData} {CB CN : Addr} (D : Dfn K mg "_law_right" "_law_right" s_law_right ["_law_marks_here"] f fd) (T : Tx mg) (D_behind : Dfn K mg "behind" "behind" s_behind ["marks"] f1 fd1) (G_behind : FnOk P w K mg base (L2N.CX P w) 3 f1 fd1 ["marks"] (spBehind CB CN))
    (D_law_whole : Dfn K mg "_law_whole" "_law_whole" s_law_whole ["_law_number_here"] f2 fd2) (D_law_apart : Dfn K mg "_law_apart" "_law_apart" s_law_apart ["_law_marks_here"] f3 fd3) : FnOk P w K mg base CX0 4 f fd ["_law_marks_here"] spRight := by
  have G_law_apart : FnOk P w K mg base CX0 1 f3 fd3 ["_law_marks_here"] (spLawApart K) := ok_lawApart D_law_apart T
  have G_law_whole : FnOk P w K mg base CX0 1 f2 fd2 ["_law_number_here"] spNumber := ok_whole D_law_whole T
  refine D.F.ok sc_law_right (fun vs H Q E h => ?_) (fun cdv A outer s H vs Q E hr h => ?_)
  · obtain ⟨v, ns, rfl, _⟩ := h
    rfl
  · obtain ⟨v, ns, rfl, ⟨m, rfl, hm, hl, hp⟩, hA, hn, k⟩ := h
    refine ⟨_, (pss_cons (ps_set (i := 1) sc_law_right.nd rfl (by first | exact Or.inl rfl | exact Or.inr rfl) (pe_callTy call_list_of (by rfl) T.b_list (by decide +kernel) (pa_cons (pv 0) pa_nil)))
      (pss_cons (ps_set (i := 2) sc_law_right.nd rfl (by first | exact Or.inl rfl | exact Or.inr rfl) (pe_call G_behind (hr.mono (by decide)) (by rfl) D_behind.g D_behind.F.kp D_behind.b .nil SX.passN (pa_cons (pv 1) pa_nil)))
      (pss_cons (ps_if (PW.pt (pw_or (pt_not (pt_val (pe_call G_law_whole (hr.mono (by decide)) (by rfl) D_law_whole.g D_law_whole.F.kp D_law_whole.b .nil pass0 (pa_cons (pv 2) pa_nil)))) (pw_or1 (pt_cmpR (op_neD hr.units) (pv 1) (pv 0) (nomark _)))))
      (pss_one (ps_ret pe_bl))
      pss_nil)
      (pss_cons (ps_if (pt_cmpR (op_eqD hr.units) (pv 0) (pe_lst pa_nil) (nomark _))
      (pss_one (ps_ret (pe_cmpR op_eq (pv 2) pe_int (nomark _))))
      pss_nil)
      (pss_cons (ps_if (PW.pt (pw_or (pt_cmpR op_le (pv 2) (pe_ix ix_list (pv 0) (pe_un un_neg pe_int) (fun _ _ => rfl)) (nomark _)) (pw_or1 (pt_not (pt_val (pe_call G_law_apart (hr.mono (by decide)) (by rfl) D_law_apart.g D_law_apart.F.kp D_law_apart.b .nil pass0 (pa_cons (pe_op op_cat (pv 0) (pe_lst (pa_cons (pv 2) pa_nil))) pa_nil)))))))
      (pss_one (ps_ret pe_bl))
      pss_nil)
      (pss_cons (ps_set (i := 3) sc_law_right.nd rfl (by first | exact Or.inl rfl | exact Or.inr rfl) pe_dnewK)
      (pss_cons (ps_for PassesOwn.never rfl (pi_list (pv 0)) (pg_name (i := 4) sc_law_right.nd rfl (by first | exact Or.inl rfl | exact Or.inr rfl))
      (pss_one (ps_for PassesOwn.never rfl (pi_list (pv 0)) (pg_name (i := 5) sc_law_right.nd rfl (by first | exact Or.inl rfl | exact Or.inr rfl))
      (pss_one (ps_for PassesOwn.never rfl (pi_list (pv 0)) (pg_name (i := 6) sc_law_right.nd rfl (by first | exact Or.inl rfl | exact Or.inr rfl))
      (pss_one (ps_dput (hu_of hr) (pv 3) (pe_op op_sub (pe_op op_add (pv 4) (pv 5)) (pv 6)) pe_bl rfl)))))))
      (pss_cons (ps_set (i := 7) sc_law_right.nd rfl (by first | exact Or.inl rfl | exact Or.inr rfl) (pe_op op_add (pe_ix ix_list (pv 0) (pe_un un_neg pe_int) (fun _ _ => rfl)) pe_int))
      (pss_cons (ps_while PassesOwn.never (pt_cmp (pc_din (hu_of hr) (pv 7) (pv 3)))
      (pss_one (ps_set (i := 7) sc_law_right.nd rfl (by first | exact Or.inl rfl | exact Or.inr rfl) (pe_op op_add (pv 7) pe_int))))
      (pss_one (ps_ret (pe_and (pe_cmpR op_eq (pv 2) (pv 7) (nomark _)) (pe_one (pe_cmpR op_eq (pe_call G_behind (hr.mono (by decide)) (by rfl) D_behind.g D_behind.F.kp D_behind.b .nil SX.passN (pa_cons (pv 1) pa_nil)) (pv 2) (nomark _))))))))))))))), ?_⟩
    refine q_asgL (el_list (ev_var rfl) (sq_of hm)) fun c H1 hc e1 h1 => ?_
    refine q_asgP (evp_behind (ev_var rfl) h1 hl hp hA) fun v H2 e2 hv => ?_
    obtain ⟨F, rfl, f0, f1⟩ := hv
    have hm2 := (e1.trans e2) m _ hm
    have h2 := e2 c _ h1
    refine q_when (b := false) (et_or (a := false) (b := false) (et_not (a := true) (et_B (ev_call (by walk_at "ev") fun H5 e5 Q5 q5 E5 => num_int q5))) fun _ => et_is (et_test (ev_op (ev_var rfl) (ev_var rfl) (rv_neLL (sq_of h2) (sq_of hm2)))) (by rw [decide_eq_true rfl] <;> rfl)) (fun h => nomatch h) fun _ H3 e3 => ?_
    have hm3 := e3 m _ hm2
    have h3 := e3 c _ h2
    have e03 := (e1.trans e2).trans e3
    refine q_when (b := decide (ns = [])) (et_test (ev_opL (ev_var rfl) (el_lst ea_nil (by decide)) fun p H4 h4 e4 => rv_eqLL (ms := []) (sq_of (e4 m _ hm3)) (sq_of h4))) (fun hb H4 e4 => ?_) fun hb H4 e4 => ?_
    · have hn0 : ns = [] := of_decide_eq_true hb
      refine s_ret (v := .bl true) (ev_is (ev_op (ev_var rfl) ev_c (rv_eq rfl)) (by rw [f0 hn0] <;> rfl)) fun H5 e5 => k H5 ((e03.trans e4).trans e5)
    · have hne : ns ≠ [] := of_decide_eq_false hb
      have hL := f1 hne
      have hpos : 0 < ns.length := by
        cases ns with
        | nil => exact absurd rfl hne
        | cons z r => simp
      have hm4 := e4 m _ hm3
      have hput := put_ok hp hA f1
      refine q_when (b := false) (et_or (a := false) (b := false) (et_is (et_test (ev_op (ev_var rfl) (ev_ixL (ev_var rfl) (ev_un ev_c ru_neg) (sq_of hm4) (at_last hpos)) rv_I0)) (decide_eq_false (by have := hL.1; omega))) fun _ => et_not (a := true) (et_B (ev_is (ev_apart1 (ev_var rfl) hm4 (ev_var rfl) (by omega)) (congrArg V.bl (decide_eq_true hput.2))))) (fun h => nomatch h) fun _ H5 e5 => ?_
      refine q_asgD fun d hd => ?_
      have e6 : Ex H5 (upd H5 d (.dK [])) := Ex.new hd
      have h6 : (upd H5 d (.dK [])) d = some (.dK []) := upd_same
      generalize upd H5 d (.dK []) = H6 at e6 h6 ⊢
      have e05 := (e03.trans e4).trans e5
      have hm5 := e5 m _ hm4
      have hc5 := (e4.trans e5) c _ h3
      have g0 : ∀ (kvs : List (Key × V)), kvs = [] → Sound ns kvs := fun kvs e x hx => by rw [e, valV_nil] at hx; exact nomatch hx
      -- the dict
      refine q_forLn (ev_var rfl) (sq_of (e6 m _ hm5)) (fun i σ' H' => ∃ (kvs : List (Key × V)) (y4 y5 y6 y7 : Option V), σ' = [some (.ref m), some (.ref c), some (.int F), some (.ref d), y4, y5, y6, y7] ∧ Ex H5 H' ∧ H' d = some (.dK kvs) ∧ Sound ns kvs ∧ kvs.length ≤ i * 400 ∧ ∀ a ∈ ns.take i, ∀ b ∈ ns, ∀ z ∈ ns, (valV kvs (.inl (a + b - z))).isSome = true)
        (fun H7 e7 => ⟨[], _, _, _, _, rfl, e6.trans e7, e7 d _ h6, g0 [] rfl, by decide, fun a ha => absurd ha (by simp)⟩) (fun i σ' H' _ ⟨_, _, _, _, _, _, e7, _⟩ => sq_of (e7 m _ hm5)) ?_ ?_
      · rintro i x σ' H7 hx ⟨kvs, y4, y5, y6, y7, rfl, e7, h7, s7, l7, c7⟩
        obtain ⟨hi, hx⟩ := List.getElem?_eq_some_iff.mp hx
        rw [List.length_map] at hi
        rw [List.getElem_map] at hx
        subst hx
        refine s_forLn (ev_var rfl) (sq_of (e7 m _ hm5)) (fun j σ' H' => ∃ (kvs : List (Key × V)) (y5 y6 y7 : Option V), σ' = [some (.ref m), some (.ref c), some (.int F), some (.ref d), some (.int ns[i]), y5, y6, y7] ∧ Ex H5 H' ∧ H' d = some (.dK kvs) ∧ Sound ns kvs ∧ kvs.length ≤ i * 400 + j * 20 ∧ (∀ a ∈ ns.take i, ∀ b ∈ ns, ∀ z ∈ ns, (valV kvs (.inl (a + b - z))).isSome = true) ∧ ∀ b ∈ ns.take j, ∀ z ∈ ns, (valV kvs (.inl (ns[i] + b - z))).isSome = true)
          (fun H8 e8 => ⟨kvs, _, _, _, rfl, e7.trans e8, e8 d _ h7, s7, by omega, c7, fun a ha => absurd ha (by simp)⟩) (fun i σ' H' _ ⟨_, _, _, _, _, e8, _⟩ => sq_of (e8 m _ hm5)) ?_ ?_
        · rintro j x σ' H8 hx ⟨kvs, y5, y6, y7, rfl, e8, h8, s8, l8, c8, d8⟩
          obtain ⟨hj, hx⟩ := List.getElem?_eq_some_iff.mp hx
          rw [List.length_map] at hj
          rw [List.getElem_map] at hx
          subst hx
          refine s_forLn (ev_var rfl) (sq_of (e8 m _ hm5)) (fun k σ' H' => ∃ (kvs : List (Key × V)) (y6 y7 : Option V), σ' = [some (.ref m), some (.ref c), some (.int F), some (.ref d), some (.int ns[i]), some (.int ns[j]), y6, y7] ∧ Ex H5 H' ∧ H' d = some (.dK kvs) ∧ Sound ns kvs ∧ kvs.length ≤ i * 400 + j * 20 + k ∧ (∀ a ∈ ns.take i, ∀ b ∈ ns, ∀ z ∈ ns, (valV kvs (.inl (a + b - z))).isSome = true) ∧ (∀ b ∈ ns.take j, ∀ z ∈ ns, (valV kvs (.inl (ns[i] + b - z))).isSome = true) ∧ ∀ z ∈ ns.take k, (valV kvs (.inl (ns[i] + ns[j] - z))).isSome = true)
            (fun H9 e9 => ⟨kvs, _, _, rfl, e8.trans e9, e9 d _ h8, s8, by omega, c8, d8, fun a ha => absurd ha (by simp)⟩) (fun i σ' H' _ ⟨_, _, _, _, e9, _⟩ => sq_of (e9 m _ hm5)) ?_ ?_
          · rintro l x σ' H9 hx ⟨kvs, y6, y7, rfl, e9, h9, s9, l9, c9, d9, z9⟩
            obtain ⟨hk, hx⟩ := List.getElem?_eq_some_iff.mp hx
            rw [List.length_map] at hk
            rw [List.getElem_map] at hx
            subst hx
            refine s_dput h9 ev_c (ev_var rfl) (ev_op (ev_op (ev_var rfl) (ev_var rfl) rv_I0) (ev_var rfl) rv_I0) (by omega) fun H10 e10 => ?_
            refine ⟨_, _, _, rfl, Ex.mut (e9.trans e10) hd, upd_same, s9.put (mem_bar.mpr ⟨_, List.getElem_mem hi, _, List.getElem_mem hj, _, List.getElem_mem hk, rfl⟩), ?_, fun a ha b hb z hz => some_put (c9 a ha b hb z hz), fun b hb z hz => some_put (d9 b hb z hz), fun z hz => ?_⟩
            · have := putK_le (kvs := kvs) (k := .inl (ns[i] + ns[j] - ns[l])) (v := .bl true)
              omega
            · rcases take_in hk hz with h | h
              · exact some_put (z9 z h)
              · rw [h]
                exact some_here
          · rintro σ' H9 ⟨kvs, y6, y7, rfl, e9, h9, s9, l9, c9, d9, z9⟩
            rw [List.length_map] at l9 z9
            refine ⟨kvs, _, _, _, rfl, e9, h9, s9, by omega, c9, fun b hb z hz => ?_⟩
            rcases take_in hj hb with h | h
            · exact d9 b h z hz
            · rw [h]
              exact z9 z (by rw [List.take_length]; exact hz)
        · rintro σ' H8 ⟨kvs, y5, y6, y7, rfl, e8, h8, s8, l8, c8, d8⟩
          rw [List.length_map] at l8 d8
          refine ⟨kvs, _, _, _, _, rfl, e8, h8, s8, by omega, fun a ha b hb z hz => ?_⟩
          rcases take_in hi ha with h | h
          · exact c8 a h b hb z hz
          · rw [h]
            exact d8 b (by rw [List.take_length]; exact hb) z hz
      · rintro σ' H7 ⟨kvs, y4, y5, y6, y7, rfl, e7, h7, s7, l7, c7⟩
        rw [List.length_map, List.take_length] at c7
        have hall : ∀ x, x ∈ barL ns → (valV kvs (.inl x)).isSome = true := fun x hx => by
          obtain ⟨a, ha, b, hb, z, hz, rfl⟩ := mem_bar.mp hx
          exact c7 a ha b hb z hz
        refine q_asg (v := .int (lastOf ns + 1)) (ev_op (ev_ixL (ev_var rfl) (ev_un ev_c ru_neg) (sq_of (e7 m _ hm5)) (at_last hpos)) ev_c rv_I0) fun H8 e8 => ?_
        have hLl := hL.1
        refine q_while (fun n σ' H' => ∃ due : Int, σ' = [some (.ref m), some (.ref c), some (.int F), some (.ref d), y4, y5, y6, some (.int due)] ∧ Ex H5 H' ∧ Ex H8 H' ∧ lastOf ns < due ∧ due ≤ F ∧ n = (F - due).toNat) _ ⟨_, rfl, e7.trans e8, Ex.refl _, by omega, by omega, rfl⟩ ?_
        rintro n σ' H9 ⟨due, rfl, e9, e89, u1, u2, rfl⟩
        have h9 := e89 d _ (e8 d _ h7)
        refine ⟨_, et_B (ev_din (ev_var rfl) (ev_var rfl) h9), fun hb H10 e10 => ?_, fun hb H10 e10 => ?_⟩
        · have hin := s7 due hb
          have hne2 : due ≠ F := fun e => hL.2.1 (e ▸ hin)
          refine ⟨fun σ2 H2 => σ2 = [some (.ref m), some (.ref c), some (.int F), some (.ref d), y4, y5, y6, some (.int (due + 1))] ∧ Ex H5 H2 ∧ Ex H8 H2, fun σ2 H2 ⟨hσ, a1, a2⟩ => ⟨_, ?_, due + 1, hσ, a1, a2, by omega, by omega, rfl⟩, ?_⟩
          · omega
          · exact s_asg (ev_op (ev_var rfl) ev_c rv_I0) fun H11 e11 => ⟨rfl, (e9.trans e10).trans e11, (e89.trans e10).trans e11⟩
        · have hF : due = F := by
            rcases Int.lt_or_le due F with h | h
            · have := hall due (hL.2.2 due u1 h)
              rw [this] at hb
              exact nomatch hb
            · omega
          subst hF
          refine s_ret (v := .bl true) (ev_andV (a := true) (b := true) (ev_is (ev_op (ev_var rfl) (ev_var rfl) (rv_eq rfl)) (congrArg V.bl (dec_self _))) fun _ => ev_is (ev_op (ev_behind (L := due) (ev_var rfl) ((e9.trans e10) c _ hc5) hl hp hA f0 f1) (ev_var rfl) (rv_eq rfl)) (congrArg V.bl (dec_self _))) fun H11 e11 => k H11 (e05.trans ((e9.trans e10).trans e11))
end
end K4

namespace K4
open PySem PySem.Spec PyProof.Rows L2 Evl SX SM
local macro_rules | `(tactic| walk_at "cond") => `(tactic| first
  | assumption
  | exact cdiv_small (by decide) (by decide)
  | exact cmul_l (by decide) (by decide)
  | exact cmul_r (by decide) (by decide)
  | exact cpow_c (by decide) (by decide) (by decide)
  | (show (0 : Int) < _; decide)
  | (show (0 : Int) < _; omega))
local macro_rules | `(tactic| walk_at "ev") => `(tactic| first
  | with_reducible exact ev_c
  | ((with_reducible apply ev_var); exact rfl)
  | with_reducible exact ea_nil
  | with_reducible exact eo_none
  | ((with_reducible apply ea_cons) <;> walk_at "ev")
  | ((with_reducible apply eo_some); walk_at "ev")
  | ((with_reducible apply ev_op (hr := rv_I0)) <;> walk_at "ev")
  | ((with_reducible apply ev_op (hr := rv_I ?cnd)); (· walk_at "ev"); (· walk_at "ev"); (· walk_at "cond"))
  | ((with_reducible apply ev_un (hr := ru_neg)); walk_at "ev")
  | ((with_reducible apply ev_op (hr := rv_eq ?cnd)); (· walk_at "ev"); (· walk_at "ev"); (· exact rfl))
  | ((with_reducible apply ev_op (hr := rv_ne ?cnd)); (· walk_at "ev"); (· walk_at "ev"); (· exact rfl))
  | ((with_reducible apply ev_lenI); (· walk_at "ev"); (· assumption))
  | ((with_reducible apply ev_ixL); (· walk_at "ev"); (· walk_at "ev"); (· assumption); (· first | exact atI_nat (j := 0) rfl | exact atI_nat (j := 1) rfl | exact atI_nat (j := 2) rfl))
  | ((with_reducible apply et_test); walk_at "ev")
  | ((with_reducible apply et_B); walk_at "ev"))
local macro_rules | `(tactic| walk_at "tup") => `(tactic| first
  | ((with_reducible apply evp_T [_, _]); (· walk_at "ev"); (· exact rfl); (· show 2 ≤ 100000; decide))
  | ((with_reducible apply evp_T [_]); (· walk_at "ev"); (· exact rfl); (· show 1 ≤ 100000; decide))
  | ((with_reducible apply evp_T [_, _, _]); (· walk_at "ev"); (· exact rfl); (· show 3 ≤ 100000; decide))
  | ((with_reducible apply evp_T []); (· walk_at "ev"); (· exact rfl); (· show 0 ≤ 100000; decide)))
local macro_rules | `(tactic| walk_at "pairs") => `(tactic| first
  | with_reducible exact eal_nil
  | ((with_reducible apply eal_cons PairT.mono); (· ((with_reducible apply evp_pair) <;> walk_at "tup")); (· walk_at "pairs")))
abbrev s_law : Stmt := topS 26
abbrev N_law : List Str := ["_law_script", "_law_whole_here", "_law_marks_here", "_law_kept_here", "_law_some", "_law_grown", "_law_time", "_law_first"]
theorem sc_law : FnScope N_law ["_law_script"] (defScope s_law) := ⟨rfl, rfl, rfl, by decide +kernel, rfl, by decide +kernel, by decide +kernel⟩
section
variable {P : Program} {w : World} {K : PySem.W.Frag} {mg : Str → Option Value} {base : Heap}
/-- what the top has left of the errors, for one that is NotApart -/
structure KN (K : PySem.W.Frag) (CN CB CU CP CK CM : Addr) : Prop where
  e : ExcC K CN
  x : PySem.W.exmOne K (.ref CN) (.ref CM) = some true
  b : PySem.W.kitOne K (.ref CN) (.ref CB) = some false
  u : PySem.W.kitOne K (.ref CN) (.ref CU) = some false
  p : PySem.W.kitOne K (.ref CN) (.ref CP) = some false
  k : PySem.W.kitOne K (.ref CN) (.ref CK) = some false
  n : PySem.W.kitOne K (.ref CN) (.ref CN) = some true
def spRefused : Sp := fun vs H Q _ => ∃ (v : V) (ns : List Int), vs = [v] ∧ GoodL v H ns ∧ ¬ SM.Apart ns ∧ RetV (.bl true) H Q
theorem ok_refused {f f1 : Addr} {fd fd1 : FuncData} {CB CN CU CP CK CM : Addr} (D : Dfn K mg "_law_refused" "_law_refused" s_law_refused ["_law_marks_here"] f fd) (T : Tx mg) (D_behind : Dfn K mg "behind" "behind" s_behind ["marks"] f1 fd1) (G_behind : FnOk P w K mg base (L2N.CX P w) 3 f1 fd1 ["marks"] (spBehind CB CN))
    (X_MarkError : XC K mg "MarkError" CM) (X_BadMarks : XC K mg "BadMarks" CB) (X_BadNumber : XC K mg "BadNumber" CU) (X_BadPrime : XC K mg "BadPrime" CP) (X_NoMark : XC K mg "NoMark" CK) (X_NotApart : XC K mg "NotApart" CN) (KQ : KN K CN CB CU CP CK CM) : FnOk P w K mg base CX0 4 f fd ["_law_marks_here"] spRefused := by
  refine D.F.ok sc_law_refused (fun vs H Q E h => ?_) (fun cdv A outer s H vs Q E hr h => ?_)
  · obtain ⟨v, ns, rfl, _⟩ := h
    rfl
  · obtain ⟨v, ns, rfl, hg, hA, k⟩ := h
    refine ⟨_, (pss_cons (L2N.ps_try_as (i := 1) rfl rfl sc_law_refused.nd rfl rfl ⟨by rfl, by decide, .inl X_MarkError.g⟩ SX.takes0N (fun W pn xe tk po => (pss_one (ps_expr (pe_callS G_behind (hr.mono (by decide)) (by rfl) D_behind.g D_behind.F.kp D_behind.b (fun σ => L2N.passAt tk σ) (pa_cons (pv 0) pa_nil)))))
      (fun a oe cls d pn hz hf => (pss_cons (ps_set (i := 2) sc_law_refused.nd rfl (by first | exact Or.inl rfl | exact Or.inr rfl) (pe_lst (pa_cons (pe_callB (SX.isi_e hz hf) (by rfl) T.b_isinstance (by decide +kernel) (pa_cons (pv 1) (pa_cons (pe_glob (v := .ref _) (by rfl) X_BadMarks.g rfl) pa_nil))) (pa_cons (pe_callB (SX.isi_e hz hf) (by rfl) T.b_isinstance (by decide +kernel) (pa_cons (pv 1) (pa_cons (pe_glob (v := .ref _) (by rfl) X_BadNumber.g rfl) pa_nil))) (pa_cons (pe_callB (SX.isi_e hz hf) (by rfl) T.b_isinstance (by decide +kernel) (pa_cons (pv 1) (pa_cons (pe_glob (v := .ref _) (by rfl) X_BadPrime.g rfl) pa_nil))) pa_nil)))))
      (pss_one (ps_ret (pe_and (pe_callB (SX.isi_e hz hf) (by rfl) T.b_isinstance (by decide +kernel) (pa_cons (pv 1) (pa_cons (pe_glob (v := .ref _) (by rfl) X_NotApart.g rfl) pa_nil))) (pe_and (pe_not (pe_callB (SX.cr_anyS (K := K) hz hf) (by rfl) T.b_any (by decide +kernel) (pa_cons (pv 2) pa_nil))) (pe_one (pe_not (pe_callB (SX.isi_e hz hf) (by rfl) T.b_isinstance (by decide +kernel) (pa_cons (pv 1) (pa_cons (pe_glob (v := .ref _) (by rfl) X_NoMark.g rfl) pa_nil))))))))))))
      (pss_one (ps_ret pe_bl))), ?_⟩
    refine s_callX (vs := [v]) (by walk_at "ev") fun H1 e1 => ⟨v, rfl, .inr (.inl ⟨ns, ?_, hA, fun H2 e2 => ⟨true, KQ.x, fun _ a ha => ?_, fun h => nomatch h⟩⟩)⟩
    · obtain ⟨m, h, q, l⟩ := hg
      exact ⟨m, h, e1 m _ q, l⟩
    · refine q_asgL (el_lst (vs := [.bl false, .bl false, .bl false]) (ea_cons (ev_isE KQ.e (ev_var rfl) ev_c KQ.b) (ea_cons (ev_isE KQ.e (ev_var rfl) ev_c KQ.u) (ea_cons (ev_isE KQ.e (ev_var rfl) ev_c KQ.p) ea_nil))) (by show 3 ≤ 100000; decide)) fun l H3 hl e3 h3 => ?_
      refine s_ret (v := .bl true) (ev_andV (a := true) (b := true) (ev_isE KQ.e (ev_var rfl) ev_c KQ.n) fun _ => ev_andV (a := true) (b := true) (ev_notV (a := false) (ev_any (bs := [false, false, false]) (ev_var rfl) (sq_of h3))) fun _ => ev_notV (a := false) (ev_isE KQ.e (ev_var rfl) ev_c KQ.k)) fun H4 e4 => k H4 ((((e1.trans e2).trans e3)).trans e4)
/-! ### the law -/
def SomeK : V → Hp → Prop := fun v H => ∃ ns, GoodL v H ns ∧ SM.Apart ns ∧ ns.length ≤ 14
theorem SomeK.mono : Mono SomeK := fun _ _ _ e ⟨ns, ⟨p, h, q, l⟩, r⟩ => ⟨ns, ⟨p, h, e p _ q, l⟩, r⟩
theorem take_sub (ns : List Int) (k : Nat) : ∀ z ∈ ns.take k, z ∈ ns := fun z hz => List.mem_of_mem_take hz
theorem take_rise {ms : List Int} {k : Nat} (h : ms.Pairwise (· < ·)) : (ms.take k).Pairwise (· < ·) := List.Pairwise.sublist (List.take_sublist k ms) h
theorem s_appP {K : PySem.W.Frag} {σ : L2.St} {H : Hp} {ta te : TE} {D : Ends} {l : Addr} {xs : List V} {P : V → Hp → Prop} (hl : H l = some (.lst xs)) (ha : Ev ta σ H (.ref l)) (h : EvP te σ H P) (hz : xs.length < 100000) (k : ∀ v H1, Ex H H1 → P v H1 → D.nx σ (upd H1 l (.lst (xs ++ [v])))) :
    tDrop (tBM K "list" rAppend ta (tCons te tNil)) D σ H := ha H (Ex.refl H) _ fun H1 e1 =>
  ⟨Or.inl ⟨rfl, xs, sq_of (e1 l _ hl)⟩, h H1 e1 _ fun v H2 e2 p => ⟨l, xs, v, rfl, rfl, e2 l _ (e1 l _ hl), sz_lt hz, k v H2 (e1.trans e2) p⟩⟩
def spLaw (K : PySem.W.Frag) : Sp := fun vs H Q _ => ∃ (a : Addr) (ns : List Int), vs = [.ref a] ∧ SqL K H a (ns.map V.int) ∧ ns.length ≤ 63 ∧ (∀ z ∈ ns, Builtin.Int.intBits z ≤ 1048576) ∧ ∀ H', Q (.bl true) H'
theorem ok_law {f f1 f2 f3 f4 f5 f6 f7 : Addr} {fd fd1 fd2 fd3 fd4 fd5 fd6 fd7 : FuncData} {CB CN : Addr} (D : Dfn K mg "law" "law" s_law ["_law_script"] f fd) (T : Tx mg)
    (D_law_marks : Dfn K mg "_law_marks" "_law_marks" s_law_marks ["_law_script"] f1 fd1) (D_law_number : Dfn K mg "_law_number" "_law_number" s_law_number ["_law_cell", "_law_at", "_law_whole_here"] f2 fd2) (D_law_apart : Dfn K mg "_law_apart" "_law_apart" s_law_apart ["_law_marks_here"] f3 fd3)
    (D_law_refused : Dfn K mg "_law_refused" "_law_refused" s_law_refused ["_law_marks_here"] f4 fd4) (D_law_kept : Dfn K mg "_law_kept" "_law_kept" s_law_kept ["_law_marks_here"] f5 fd5) (D_law_right : Dfn K mg "_law_right" "_law_right" s_law_right ["_law_marks_here"] f6 fd6) (D_behind : Dfn K mg "behind" "behind" s_behind ["marks"] f7 fd7)
    (G_behind : FnOk P w K mg base (L2N.CX P w) 3 f7 fd7 ["marks"] (spBehind CB CN)) (G_law_refused : FnOk P w K mg base CX0 4 f4 fd4 ["_law_marks_here"] spRefused) (G_law_right : FnOk P w K mg base CX0 4 f6 fd6 ["_law_marks_here"] spRight) : FnOk P w K mg base CX0 5 f fd ["_law_script"] (spLaw K) := by
  have G_law_marks : FnOk P w K mg base CX0 2 f1 fd1 ["_law_script"] (spMarks K) := ok_marks D_law_marks T D_law_number
  have G_law_apart : FnOk P w K mg base CX0 1 f3 fd3 ["_law_marks_here"] (spLawApart K) := ok_lawApart D_law_apart T
  have G_law_kept : FnOk P w K mg base CX0 2 f5 fd5 ["_law_marks_here"] spKept := ok_kept D_law_kept T D_law_apart
  refine D.F.ok sc_law (fun vs H Q E h => ?_) (fun cdv A outer s H vs Q E hr h => ?_)
  · obtain ⟨a, ns, rfl, _⟩ := h
    rfl
  · obtain ⟨a, ns, rfl, hS, hlen, hbits, k⟩ := h
    refine ⟨_, (pss_cons (ps_set (i := 1) sc_law.nd rfl (by first | exact Or.inl rfl | exact Or.inr rfl) (pe_callB (cr_sum rfl) (by rfl) T.b_sum (by decide +kernel) (pa_cons (pe_slice sl_list (pv 0) po_none (po_some pe_int)) pa_nil)))
      (pss_cons (ps_set (i := 2) sc_law.nd rfl (by first | exact Or.inl rfl | exact Or.inr rfl) (pe_slice sl_list (pe_call G_law_marks (hr.mono (by decide)) (by rfl) D_law_marks.g D_law_marks.F.kp D_law_marks.b .nil pass0 (pa_cons (pv 0) pa_nil)) po_none (po_some pe_int)))
      (pss_cons (ps_if (PW.pt (pw_and (pt_not (pt_val (pe_call G_law_apart (hr.mono (by decide)) (by rfl) D_law_apart.g D_law_apart.F.kp D_law_apart.b .nil pass0 (pa_cons (pv 2) pa_nil)))) (pw_and1 (pt_not (pt_val (pe_call G_law_refused (hr.mono (by decide)) (by rfl) D_law_refused.g D_law_refused.F.kp D_law_refused.b .nil pass0 (pa_cons (pv 2) pa_nil)))))))
      (pss_one (ps_ret pe_bl))
      pss_nil)
      (pss_cons (ps_set (i := 3) sc_law.nd rfl (by first | exact Or.inl rfl | exact Or.inr rfl) (pe_slice sl_list (pe_call G_law_kept (hr.mono (by decide)) (by rfl) D_law_kept.g D_law_kept.F.kp D_law_kept.b .nil pass0 (pa_cons (pv 2) pa_nil)) po_none (po_some pe_int)))
      (pss_cons (ps_for PassesOwn.never rfl (pi_list (pe_lst (pa_cons (pv 3) (pa_cons (pe_slice sl_list (pv 3) po_none (po_some (pe_op op_mod (pv 1) pe_int))) (pa_cons (SX.pe_step (pv 3)) pa_nil))))) (pg_name (i := 4) sc_law.nd rfl (by first | exact Or.inl rfl | exact Or.inr rfl))
      (pss_one (ps_if (pt_not (pt_val (pe_call G_law_right (hr.mono (by decide)) (by rfl) D_law_right.g D_law_right.F.kp D_law_right.b .nil pass0 (pa_cons (pv 4) pa_nil))))
      (pss_one (ps_ret pe_bl))
      pss_nil)))
      (pss_cons (ps_set (i := 5) sc_law.nd rfl (by first | exact Or.inl rfl | exact Or.inr rfl) (pe_slice sl_list (pv 3) po_none (po_some pe_int)))
      (pss_cons (ps_for PassesOwn.never rfl (pi_range1 (by rfl) T.b_range (pa_cons pe_int pa_nil)) (pg_name (i := 6) sc_law.nd rfl (by first | exact Or.inl rfl | exact Or.inr rfl))
      (pss_one (ps_set (i := 5) sc_law.nd rfl (by first | exact Or.inl rfl | exact Or.inr rfl) (pe_op op_cat (pv 5) (pe_lst (pa_cons (pe_call G_behind (hr.mono (by decide)) (by rfl) D_behind.g D_behind.F.kp D_behind.b .nil SX.passN (pa_cons (pv 5) pa_nil)) pa_nil))))))
      (pss_cons (ps_if (pt_not (pt_val (pe_call G_law_right (hr.mono (by decide)) (by rfl) D_law_right.g D_law_right.F.kp D_law_right.b .nil pass0 (pa_cons (pv 5) pa_nil))))
      (pss_one (ps_ret pe_bl))
      pss_nil)
      (pss_cons (ps_set (i := 7) sc_law.nd rfl (by first | exact Or.inl rfl | exact Or.inr rfl) (pe_lst pa_nil))
      (pss_cons (ps_for PassesOwn.never rfl (pi_range1 (by rfl) T.b_range (pa_cons pe_int pa_nil)) (pg_name (i := 6) sc_law.nd rfl (by first | exact Or.inl rfl | exact Or.inr rfl))
      (pss_one (ps_expr (pe_bm PySem.F.plainAttrs_list PySem.F.slot_list_append PySem.F.type_list_append mt_append (pv 7) (pa_cons (pe_call G_behind (hr.mono (by decide)) (by rfl) D_behind.g D_behind.F.kp D_behind.b .nil SX.passN (pa_cons (pv 7) pa_nil)) pa_nil)))))
      (pss_one (ps_ret (pe_cmpR (op_eqD hr.units) (pv 7) (pe_lst (pa_cons pe_int (pa_cons pe_int (pa_cons pe_int (pa_cons pe_int (pa_cons pe_int (pa_cons pe_int (pa_cons pe_int (pa_cons pe_int pa_nil))))))))) (nomark _)))))))))))))), ?_⟩
    refine q_asg (ev_sumN (el_cutTake (k := 63) (ev_var rfl) (eo_some ev_c) hS)) fun H1 e1 => ?_
    generalize (ns.take 63).sum = W
    refine q_asgP (evp_take (k := 25) (R := fun ms => ms.length ≤ 40 ∧ ms.Pairwise (· < ·)) (evp_call (by walk_at "ev") fun H2 e2 Q q => ⟨a, ns, rfl, ex_l (e1.trans e2) hS, hlen, hbits, fun ms p H3 hl hp _ e3 h3 => q _ H3 e3 ⟨p, ms, rfl, h3, hl, hp⟩⟩) (eo_some ev_c)) fun v H2 e2 hv => ?_
    obtain ⟨m, ms0, rfl, hm, hml0, hmp0⟩ := hv
    have hml : (ms0.take 25).length ≤ 40 := by rw [List.length_take]; omega
    have hmp := take_rise (k := 25) hmp0
    generalize ms0.take 25 = ms at hm hml hmp
    -- those not apart are refused
    have hgd : ∀ H', Ex H2 H' → GoodL (.ref m) H' ms := fun H' e => ⟨m, rfl, e m _ hm, hml, hmp⟩
    have t1 : EvT (tNot (tB (tCall (spLawApart K) [] E0 (tCons (tVar 2) tNil)))) [some (.ref a), some (.int W), some (.ref m), none, none, none, none, none] H2 (!decide (SM.Apart ms)) := et_not (et_B (ev_call (ea_cons (ev_var rfl) ea_nil) fun H5 e5 Q5 q5 E5 => ⟨m, ms, rfl, sq_of (e5 m _ hm), by omega, q5⟩))
    refine q_when (b := false) (et_is (et_and (b := false) t1 fun hb => et_not (a := true) (et_B (ev_call (ea_cons (ev_var rfl) ea_nil) fun H5 e5 Q5 q5 E5 => ⟨.ref m, ms, rfl, hgd H5 e5, fun hA => by rw [decide_eq_true hA] at hb; exact (nomatch hb), q5⟩))) (Bool.and_false _)) (fun h => nomatch h) fun _ H3 e3 => ?_
    have hm3 := e3 m _ hm
    -- the first that stay apart
    refine q_asgP (evp_take (k := 14) (R := fun fs => fs.Pairwise (· < ·) ∧ SM.Apart fs) (evp_call (by walk_at "ev") fun H4 e4 Q q => ⟨m, ms, rfl, e4 m _ hm3, hml, hmp, fun p H5 fs hp e5 h5 r5 a5 _ => q _ H5 e5 ⟨p, fs, rfl, h5, r5, a5⟩⟩) (eo_some ev_c)) fun v H4 e4 hv => ?_
    obtain ⟨c, fs0, rfl, hc, hfp0, hfa0⟩ := hv
    have hfl : (fs0.take 14).length ≤ 14 := by rw [List.length_take]; omega
    have hfp := take_rise (k := 14) hfp0
    have hfa := apart_sub hfp0 hfp (take_sub fs0 14) hfa0
    generalize fs0.take 14 = fs at hc hfl hfp hfa
    obtain ⟨kk, hkk⟩ : ∃ kk : Nat, W % 7 = (kk : Int) := Int.eq_ofNat_of_zero_le (Int.emod_nonneg _ (by decide))
    refine q_forP (evp_lst (n := 3) SomeK.mono (eal_cons SomeK.mono (evp_ev (ev_var rfl) fun H6 e6 => ⟨fs, ⟨c, rfl, e6 c _ hc, by omega, hfp⟩, hfa, hfl⟩) (eal_cons SomeK.mono (evp_evL (el_cutTake (k := kk) (ev_var rfl) (eo_some (ev_is (ev_op (ev_var rfl) ev_c (rv_I (by show (0 : Int) < 7; decide))) (congrArg V.int hkk))) (sq_of hc)) fun p H6 e6 h6 => ⟨fs.take kk, ⟨p, rfl, h6, by rw [List.length_take]; omega, take_rise hfp⟩, apart_sub hfp (take_rise hfp) (take_sub fs kk) hfa, by rw [List.length_take]; omega⟩)
      (eal_cons SomeK.mono (evp_evL (el_step (c := 2) (ev_var rfl) (sq_of hc)) fun p H6 e6 h6 => ⟨stepV 2 fs, ⟨p, rfl, h6, by have := step_le 2 (by decide) fs; omega, step_rise (by decide) hfp⟩, apart_sub hfp (step_rise (by decide) hfp) (fun z hz => step_mem hz) hfa, by have := step_le 2 (by decide) fs; omega⟩) eal_nil))) (by decide)) fun v H5 e5 hv => ?_
    obtain ⟨pl0, xs, rfl, hpl, hxn, hxs⟩ := hv
    refine ⟨pl0, xs, fun i σ' H' => ∃ y4, σ' = [some (.ref a), some (.int W), some (.ref m), some (.ref c), y4, none, none, none] ∧ Ex H5 H',
      rfl, ⟨_, rfl, Ex.refl _⟩, fun i σ' H' _ ⟨_, _, h'⟩ => sq_of (h' pl0 _ hpl), ?_, ?_⟩
    · rintro i x σ' H6 hx ⟨y4, rfl, e6⟩
      obtain ⟨gs, hg, ha, hl⟩ := SomeK.mono _ _ _ e6 (hxs x (List.mem_of_getElem? hx))
      refine s_when (b := false) (et_not (a := true) (et_B (ev_call (by walk_at "ev") fun H7 e7 Q7 q7 E7 => ⟨x, gs, rfl, by
        obtain ⟨p, h, q, l⟩ := hg
        exact ⟨p, h, e7 p _ q, l⟩, ha, hl, q7⟩))) (fun h => nomatch h) fun _ H7 e7 => ⟨_, rfl, e6.trans e7⟩
    · rintro σ' H6 ⟨y4, rfl, e6⟩
      have hc6 := (e5.trans e6) c _ hc
      refine q_asgL (el_cutTake (k := 2) (ev_var rfl) (eo_some ev_c) (sq_of hc6)) fun g H7 hg7 e7 h7 => ?_
      refine q_forR1 (n := 5) (by walk_at "ev") ⟨by decide, by decide⟩ (fun i σ' H' => ∃ (g : Addr) (gs : List Int) (y6 : Option V), σ' = [some (.ref a), some (.int W), some (.ref m), some (.ref c), y4, some (.ref g), y6, none] ∧ Ex H7 H' ∧ H' g = some (.lst (gs.map V.int)) ∧ gs.Pairwise (· < ·) ∧ SM.Apart gs ∧ gs.length ≤ 2 + i)
        (fun H8 e8 => ⟨g, fs.take 2, _, rfl, e8, e8 g _ h7, take_rise hfp, apart_sub hfp (take_rise hfp) (take_sub fs 2) hfa, by rw [List.length_take]; omega⟩) ?_ ?_
      · rintro i σ' H8 hi ⟨g, gs, y6, rfl, e8, h8, r8, a8, l8⟩
        refine s_asgP (evp_cat1 BehV.mono (ev_var rfl) h8 (by rw [List.length_map]; omega) (evp_behind (ev_var rfl) h8 (by omega) r8 a8)) fun v H9 e9 hv => ?_
        obtain ⟨p, x, rfl, hp, L, rfl, f0, f1⟩ := hv
        have hput := put_ok r8 a8 f1
        exact ⟨p, gs ++ [L], _, rfl, e8.trans e9, by rw [List.map_append]; exact hp, hput.1, hput.2, by rw [List.length_append]; show gs.length + 1 ≤ 2 + (i + 1); omega⟩
      · rintro σ' H8 ⟨g, gs, y6, rfl, e8, h8, r8, a8, l8⟩
        have l8' : gs.length ≤ 7 := l8
        refine q_when (b := false) (et_not (a := true) (et_B (ev_call (by walk_at "ev") fun H9 e9 Q9 q9 E9 => ⟨.ref g, gs, rfl, ⟨g, rfl, e9 g _ h8, by omega, r8⟩, a8, by omega, q9⟩))) (fun h => nomatch h) fun _ H9 e9 => ?_
        refine q_asgL (el_ints [] ea_nil rfl (by decide)) fun l H10 hl e10 h10 => ?_
        refine q_forR1 (n := 8) (by walk_at "ev") ⟨by decide, by decide⟩ (fun i σ' H' => ∃ (y6 : Option V), σ' = [some (.ref a), some (.int W), some (.ref m), some (.ref c), y4, some (.ref g), y6, some (.ref l)] ∧ H' l = some (.lst ((firstKs.take i).map V.int)))
          (fun H11 e11 => ⟨_, rfl, e11 l _ h10⟩) ?_ ?_
        · rintro i σ' H11 hi ⟨y6, rfl, h11⟩
          have hi8 : i < 8 := by omega
          have hlt : (firstKs.take i).length = i := by rw [List.length_take]; show min i 8 = i; omega
          have et : firstKs.take (i + 1) = firstKs.take i ++ [firstKs.getD i 0] := by
            rw [List.take_add_one, gd (show i < firstKs.length from hi8), List.getElem?_eq_getElem (show i < firstKs.length from hi8)] <;> rfl
          refine s_app h11 (ev_var rfl) (ev_behind (L := firstKs.getD i 0) (ev_var rfl) h11 (by omega) (first_rises ⟨i, by omega⟩) (first_apart ⟨i, by omega⟩) (fun h0 => ?_) fun h0 => ?_) (by rw [List.length_map]; omega) fun H12 e12 => ⟨_, rfl, ?_⟩
          · have : i = 0 := by rw [← hlt, h0] <;> rfl
            subst this
            rfl
          · refine first_least ?_ hi8
            rcases Nat.eq_zero_or_pos i with h | h
            · subst h
              exact absurd rfl h0
            · exact h
          · rw [upd_same, et, List.map_append]
            rfl
        · rintro σ' H11 ⟨y6, rfl, h11⟩
          have h11' : H11 l = some (.lst (firstKs.map V.int)) := h11
          refine s_ret (v := .bl true) (ev_opL (ev_var rfl) (el_ints firstKs (by walk_at "ev") (by exact rfl) (by decide)) fun p H12 h12 e12 => ?_) fun H12 e12 => k H12
          have q := rv_eqLL (K := K) (sq_of (e12 l _ h11')) (sq_of h12)
          rw [decide_eq_true rfl] at q
          exact q
end
end K4

namespace K4
open PySem PySem.Spec PyProof.Rows L2 Evl SX SM
theorem all_mk {l : PySem.W.OpenLaw} {w : World} {K : PySem.W.Frag} {h : Heap} {mg : Str → Option Value} {fa C2 CM CB CU CP CK CN f1 f2 f3 f4 f5 f6 f7 f8 f9 f10 f11 f12 f13 f14 : Addr} (X : K.In h) (G : h.Ns mainGlobals mg) (hfa : mg "law" = some (.ref fa))
    {od1 an1 od2 an2 od3 an3 od4 an4 od5 an5 od6 an6 od7 an7 od8 an8 od9 an9 od10 an10 od11 an11 od12 an12 od13 an13 od14 an14 : Option Addr} {sl1 sl2 sl3 sl4 sl5 sl6 sl7 sl8 sl9 sl10 sl11 sl12 sl13 sl14 : Array (Option Value)} {oc1 kV1 dc1 pm1 cd1 ct1 oc2 kV2 dc2 pm2 cd2 ct2 oc3 kV3 dc3 pm3 cd3 ct3 oc4 kV4 dc4 pm4 cd4 ct4 oc5 kV5 dc5 pm5 cd5 ct5 oc6 kV6 dc6 pm6 cd6 ct6 oc7 kV7 dc7 pm7 cd7 ct7 oc8 kV8 dc8 pm8 cd8 ct8 oc9 kV9 dc9 pm9 cd9 ct9 oc10 kV10 dc10 pm10 cd10 ct10 oc11 kV11 dc11 pm11 cd11 ct11 oc12 kV12 dc12 pm12 cd12 ct12 oc13 kV13 dc13 pm13 cd13 ct13 oc14 kV14 dc14 pm14 cd14 ct14 : Value} {tc_MOST_MARKS : Tok}
    (aC2 : PySem.W.nsIn K mainGlobals "Apart" = some (some (.ref C2)))
    (aCM : PySem.W.nsIn K mainGlobals "MarkError" = some (some (.ref CM)))
    (aCB : PySem.W.nsIn K mainGlobals "BadMarks" = some (some (.ref CB)))
    (aCU : PySem.W.nsIn K mainGlobals "BadNumber" = some (some (.ref CU)))
    (aCP : PySem.W.nsIn K mainGlobals "BadPrime" = some (some (.ref CP)))
    (aCK : PySem.W.nsIn K mainGlobals "NoMark" = some (some (.ref CK)))
    (aCN : PySem.W.nsIn K mainGlobals "NotApart" = some (some (.ref CN)))
    (cn_MOST_MARKS : PySem.W.nsIn K mainGlobals "MOST_MARKS" = some (some (.int 40 tc_MOST_MARKS)))
    (xCM : PySem.W.excIn K CM [.type "ValueError", .type "Exception", .type "BaseException", .type "object"] "ValueError.__new__" = true)
    (kCM : PySem.W.keepIn K (.ref CM) = true)
    (bCM : PySem.W.subIn K (.ref CM) (.type "BaseException") = some true)
    (tCM : PySem.W.typeIn K (.ref CM) = some (.type "type"))
    (xCB : PySem.W.excIn K CB [.type "ValueError", .type "Exception", .type "BaseException", .type "object"] "ValueError.__new__" = true)
    (kCB : PySem.W.keepIn K (.ref CB) = true)
    (bCB : PySem.W.subIn K (.ref CB) (.type "BaseException") = some true)
    (tCB : PySem.W.typeIn K (.ref CB) = some (.type "type"))
    (xCU : PySem.W.excIn K CU [.type "ValueError", .type "Exception", .type "BaseException", .type "object"] "ValueError.__new__" = true)
    (kCU : PySem.W.keepIn K (.ref CU) = true)
    (bCU : PySem.W.subIn K (.ref CU) (.type "BaseException") = some true)
    (tCU : PySem.W.typeIn K (.ref CU) = some (.type "type"))
    (xCP : PySem.W.excIn K CP [.type "ValueError", .type "Exception", .type "BaseException", .type "object"] "ValueError.__new__" = true)
    (kCP : PySem.W.keepIn K (.ref CP) = true)
    (bCP : PySem.W.subIn K (.ref CP) (.type "BaseException") = some true)
    (tCP : PySem.W.typeIn K (.ref CP) = some (.type "type"))
    (xCK : PySem.W.excIn K CK [.type "ValueError", .type "Exception", .type "BaseException", .type "object"] "ValueError.__new__" = true)
    (kCK : PySem.W.keepIn K (.ref CK) = true)
    (bCK : PySem.W.subIn K (.ref CK) (.type "BaseException") = some true)
    (tCK : PySem.W.typeIn K (.ref CK) = some (.type "type"))
    (xCN : PySem.W.excIn K CN [.type "ValueError", .type "Exception", .type "BaseException", .type "object"] "ValueError.__new__" = true)
    (kCN : PySem.W.keepIn K (.ref CN) = true)
    (bCN : PySem.W.subIn K (.ref CN) (.type "BaseException") = some true)
    (tCN : PySem.W.typeIn K (.ref CN) = some (.type "type"))
    (jaCN : PySem.W.findIn K (.ref CN) "__class__" = some (some (.builtin "object.__class__")))
    (jmCN : PySem.W.mroIn K CN (.type "object") = some true)
    (jn : PySem.W.specialIn K (.builtin "object.__class__") "__get__" = some (some (.builtin "getset_descriptor.__get__")))
    (jt : PySem.W.takesIn K (.builtin "object.__class__") = some true)
    (hdCM : PySem.W.hasDictIn K CM = true)
    (ssCM : PySem.W.subIn K (.ref CM) (.ref CM) = some true)
    (hdCB : PySem.W.hasDictIn K CB = true)
    (ssCB : PySem.W.subIn K (.ref CB) (.ref CB) = some true)
    (hdCU : PySem.W.hasDictIn K CU = true)
    (ssCU : PySem.W.subIn K (.ref CU) (.ref CU) = some true)
    (hdCP : PySem.W.hasDictIn K CP = true)
    (ssCP : PySem.W.subIn K (.ref CP) (.ref CP) = some true)
    (hdCK : PySem.W.hasDictIn K CK = true)
    (ssCK : PySem.W.subIn K (.ref CK) (.ref CK) = some true)
    (hdCN : PySem.W.hasDictIn K CN = true)
    (ssCN : PySem.W.subIn K (.ref CN) (.ref CN) = some true)
    (gaCN : PySem.W.findIn K (.ref CN) "__getattribute__" = some (some (.builtin "BaseException.__getattribute__")))
    (gtCN : PySem.W.findIn K (.ref CN) "__getattr__" = some none)
    (sCN_CM : PySem.W.subIn K (.ref CN) (.ref CM) = some true)
    (sCN_CB : PySem.W.subIn K (.ref CN) (.ref CB) = some false)
    (sCN_CU : PySem.W.subIn K (.ref CN) (.ref CU) = some false)
    (sCN_CP : PySem.W.subIn K (.ref CN) (.ref CP) = some false)
    (sCN_CK : PySem.W.subIn K (.ref CN) (.ref CK) = some false)
    (a1 : PySem.W.findIn K (.ref C2) "shows" = some (some (.ref f1)))
    (i1 : PySem.W.isFn K (.ref f1) = true)
    (l1 : K.lookup f1 = some ⟨oc1, od1, .func (PySem.W.fnOf "shows" "Apart.shows" (defArgs s_Apart_shows) (defBody s_Apart_shows) (defScope s_Apart_shows) .none kV1 dc1 pm1 an1 cd1 ct1), sl1⟩)
    (c1 : PySem.W.codeIn K cd1 "Apart.shows" = true)
    (k1 : PySem.W.keepIn K (.ref f1) = true)
    (a2 : PySem.W.nsIn K mainGlobals "is_number" = some (some (.ref f2)))
    (l2 : K.lookup f2 = some ⟨oc2, od2, .func (PySem.W.fnOf "is_number" "is_number" (defArgs s_is_number) (defBody s_is_number) (defScope s_is_number) .none kV2 dc2 pm2 an2 cd2 ct2), sl2⟩)
    (c2 : PySem.W.codeIn K cd2 "is_number" = true)
    (k2 : PySem.W.keepIn K (.ref f2) = true)
    (a3 : PySem.W.nsIn K mainGlobals "all_sums" = some (some (.ref f3)))
    (l3 : K.lookup f3 = some ⟨oc3, od3, .func (PySem.W.fnOf "all_sums" "all_sums" (defArgs s_all_sums) (defBody s_all_sums) (defScope s_all_sums) .none kV3 dc3 pm3 an3 cd3 ct3), sl3⟩)
    (c3 : PySem.W.codeIn K cd3 "all_sums" = true)
    (k3 : PySem.W.keepIn K (.ref f3) = true)
    (a4 : PySem.W.nsIn K mainGlobals "rises" = some (some (.ref f4)))
    (l4 : K.lookup f4 = some ⟨oc4, od4, .func (PySem.W.fnOf "rises" "rises" (defArgs s_rises) (defBody s_rises) (defScope s_rises) .none kV4 dc4 pm4 an4 cd4 ct4), sl4⟩)
    (c4 : PySem.W.codeIn K cd4 "rises" = true)
    (k4 : PySem.W.keepIn K (.ref f4) = true)
    (a5 : PySem.W.nsIn K mainGlobals "check_marks" = some (some (.ref f5)))
    (l5 : K.lookup f5 = some ⟨oc5, od5, .func (PySem.W.fnOf "check_marks" "check_marks" (defArgs s_check_marks) (defBody s_check_marks) (defScope s_check_marks) .none kV5 dc5 pm5 an5 cd5 ct5), sl5⟩)
    (c5 : PySem.W.codeIn K cd5 "check_marks" = true)
    (k5 : PySem.W.keepIn K (.ref f5) = true)
    (a6 : PySem.W.nsIn K mainGlobals "behind" = some (some (.ref f6)))
    (l6 : K.lookup f6 = some ⟨oc6, od6, .func (PySem.W.fnOf "behind" "behind" (defArgs s_behind) (defBody s_behind) (defScope s_behind) .none kV6 dc6 pm6 an6 cd6 ct6), sl6⟩)
    (c6 : PySem.W.codeIn K cd6 "behind" = true)
    (k6 : PySem.W.keepIn K (.ref f6) = true)
    (a7 : PySem.W.nsIn K mainGlobals "_law_number" = some (some (.ref f7)))
    (l7 : K.lookup f7 = some ⟨oc7, od7, .func (PySem.W.fnOf "_law_number" "_law_number" (defArgs s_law_number) (defBody s_law_number) (defScope s_law_number) .none kV7 dc7 pm7 an7 cd7 ct7), sl7⟩)
    (c7 : PySem.W.codeIn K cd7 "_law_number" = true)
    (k7 : PySem.W.keepIn K (.ref f7) = true)
    (a8 : PySem.W.nsIn K mainGlobals "_law_whole" = some (some (.ref f8)))
    (l8 : K.lookup f8 = some ⟨oc8, od8, .func (PySem.W.fnOf "_law_whole" "_law_whole" (defArgs s_law_whole) (defBody s_law_whole) (defScope s_law_whole) .none kV8 dc8 pm8 an8 cd8 ct8), sl8⟩)
    (c8 : PySem.W.codeIn K cd8 "_law_whole" = true)
    (k8 : PySem.W.keepIn K (.ref f8) = true)
    (a9 : PySem.W.nsIn K mainGlobals "_law_marks" = some (some (.ref f9)))
    (l9 : K.lookup f9 = some ⟨oc9, od9, .func (PySem.W.fnOf "_law_marks" "_law_marks" (defArgs s_law_marks) (defBody s_law_marks) (defScope s_law_marks) .none kV9 dc9 pm9 an9 cd9 ct9), sl9⟩)
    (c9 : PySem.W.codeIn K cd9 "_law_marks" = true)
    (k9 : PySem.W.keepIn K (.ref f9) = true)
    (a10 : PySem.W.nsIn K mainGlobals "_law_apart" = some (some (.ref f10)))
    (l10 : K.lookup f10 = some ⟨oc10, od10, .func (PySem.W.fnOf "_law_apart" "_law_apart" (defArgs s_law_apart) (defBody s_law_apart) (defScope s_law_apart) .none kV10 dc10 pm10 an10 cd10 ct10), sl10⟩)
    (c10 : PySem.W.codeIn K cd10 "_law_apart" = true)
    (k10 : PySem.W.keepIn K (.ref f10) = true)
    (a11 : PySem.W.nsIn K mainGlobals "_law_kept" = some (some (.ref f11)))
    (l11 : K.lookup f11 = some ⟨oc11, od11, .func (PySem.W.fnOf "_law_kept" "_law_kept" (defArgs s_law_kept) (defBody s_law_kept) (defScope s_law_kept) .none kV11 dc11 pm11 an11 cd11 ct11), sl11⟩)
    (c11 : PySem.W.codeIn K cd11 "_law_kept" = true)
    (k11 : PySem.W.keepIn K (.ref f11) = true)
    (a12 : PySem.W.nsIn K mainGlobals "_law_right" = some (some (.ref f12)))
    (l12 : K.lookup f12 = some ⟨oc12, od12, .func (PySem.W.fnOf "_law_right" "_law_right" (defArgs s_law_right) (defBody s_law_right) (defScope s_law_right) .none kV12 dc12 pm12 an12 cd12 ct12), sl12⟩)
    (c12 : PySem.W.codeIn K cd12 "_law_right" = true)
    (k12 : PySem.W.keepIn K (.ref f12) = true)
    (a13 : PySem.W.nsIn K mainGlobals "_law_refused" = some (some (.ref f13)))
    (l13 : K.lookup f13 = some ⟨oc13, od13, .func (PySem.W.fnOf "_law_refused" "_law_refused" (defArgs s_law_refused) (defBody s_law_refused) (defScope s_law_refused) .none kV13 dc13 pm13 an13 cd13 ct13), sl13⟩)
    (c13 : PySem.W.codeIn K cd13 "_law_refused" = true)
    (k13 : PySem.W.keepIn K (.ref f13) = true)
    (a14 : PySem.W.nsIn K mainGlobals "law" = some (some (.ref f14)))
    (l14 : K.lookup f14 = some ⟨oc14, od14, .func (PySem.W.fnOf "law" "law" (defArgs s_law) (defBody s_law) (defScope s_law) .none kV14 dc14 pm14 an14 cd14 ct14), sl14⟩)
    (c14 : PySem.W.codeIn K cd14 "law" = true)
    (k14 : PySem.W.keepIn K (.ref f14) = true)
    (pgC2 : PySem.W.plainGet K C2 Str.empty = true)
    (hdC2 : PySem.W.hasDictIn K C2 = true)
    (poC2 : PySem.W.plainOver K C2 = true)
    (saC2 : PySem.W.findIn K (.ref C2) "__setattr__" = some (some (.builtin "object.__setattr__")))
    (mkC2 : PySem.W.makesIn K C2 = true)
    (kcC2 : PySem.W.keepIn K (.ref C2) = true)
    (oiC2 : PySem.W.findIn K (.ref C2) "__init__" = some (some (.builtin "object.__init__")))
    (z_len : PySem.W.nsIn K mainGlobals "len" = some none)
    (z_set : PySem.W.nsIn K mainGlobals "set" = some none)
    (z_isinstance : PySem.W.nsIn K mainGlobals "isinstance" = some none)
    (z_bool : PySem.W.nsIn K mainGlobals "bool" = some none)
    (z_int : PySem.W.nsIn K mainGlobals "int" = some none)
    (z_tuple : PySem.W.nsIn K mainGlobals "tuple" = some none)
    (z_enumerate : PySem.W.nsIn K mainGlobals "enumerate" = some none)
    (z_sum : PySem.W.nsIn K mainGlobals "sum" = some none)
    (z_sorted : PySem.W.nsIn K mainGlobals "sorted" = some none)
    (z_range : PySem.W.nsIn K mainGlobals "range" = some none)
    (z_list : PySem.W.nsIn K mainGlobals "list" = some none)
    (z_str : PySem.W.nsIn K mainGlobals "str" = some none)
    (z_abs : PySem.W.nsIn K mainGlobals "abs" = some none)
    (z_all : PySem.W.nsIn K mainGlobals "all" = some none)
    (z_any : PySem.W.nsIn K mainGlobals "any" = some none)
    (z_zip : PySem.W.nsIn K mainGlobals "zip" = some none)
    (z_max : PySem.W.nsIn K mainGlobals "max" = some none)
    (z_min : PySem.W.nsIn K mainGlobals "min" = some none)
    (z_reversed : PySem.W.nsIn K mainGlobals "reversed" = some none) :
    ∃ fd : FuncData, (∀ (s : Shared) (v : Value), BindsTo s fd ⟨[v], []⟩ [("_law_script", v)]) ∧ ∀ base : Heap, K.In base → base.Ns mainGlobals mg → FnOk l.prog w K mg base CX0 5 fa fd ["_law_script"] (spLaw K) := by
  have e := hfa.symm.trans (PySem.W.mg_of X G a14)
  cases e
  have F1 := fun_mk (st := s_Apart_shows) l1 c1 k1
  have b1 := F1.binds (ps := ["self", "marks"]) fun _ _ _ _ _ _ us hl => match us, hl with | [_, _], _ => rfl
  have F2 := fun_mk (st := s_is_number) l2 c2 k2
  have b2 := F2.binds (ps := ["found"]) fun _ _ _ _ _ _ us hl => match us, hl with | [_], _ => rfl
  have D_is_number : Dfn K mg "is_number" "is_number" s_is_number ["found"] _ _ := ⟨F2, PySem.W.mg_of X G a2, b2⟩
  have F3 := fun_mk (st := s_all_sums) l3 c3 k3
  have b3 := F3.binds (ps := ["marks"]) fun _ _ _ _ _ _ us hl => match us, hl with | [_], _ => rfl
  have D_all_sums : Dfn K mg "all_sums" "all_sums" s_all_sums ["marks"] _ _ := ⟨F3, PySem.W.mg_of X G a3, b3⟩
  have F4 := fun_mk (st := s_rises) l4 c4 k4
  have b4 := F4.binds (ps := ["numbers"]) fun _ _ _ _ _ _ us hl => match us, hl with | [_], _ => rfl
  have D_rises : Dfn K mg "rises" "rises" s_rises ["numbers"] _ _ := ⟨F4, PySem.W.mg_of X G a4, b4⟩
  have F5 := fun_mk (st := s_check_marks) l5 c5 k5
  have b5 := F5.binds (ps := ["marks"]) fun _ _ _ _ _ _ us hl => match us, hl with | [_], _ => rfl
  have D_check_marks : Dfn K mg "check_marks" "check_marks" s_check_marks ["marks"] _ _ := ⟨F5, PySem.W.mg_of X G a5, b5⟩
  have F6 := fun_mk (st := s_behind) l6 c6 k6
  have b6 := F6.binds (ps := ["marks"]) fun _ _ _ _ _ _ us hl => match us, hl with | [_], _ => rfl
  have D_behind : Dfn K mg "behind" "behind" s_behind ["marks"] _ _ := ⟨F6, PySem.W.mg_of X G a6, b6⟩
  have F7 := fun_mk (st := s_law_number) l7 c7 k7
  have b7 := F7.binds (ps := ["_law_cell", "_law_at", "_law_whole_here"]) fun _ _ _ _ _ _ us hl => match us, hl with | [_, _, _], _ => rfl
  have D_law_number : Dfn K mg "_law_number" "_law_number" s_law_number ["_law_cell", "_law_at", "_law_whole_here"] _ _ := ⟨F7, PySem.W.mg_of X G a7, b7⟩
  have F8 := fun_mk (st := s_law_whole) l8 c8 k8
  have b8 := F8.binds (ps := ["_law_number_here"]) fun _ _ _ _ _ _ us hl => match us, hl with | [_], _ => rfl
  have D_law_whole : Dfn K mg "_law_whole" "_law_whole" s_law_whole ["_law_number_here"] _ _ := ⟨F8, PySem.W.mg_of X G a8, b8⟩
  have F9 := fun_mk (st := s_law_marks) l9 c9 k9
  have b9 := F9.binds (ps := ["_law_script"]) fun _ _ _ _ _ _ us hl => match us, hl with | [_], _ => rfl
  have D_law_marks : Dfn K mg "_law_marks" "_law_marks" s_law_marks ["_law_script"] _ _ := ⟨F9, PySem.W.mg_of X G a9, b9⟩
  have F10 := fun_mk (st := s_law_apart) l10 c10 k10
  have b10 := F10.binds (ps := ["_law_marks_here"]) fun _ _ _ _ _ _ us hl => match us, hl with | [_], _ => rfl
  have D_law_apart : Dfn K mg "_law_apart" "_law_apart" s_law_apart ["_law_marks_here"] _ _ := ⟨F10, PySem.W.mg_of X G a10, b10⟩
  have F11 := fun_mk (st := s_law_kept) l11 c11 k11
  have b11 := F11.binds (ps := ["_law_marks_here"]) fun _ _ _ _ _ _ us hl => match us, hl with | [_], _ => rfl
  have D_law_kept : Dfn K mg "_law_kept" "_law_kept" s_law_kept ["_law_marks_here"] _ _ := ⟨F11, PySem.W.mg_of X G a11, b11⟩
  have F12 := fun_mk (st := s_law_right) l12 c12 k12
  have b12 := F12.binds (ps := ["_law_marks_here"]) fun _ _ _ _ _ _ us hl => match us, hl with | [_], _ => rfl
  have D_law_right : Dfn K mg "_law_right" "_law_right" s_law_right ["_law_marks_here"] _ _ := ⟨F12, PySem.W.mg_of X G a12, b12⟩
  have F13 := fun_mk (st := s_law_refused) l13 c13 k13
  have b13 := F13.binds (ps := ["_law_marks_here"]) fun _ _ _ _ _ _ us hl => match us, hl with | [_], _ => rfl
  have D_law_refused : Dfn K mg "_law_refused" "_law_refused" s_law_refused ["_law_marks_here"] _ _ := ⟨F13, PySem.W.mg_of X G a13, b13⟩
  have F14 := fun_mk (st := s_law) l14 c14 k14
  have b14 := F14.binds (ps := ["_law_script"]) fun _ _ _ _ _ _ us hl => match us, hl with | [_], _ => rfl
  have D_law : Dfn K mg "law" "law" s_law ["_law_script"] _ _ := ⟨F14, PySem.W.mg_of X G a14, b14⟩
  have clC2 : Cls K C2 := ⟨pgC2, hdC2, poC2, saC2⟩
  have X_MarkError : XC K mg "MarkError" CM := ⟨xCM, PySem.W.mg_of X G aCM, kCM, bCM, tCM⟩
  have X_BadMarks : XC K mg "BadMarks" CB := ⟨xCB, PySem.W.mg_of X G aCB, kCB, bCB, tCB⟩
  have X_BadNumber : XC K mg "BadNumber" CU := ⟨xCU, PySem.W.mg_of X G aCU, kCU, bCU, tCU⟩
  have X_BadPrime : XC K mg "BadPrime" CP := ⟨xCP, PySem.W.mg_of X G aCP, kCP, bCP, tCP⟩
  have X_NoMark : XC K mg "NoMark" CK := ⟨xCK, PySem.W.mg_of X G aCK, kCK, bCK, tCK⟩
  have X_NotApart : XC K mg "NotApart" CN := ⟨xCN, PySem.W.mg_of X G aCN, kCN, bCN, tCN⟩
  have isCN : IsC K CN := ⟨jaCN, jn, jt, jmCN⟩
  have g_MOST_MARKS := PySem.W.mg_of X G cn_MOST_MARKS
  have T : Tx mg := ⟨PySem.W.mg_none_of X G z_len, PySem.W.mg_none_of X G z_set, PySem.W.mg_none_of X G z_isinstance, PySem.W.mg_none_of X G z_bool, PySem.W.mg_none_of X G z_int, PySem.W.mg_none_of X G z_tuple, PySem.W.mg_none_of X G z_enumerate, PySem.W.mg_none_of X G z_sum, PySem.W.mg_none_of X G z_sorted, PySem.W.mg_none_of X G z_range, PySem.W.mg_none_of X G z_list, PySem.W.mg_none_of X G z_str, PySem.W.mg_none_of X G z_abs, PySem.W.mg_none_of X G z_all, PySem.W.mg_none_of X G z_any, PySem.W.mg_none_of X G z_zip, PySem.W.mg_none_of X G z_max, PySem.W.mg_none_of X G z_min, PySem.W.mg_none_of X G z_reversed⟩
  exact ⟨PySem.W.fnOf "law" "law" (defArgs s_law) (defBody s_law) (defScope s_law) .none kV14 dc14 pm14 an14 cd14 ct14, fun s v => .of_eq rfl, fun base _ _ => ok_law D_law T D_law_marks D_law_number D_law_apart D_law_refused D_law_kept D_law_right D_behind (ok_behind D_behind T ⟨mkC2, oiC2, kcC2⟩ (PySem.W.mg_of X G aC2) clC2 ⟨a1, i1, k1⟩ F1 b1 D_all_sums D_check_marks X_BadMarks X_NotApart g_MOST_MARKS D_is_number D_rises) (ok_refused D_law_refused T D_behind (ok_behind D_behind T ⟨mkC2, oiC2, kcC2⟩ (PySem.W.mg_of X G aC2) clC2 ⟨a1, i1, k1⟩ F1 b1 D_all_sums D_check_marks X_BadMarks X_NotApart g_MOST_MARKS D_is_number D_rises) X_MarkError X_BadMarks X_BadNumber X_BadPrime X_NoMark X_NotApart ⟨⟨gaCN, gtCN, bCN, hdCN, jaCN, jn, jt, jmCN⟩, PySem.W.exm_ref bCM hdCM tCM sCN_CM, kit_own hdCB tCB sCN_CB ssCB, kit_own hdCU tCU sCN_CU ssCU, kit_own hdCP tCP sCN_CP ssCP, kit_own hdCK tCK sCN_CK ssCK, kit_own hdCN tCN ssCN ssCN⟩) (ok_right D_law_right T D_behind (ok_behind D_behind T ⟨mkC2, oiC2, kcC2⟩ (PySem.W.mg_of X G aC2) clC2 ⟨a1, i1, k1⟩ F1 b1 D_all_sums D_check_marks X_BadMarks X_NotApart g_MOST_MARKS D_is_number D_rises) D_law_whole D_law_apart)⟩
end K4
open PySem PySem.W PyProof.Rows
set_option maxRecDepth 100000 in
set_option maxHeartbeats 0 in
theorem PySem.Challenge.cw_sumsapart_k04_whole_behind_holds : PySem.Challenge.rw_sumsapart_k04_whole_behind.Holds := by
  w_on; o_law; k_head; (case hw => w_witness2)
  k_fill
  refine L2.walk_ofB (l := PySem.Challenge.rw_sumsapart_k04_whole_behind) (n := 63) (k := 5) (x := "_law_script") (CX := fun _ => L2.CX0) (sp := fun w => K4.spLaw _) rfl (by decide) rfl ⟨rfl, by decide, by decide⟩ (fun w h Y => PySem.W.kIn_of Y) ?F (fun _ _ a ns hl hb _ hS => ⟨a, ns, rfl, hS, hl, hb, fun _ => rfl⟩) (fun _ _ _ _ _ h => h)
  case F =>
    intro w mg fa h KX G hmg
    refine' K4.all_mk KX G hmg ?aC2 ?aCM ?aCB ?aCU ?aCP ?aCK ?aCN ?cn_MOST_MARKS ?xCM ?kCM ?bCM ?tCM ?xCB ?kCB ?bCB ?tCB ?xCU ?kCU ?bCU ?tCU ?xCP ?kCP ?bCP ?tCP ?xCK ?kCK ?bCK ?tCK ?xCN ?kCN ?bCN ?tCN ?jaCN ?jmCN ?jn ?jt ?hdCM ?ssCM ?hdCB ?ssCB ?hdCU ?ssCU ?hdCP ?ssCP ?hdCK ?ssCK ?hdCN ?ssCN ?gaCN ?gtCN ?sCN_CM ?sCN_CB ?sCN_CU ?sCN_CP ?sCN_CK ?a1 ?i1 ?l1 ?c1 ?k1 ?a2 ?l2 ?c2 ?k2 ?a3 ?l3 ?c3 ?k3 ?a4 ?l4 ?c4 ?k4 ?a5 ?l5 ?c5 ?k5 ?a6 ?l6 ?c6 ?k6 ?a7 ?l7 ?c7 ?k7 ?a8 ?l8 ?c8 ?k8 ?a9 ?l9 ?c9 ?k9 ?a10 ?l10 ?c10 ?k10 ?a11 ?l11 ?c11 ?k11 ?a12 ?l12 ?c12 ?k12 ?a13 ?l13 ?c13 ?k13 ?a14 ?l14 ?c14 ?k14 ?pgC2 ?hdC2 ?poC2 ?saC2 ?mkC2 ?kcC2 ?oiC2 ?z_len ?z_set ?z_isinstance ?z_bool ?z_int ?z_tuple ?z_enumerate ?z_sum ?z_sorted ?z_range ?z_list ?z_str ?z_abs ?z_all ?z_any ?z_zip ?z_max ?z_min ?z_reversed
    (case aC2 => k_is); (case aCM => k_is); (case aCB => k_is); (case aCU => k_is); (case aCP => k_is); (case aCK => k_is); (case aCN => k_is); (case cn_MOST_MARKS => k_is); (case xCM => k_exc); (case kCM => k_is); (case bCM => k_is); (case tCM => k_is); (case xCB => k_exc); (case kCB => k_is); (case bCB => k_is); (case tCB => k_is); (case xCU => k_exc); (case kCU => k_is); (case bCU => k_is); (case tCU => k_is); (case xCP => k_exc); (case kCP => k_is); (case bCP => k_is); (case tCP => k_is); (case xCK => k_exc); (case kCK => k_is); (case bCK => k_is); (case tCK => k_is); (case xCN => k_exc); (case kCN => k_is); (case bCN => k_is); (case tCN => k_is); (case jaCN => k_is); (case jmCN => k_is); (case jn => k_is); (case jt => k_is); (case hdCM => k_is); (case ssCM => k_is); (case hdCB => k_is); (case ssCB => k_is); (case hdCU => k_is); (case ssCU => k_is); (case hdCP => k_is); (case ssCP => k_is); (case hdCK => k_is); (case ssCK => k_is); (case hdCN => k_is); (case ssCN => k_is); (case gaCN => k_is); (case gtCN => k_is); (case sCN_CM => k_is); (case sCN_CB => k_is); (case sCN_CU => k_is); (case sCN_CP => k_is); (case sCN_CK => k_is); (case a1 => k_is); (case i1 => k_is); (case l1 => k_is); (case c1 => k_is); (case k1 => k_is); (case a2 => k_is); (case l2 => k_is); (case c2 => k_is); (case k2 => k_is); (case a3 => k_is); (case l3 => k_is); (case c3 => k_is); (case k3 => k_is); (case a4 => k_is); (case l4 => k_is); (case c4 => k_is); (case k4 => k_is); (case a5 => k_is); (case l5 => k_is); (case c5 => k_is); (case k5 => k_is); (case a6 => k_is); (case l6 => k_is); (case c6 => k_is); (case k6 => k_is); (case a7 => k_is); (case l7 => k_is); (case c7 => k_is); (case k7 => k_is); (case a8 => k_is); (case l8 => k_is); (case c8 => k_is); (case k8 => k_is); (case a9 => k_is); (case l9 => k_is); (case c9 => k_is); (case k9 => k_is); (case a10 => k_is); (case l10 => k_is); (case c10 => k_is); (case k10 => k_is); (case a11 => k_is); (case l11 => k_is); (case c11 => k_is); (case k11 => k_is); (case a12 => k_is); (case l12 => k_is); (case c12 => k_is); (case k12 => k_is); (case a13 => k_is); (case l13 => k_is); (case c13 => k_is); (case k13 => k_is); (case a14 => k_is); (case l14 => k_is); (case c14 => k_is); (case k14 => k_is); (case pgC2 => k_is); (case hdC2 => k_is); (case poC2 => k_is); (case saC2 => k_is); (case mkC2 => k_is); (case kcC2 => k_is); (case oiC2 => k_is); (case z_len => k_is); (case z_set => k_is); (case z_isinstance => k_is); (case z_bool => k_is); (case z_int => k_is); (case z_tuple => k_is); (case z_enumerate => k_is); (case z_sum => k_is); (case z_sorted => k_is); (case z_range => k_is); (case z_list => k_is); (case z_str => k_is); (case z_abs => k_is); (case z_all => k_is); (case z_any => k_is); (case z_zip => k_is); (case z_max => k_is); (case z_min => k_is); (case z_reversed => k_is)
