import PyProof.Rows.All
import Wide.All
import OpenK.AllK
import Wide.FinOn
import HandS.ForMost
import HandS.ForExc
import HandS.Strs
import HandS.SetFor
import HandS.SetKeys
import HandS.TupAny
import HandS.Style
import HandS.Gcd
import HandS.Wide
import HandS.IsInst
import HandS.Conv
import HandS.Flow
import PyProof.ReprRoads
import HandS.More
import PyProof.ReprLen
import PySem.Challenge.RW_rimorders_k07_whole_marks_in_arcs
set_option Elab.async false
set_option linter.all false
set_option maxRecDepth 100000
set_option maxHeartbeats 4000000
/-! general rules of mine: repr of data, set of a list of ints, t[:0:-1] -/
namespace Gn
open PySem PySem.Spec PyProof.Rows L2
section
variable {X : Cx}
/-! repr of lists and tuples -/
mutual
theorem dp_nodict {K : PySem.W.Frag} {H : Hp} : ∀ (d : PyData) (v : V), Dp K H v d → d.hasDict = false
  | .none, _, _ => by simp only [PyData.hasDict]
  | .bool _, _, _ => by simp only [PyData.hasDict]
  | .int _, _, _ => by simp only [PyData.hasDict]
  | .str _, _, _ => by simp only [PyData.hasDict]
  | .list ds, _, h => by
    cases h with
    | lst _ ha => simp only [PyData.hasDict]; exact dps_nodict ds _ ha
  | .tuple ds, _, h => by
    cases h with
    | tup _ ha => simp only [PyData.hasDict]; exact dps_nodict ds _ ha
  | .dict _, _, h => by cases h
theorem dps_nodict {K : PySem.W.Frag} {H : Hp} : ∀ (ds : List PyData) (vs : List V), DpAll K H vs ds → PyData.hasDictAll ds = false
  | [], _, _ => by simp only [PyData.hasDictAll]
  | d :: ds, _, h => by
    cases h with
    | cons h1 h2 => simp only [PyData.hasDictAll, dp_nodict d _ h1, dps_nodict ds _ h2, Bool.or_self]
end
/-- repr(x), x a list or a tuple of data -/
def rRepr (K : PySem.W.Frag) : List V → Hp → VK → Prop := fun xs H Q => ∃ a d, xs = [V.ref a] ∧ Dp K H (.ref a) d ∧ d.showable = true ∧ d.depth < 60 ∧ d.shown.length ≤ sizeLine ∧ Q (.str d.shown) H
theorem cr_repr (hg : X.A.guards = some []) (hu : X.A.units + 64 < cLine) : CallR X (.builtin "repr") (rRepr X.K) := by
  intro pins s σ H xs us Q I r h
  obtain ⟨a, d, rfl, hd, hs, hdp, hz, q⟩ := h
  rw [Vals.ref1 r]
  obtain ⟨as, rd⟩ := Dp.reads I d _ _ hd rfl
  exact repr_of_reads' rd hs (PySem.PyData.noDict_hsm (dp_nodict d _ hd)) hg (by omega) (fun _ _ e => e) (fun h' u tk k => ⟨.str d.shown, H, I.kept (t' := tk) k, ⟨u, rfl⟩, q⟩) hz
end
end Gn
set_option Elab.async false
set_option linter.all false
set_option maxRecDepth 100000
set_option maxHeartbeats 4000000
namespace Gn
open PySem PySem.Spec PyProof.Rows L2
/-- the empty set object as the machine lays it -/
abbrev eSet (w : World) : Obj := { cls := .type "set", dict := none, data := .set #[] 0 (.fresh 0 0 (!w.params.followText "set-order")) }
section
variable {P : Program} {w : World} {A : Around} {E : Value → Shared → Prop} {s : Shared}
/-- what the init leaves: a set of the ints ns at S, no older object changed -/
abbrev Filled (w : World) (ns : List Int) (s0 : Shared) (S : Addr) (s2 : Shared) : Prop := ∃ (h' : Heap) (tk c : Nat), s2 = { s0 with heap := h', toks := tk } ∧ SetR w h' S (fun j => decide (j ∈ ns)) c ∧ c ≤ ns.length ∧ ∀ b o, s0.heap.get? b = some o → h'.get? b = some o
set_option maxHeartbeats 6000000 in
/-- set(l), l a list of ints -/
theorem set_of_ints {l : Addr} {its : Array Value} (ns : List Int) {Q : Value → Shared → Prop} (hh : A.handled = none) (hl : s.heap.IsList l its) (hi : IntsAre its.toList ns) (hb : ns.length + 1 < scanBound)
    (h : ∀ s2, Filled w ns s s.heap.objs.size s2 → Q (.ref s.heap.objs.size) s2) : wpAny (model P w) A (call (.type "set") [.ref l]) Q E s := by
  have hN : its.size = ns.length := by have q := IntsAre.length hi; rw [Array.length_toList] at q; exact q
  obtain ⟨c, tl, hmro⟩ := F.called_set.mro; have hmade := F.called_set.made; have hsub := F.called_set.sub
  refine wpAny_call (codeAny_of_tree ?_); show wpAny _ _ (callAny (.type "set") _) _ _ _
  refine wpAny_pure ⟨Code.quiet_builtin _ (by decide +kernel), codeAny_builtin F.entry_type_call ?_⟩; rw [Around.under_plain (weight_type_call_type "set" [.ref l] []) rfl]
  have h1 := F.called_set.notType; have h2 := F.called_set.canCreate; have hct := F.typeCall_set_1 (.ref l)
  repeat (any_goals (first | assumption | wp_step))
  refine codeAny_mono (code_set_led1 (.ref l) (E := E) (Q₁ := fun v z => v = .ref s.heap.objs.size ∧ z = { s with heap := s.heap.push (eSet w) }) ⟨rfl, rfl⟩) fun r z hr => ?_
  cases r with
  | error e => exact hr
  | ok fl =>
    cases fl with
    | ret obj =>
      obtain ⟨rfl, rfl⟩ := hr
      have hS : (s.heap.push (eSet w)).get? s.heap.objs.size = some (eSet w) := Heap.get?_push_size _ rfl
      have hT : Shared.TypeIs { s with heap := s.heap.push (eSet w) } (.ref s.heap.objs.size) "set" := ⟨_, hS, rfl⟩
      have hli := F.called_set.init.lookup; have hbi := F.called_set.init.bind (.ref s.heap.objs.size)
      repeat (any_goals (first | assumption | wp_step))
      refine codeAny_mono (codeAny_call_builtin (R := wants (fun r z => r = .none ∧ Filled w ns s s.heap.objs.size z) E) F.called_set.init.plain F.entry_set_init (check_set_init_1 hT ?_)) fun r2 z2 hr2 => ?_
      · obtain ⟨⟨lc, ld, lx, ls⟩, hol, hcl, nl, hdl⟩ := hl
        simp only at hcl hdl
        subst hcl; subst hdl
        have hol' : (s.heap.push (eSet w)).get? l = some { cls := .type "list", dict := ld, data := .seq its nl, slots := ls } := Heap.get?_push_of_some _ hol
        have hsls := F.sub_list_set; have hslf := F.sub_list_frozenset; have hne : (Value.type "list" == Value.type "dict") = false := by decide
        have hl1 : (s.heap.push (eSet w)).IsList l its := ⟨_, hol', rfl, nl, rfl⟩
        unfold Builtin.«set.__init__» noKeywords Builtin.Frozenset.updateFrom
        generalize hPI : pyIter = PI
        wp_walk
        subst hPI
        refine wpAny_pyIter_list hl1 (wpAny_bind (wpAny_runValue ?_))
        have hlS : l < s.heap.objs.size := Heap.lt_size hol
        have h3 : A.in1.in1.in1.handled = none := by simp [hh]
        have z1 : (s.heap.push (eSet w)).objs.size = s.heap.objs.size + 1 := Heap.size_push ..
        have nI : l ≠ (s.heap.push (eSet w)).objs.size := by rw [z1]; exact Nat.ne_of_lt (Nat.lt_succ_of_lt hlS)
        have nF : s.heap.objs.size ∉ [(s.heap.push (eSet w)).objs.size, l] := by
          rw [z1]; intro q; rcases List.mem_cons.mp q with q | q
          · exact Nat.succ_ne_self _ q.symm
          · exact Nat.ne_of_gt hlS (List.mem_singleton.mp q)
        have hval : ∀ (i : Nat) (v : Value), its[i]? = some v → ∃ k t, ns[i]? = some k ∧ v = .int k t := fun i v hv => by
          have hil : i < ns.length := by rw [← hN]; exact (Array.getElem?_eq_some_iff.mp hv).1
          obtain ⟨t, e⟩ := IntsAre.int_at hi i v (by rw [Array.getElem?_toList]; exact hv)
          exact ⟨ns[i], t, List.getElem?_eq_getElem hil, by rw [e, List.getD_eq_getElem?_getD, List.getElem?_eq_getElem hil] <;> rfl⟩
        refine set_update_ints ((Walks.list h3 _ l nI its).toS) s.heap.objs.size nF ns hN hb hval (its.size - 0) 0 _ (by omega) (Nat.zero_le _) ⟨⟨_, Heap.get?_push_size _ rfl, rfl, rfl⟩, (hl1.push _)⟩ ⟨0, Nat.le_refl 0, setR_new_at (Heap.get?_push_of_some _ hS)⟩ ?_
        intro z' c' hm hc' hS'
        obtain ⟨h', g2, d', tk', os'⟩ := z'
        obtain rfl : g2 = s.gens := hm.gens
        obtain rfl : d' = s.drawn := hm.drawn
        obtain rfl : os' = s.os := hm.os
        show wpAny _ _ _ _ _ _
        refine wpAny_pure ?_; show wpAny _ _ (ret Value.none) _ _ _; rw [hN] at hc'
        refine wpAny_pure ⟨rfl, h', tk', c', rfl, hS', hc', fun b o e => ?_⟩
        have hb0 : b < s.heap.objs.size := Heap.lt_size e
        refine hm.heap b o (fun q => ?_) (Heap.get?_push_of_some _ (Heap.get?_push_of_some _ e))
        rcases List.mem_cons.mp q with q | q
        · exact Nat.ne_of_lt hb0 q
        · exact Nat.ne_of_lt (Nat.lt_succ_of_lt hb0) ((List.mem_singleton.mp q).trans z1)
      · cases r2 with
        | error e => exact hr2
        | ok fl2 =>
          cases fl2 with
          | ret r =>
            obtain ⟨rfl, h', tk, c', rfl, hS', hc', hk'⟩ := hr2
            repeat (any_goals (first | assumption | wp_step))
            exact h _ ⟨_, _, _, rfl, hS', hc', hk'⟩
          | _ => exact hr2.elim
    | _ => exact hr.elim
end
section
variable {X : Cx}
/-- set(l) of a list of fewer than 64 ints -/
def rSetI (K : PySem.W.Frag) (w : World) : List V → Hp → VK → Prop := fun xs H Q => ∃ (l : Addr) (ns : List Int), xs = [.ref l] ∧ SqL K H l (ns.map V.int) ∧ ns.length < 64 ∧ ∀ p c, H p = none → c ≤ ns.length → Q (.ref p) (upd H p (SetO w p (fun j => decide (j ∈ ns)) c))
theorem cr_setI (hc : X.calm = true) : CallR X (.type "set") (rSetI X.K X.w) := by
  intro pins s σ H xs us Q I r h
  obtain ⟨l, ns, rfl, hl, hf, q⟩ := h
  rw [Vals.ref1 r]
  obtain ⟨its, rv, pl, hz⟩ := I.list hl
  refine set_of_ints ns (I.ok.hd hc) pl.isList (by simpa using intsAre_of rv) (by unfold scanBound; omega) fun s2 hs => ?_
  obtain ⟨h', tk, c, rfl, hS, hcn, k⟩ := hs
  exact ⟨.ref s.heap.objs.size, _, I.laid (t' := tk) k (Nat.le_refl _) (setO_new hS), rfl, q _ c (I.hok.fresh (Nat.le_refl _)) hcn⟩
end
end Gn
set_option Elab.async false
set_option linter.all false
set_option maxRecDepth 100000
set_option maxHeartbeats 4000000
namespace Gn
open PySem PySem.Spec PyProof.Rows L2
/-! t[:0:-1], t a tuple -/
theorem back_adjust (n : Nat) : Builtin.Slice.slicePlaces (Builtin.Slice.sliceAdjust none (some 0) (-1) (n : Int)).1 (Builtin.Slice.sliceAdjust none (some 0) (-1) (n : Int)).2 (-1) = n - 1 ∧ (Builtin.Slice.sliceAdjust none (some 0) (-1) (n : Int)).1 = (n : Int) - 1 := by
  have a : (Builtin.Slice.sliceAdjust none (some 0) (-1) (n : Int)) = ((n : Int) - 1, min 0 ((n : Int) - 1)) := by
    simp only [Builtin.Slice.sliceAdjust, show ((-1 : Int) < 0) = True by decide, show ((0 : Int) < 0) = False by decide, if_true, if_false]
  rw [a]
  refine ⟨?_, rfl⟩
  unfold Builtin.Slice.slicePlaces
  simp only [show ((-1 : Int) > 0) = False by decide, if_false, show (-(-1) : Int) = 1 by decide, Int.ediv_one]
  split <;> omega
theorem back_pick (xs : Array Value) : ((List.range (xs.size - 1)).filterMap fun (m : Nat) => xs[(((xs.size : Nat) : Int) - 1 + (m : Int) * (-1)).toNat]?).toArray = (xs.toList.drop 1).reverse.toArray := by
  congr 1
  have g : ∀ k, k ≤ xs.size - 1 → ((List.range k).filterMap fun (m : Nat) => xs[(((xs.size : Nat) : Int) - 1 + (m : Int) * (-1)).toNat]?) = ((xs.toList.drop 1).reverse).take k := by
    intro k
    induction k with
    | zero => intro _; rfl
    | succ k ih =>
      intro hk
      have i1 : (((xs.size : Nat) : Int) - 1 + (k : Int) * (-1)).toNat = xs.size - 1 - k := by omega
      have i2 : xs.size - 1 - k < xs.size := by omega
      have hl : k < (xs.toList.drop 1).reverse.length := by rw [List.length_reverse, List.length_drop, Array.length_toList]; omega
      rw [List.range_succ, List.filterMap_append, ih (by omega), List.take_add_one, List.getElem?_eq_getElem hl]
      congr 1
      simp only [List.filterMap_cons, List.filterMap_nil, i1, Array.getElem?_eq_getElem i2, Option.toList]
      congr 1
      rw [List.getElem_reverse, List.getElem_drop]
      simp only [List.length_drop, Array.length_toList, Array.getElem_toList]
      congr 1
      omega
  rw [g _ (Nat.le_refl _)]
  refine List.take_of_length_le ?_
  rw [List.length_reverse, List.length_drop, Array.length_toList]
  exact Nat.le_refl _
section
variable {prog : Program} {w : World} {A : Around} {E : Value → Shared → Prop} {s : Shared}
theorem back_item {t sl : Addr} {its : Array Value} {vl vu vs : Value} {Q : Value → Shared → Prop} (ht : IsTup s.heap t its) (hs : s.heap.IsSliceOf sl vl vu vs) (pl : IsPart vl none) (pu : IsPart vu (some 0)) (ps : IsPart vs (some (-1)))
    (h : Q (.ref s.heap.objs.size) { s with heap := s.heap.push { cls := .type "tuple", data := .seq (its.toList.drop 1).reverse.toArray } }) (hz : its.size ≤ sizeLine) : wpAny (model prog w) A (getItem (.ref t) (.ref sl)) Q E s := by
  have hfit : sizeOk (.seq (its.toList.drop 1).reverse.toArray) := by
    show ((its.toList.drop 1).reverse).toArray.size ≤ sizeLine
    rw [List.size_toArray, List.length_reverse, List.length_drop, Array.length_toList]; omega
  obtain ⟨os, hos, hcs, hds⟩ := id hs
  unfold getItem
  try with_reducible refine wpAny_holding ?_
  first | refine wpAny_bind (wpAny_pure ?_) | skip
  refine wpAny_bind (wpAny_sequenceKey ht.typeIs (by decide) (wpAny_bind (wpAny_callSpecial?_slot (name := Str.ofString "__getitem__") ht.typeIs PyProof.Rows.slot_tuple_getitem (wpAny_call_entry PyProof.Rows.slot_tuple_getitem ht.typeIs PyProof.Rows.entry_tuple_getitem ?_ (PyProof.Rows.args_tuple_getitem _ _)))))
  show wpAny _ _ (Builtin.Tuple.tupleItemsOf (.ref t) >>= _) _ _ s
  refine wpAny_bind (PyProof.Rows.tupleItemsOf_ ht (wpAny_bind (wpAny_typeOf (show s.TypeIs (.ref sl) "slice" from ⟨os, hos, hcs⟩) ?_)))
  rw [if_pos (by decide)]
  refine wpAny_bind ?_
  unfold Builtin.Slice.sliceApplied Builtin.Slice.sliceFields
  refine wpAny_bind (wpAny_bind (wpAny_field hos hds (x := vl) rfl (wpAny_bind (wpAny_field hos hds (x := vu) rfl (wpAny_bind (wpAny_field hos hds (x := vs) rfl (wpAny_pure (wpAny_bind (HT.slicePart_ ps ?_)))))))))
  show wpAny _ _ (if ((-1 : Int) == 0) = true then _ else _) _ _ s
  rw [if_neg (by decide)]
  refine wpAny_bind (HT.slicePart_ pl (wpAny_bind (HT.slicePart_ pu (wpAny_bind (wpAny_pure ?_)))))
  have e1 := (back_adjust its.size).1
  have e2 := (back_adjust its.size).2
  show wpAny _ _ (pure ((Builtin.Slice.sliceAdjust none (some 0) (-1) (its.size : Int)).1, (-1 : Int), Builtin.Slice.slicePlaces (Builtin.Slice.sliceAdjust none (some 0) (-1) (its.size : Int)).1 (Builtin.Slice.sliceAdjust none (some 0) (-1) (its.size : Int)).2 (-1))) _ _ s
  rw [e1, e2]
  refine wpAny_pure ?_
  have no : ¬ ((((its.size : Nat) : Int) - 1 == 0 && (-1 : Int) == 1 && (its.size - 1) == its.size) = true) := by
    rw [show ((-1 : Int) == 1) = false by decide]; simp
  show wpAny _ _ (if ((((its.size : Nat) : Int) - 1 == 0 && (-1 : Int) == 1 && (its.size - 1) == its.size) = true) then _ else _) _ _ s
  rw [if_neg no, back_pick]
  first
    | exact wpAny_bind (m := Builtin.Tuple.tupleExact _) (wpAny_newObj_type (wpAny_pure ⟨_, rfl, wpAny_pure h⟩) hfit)
    | exact wpAny_bind (wpAny_bind (m := Builtin.Tuple.tupleExact _) (wpAny_newObj_type (wpAny_pure ⟨_, rfl, wpAny_pure h⟩) hfit))
    | exact wpAny_bind (wpAny_bind (m := Builtin.Tuple.tupleExact _) (wpAny_newObj_type (wpAny_pure (wpAny_pure ⟨_, rfl, wpAny_pure h⟩)) hfit))
end
def tBack (K : PySem.W.Frag) (te : TE) : TE := fun σ H Q => te σ H fun x H1 => ∃ a xs, x = .ref a ∧ SqT K H1 a xs ∧ ∀ p, H1 p = none → Q (.ref p) (upd H1 p (.tup (xs.drop 1).reverse))
section
variable {X : Cx}
theorem pe_back {e : Expr} {te : TE} {k k0 : Nat} {p0 p1 p2 p3 pos : Pos} (he : PE X e te) : PE X (.Subscript e (.Slice none (some (.Constant (.int 0) k0 p0)) (some (.UnaryOp .USub (.Constant (.int 1) k p1) p2)) p3) pos) (tBack X.K te) := by
  refine ⟨fun pins s σ H Q I h => ?_⟩
  refine Subscript_ (thn (he.run pins s σ H _ I h) fun v s1 ⟨x, H1, I1, r1, q1⟩ => ?_)
  obtain ⟨a, xs, ex, hx, q⟩ := q1
  subst ex
  cases r1
  have hup : PO X (some (.Constant (.int 0) k0 p0)) (tPart (tC (.int 0))) := po_some pe_int
  have hst : PO X (some (.UnaryOp .USub (.Constant (.int 1) k p1) p2)) (tPart (tUn (rU fun i => .int (-i)) (tC (.int 1)))) := po_some (pe_un un_neg pe_int)
  refine wpAny_Slice (thn (po_none.run pins s1 σ H1 (fun o H2 => o = none ∧ H2 = H1) I1 ⟨rfl, rfl⟩) fun vl s2 ⟨l, H2, I2, pl, el, e2⟩ => ?_)
  subst el e2
  refine thn (hup.run pins s2 σ H2 (fun o H3 => o = some 0 ∧ H3 = H2) I2 ⟨0, rfl, rfl, rfl⟩) fun vu s3 ⟨u, H3, I3, pu, eu, e3⟩ => ?_
  subst eu e3
  refine thn (hst.run pins s3 σ H3 (fun o H4 => o = some (-1) ∧ H4 = H3) I3 ⟨1, rfl, -1, rfl, rfl, rfl⟩) fun vs s4 ⟨o, H4, I4, ps, eo, e4⟩ => ?_
  subst eo e4
  have I5 : Inv X pins σ H4 { s4 with heap := s4.heap.push { cls := .type "slice", data := .fields #[vl, vu, vs] } } := I4.kept (t' := s4.toks) fun b ob q => Heap.get?_push_of_some _ q
  obtain ⟨its, r, ht, hz⟩ := I5.tuple hx
  have hlen := r.length
  show wpAny (model X.prog X.w) X.A (subscriptTail e (.Slice none (some (.Constant (.int 0) k0 p0)) (some (.UnaryOp .USub (.Constant (.int 1) k p1) p2)) p3) (.ref a) (.ref s4.heap.objs.size)) (EP X pins σ Q) X.xe { s4 with heap := s4.heap.push { cls := .type "slice", data := .fields #[vl, vu, vs] } }
  refine tail_any (ops := [.ref a, .ref s4.heap.objs.size]) ht.typeIs (PyProof.Rows.slot_tuple_getitem.lookup) ?_ (by with_unfolding_all rfl)
  refine back_item ht (Heap.IsSliceOf.new _ vl vu vs) pl pu ps ?_ (by rw [List.size_toArray]; omega)
  refine ⟨.ref _, _, I5.laid (t' := s4.toks) (o := .tup (xs.drop 1).reverse) (fun b ob q => Heap.get?_push_of_some _ q) (Nat.le_refl _) ?_, rfl, q _ (I5.hok.fresh (Nat.le_refl _))⟩
  exact ⟨by rw [List.length_reverse, List.length_drop]; omega, _, (Vals.drop 1 r).reverse, ⟨_, Heap.get?_push_size _ rfl, rfl, _, rfl⟩⟩
end
end Gn
set_option Elab.async false
set_option linter.all false
set_option maxRecDepth 100000
set_option maxHeartbeats 4000000
namespace Gn
open PySem PySem.Spec PyProof.Rows L2
/-- a def's promise where no repr runs around (the guards are known to be none) -/
structure FnG (P : Program) (w : World) (K : PySem.W.Frag) (mg : Str → Option Value) (base : Heap) (CX : CXT) (k : Nat) (f : Addr) (fd : FuncData) (ps : List Str) (sp : Sp) : Prop where
  len : ∀ vs H Q E, sp vs H Q E → vs.length = ps.length
  run : ∀ (A : Around) (outer : List Env) (s : Shared) (H : Hp) (args : Args) (us : List Value) (vs : List V) (Q : VK) (E : XK), A.guards = some [] → Room k A → Env0 P w K mg base A outer s H → BindsTo s fd args (ps.zip us) → Vals vs us → sp vs H Q E →
    codeAny (model P w) A (.call (.ref f) args) (CR CX outer P w H s Q E) s
section
variable {P : Program} {w : World} {K : PySem.W.Frag} {mg : Str → Option Value} {base : Heap}
theorem FnG.of {CX : CXT} {k : Nat} {f : Addr} {fd : FuncData} {ps : List Str} {sp : Sp} (F : FnOk P w K mg base CX k f fd ps sp) : FnG P w K mg base CX k f fd ps sp := ⟨F.len, fun A o s H a us vs Q E _ => F.run A o s H a us vs Q E⟩
theorem funG {CX : CXT} {x qual : Str} {st : Stmt} {f : Addr} {fd : FuncData} {N ps : List Str} {k : Nat} {sp : Sp} (F : Fun K x qual st f fd) (S : FnScope N ps (defScope st)) (len : ∀ vs H Q E, sp vs H Q E → vs.length = ps.length)
    (hbody : ∀ (cdv : Value) (A : Around) (outer : List Env) (s : Shared) (H : Hp) (vs : List V) (Q : VK) (E : XK), (A.deeper (envOfC qual (defScope st) s.heap.objs.size f cdv)).guards = some [] → Room k (A.deeper (envOfC qual (defScope st) s.heap.objs.size f cdv)) → sp vs H Q E →
      ∃ t, PSs (cxOf CX P w K mg base N qual (defScope st) f cdv A outer s H E) (defBody st) t ∧ t { nx := fun _ H' => Q .non H', rt := Q } (start N vs) H) : FnG P w K mg base CX (k + 1) f fd ps sp := by
  obtain ⟨oc, od, kV, doc, pm, an, cdv, ct, osl, rfl, lk, hcd⟩ := F.ex
  refine ⟨len, fun A outer s H args us vs Q E hg hr e0 hb r hsp => ?_⟩
  have KX : K.In s.heap := e0.mod.kin.keeps fun b o e => (e0.bs b o e).1
  have hkind : ∀ y ∈ ps.zip us, (defScope st).names.lookup y.1 = some .local ∨ ((defScope st).names.lookup y.1 = some .cell ∧ ((cellsFrom (s.heap.objs.size + 1) (defScope st).names []).lookup y.1).isSome = true) := fun y hy =>
    (S.par y.1 (List.of_mem_zip hy).1).elim .inl fun q => .inr ⟨q, PySem.W.cellsFrom_some _ _ _ (.inl q)⟩
  refine codeAny_call_function hr.depth (KX _ _ lk) rfl S.co S.gen rfl (PySem.W.codeRec_of KX hcd) (hb _ _ _ _ (wpAny_newFunctionEnv_cells S.kind hkind fun env he s1 x => ?_))
  subst he
  refine ⟨(e0.mod.nolimit.keeps fun b o e => (e0.bs b o e).1).keeps x.toInCall.keep, codeAny_func ?_⟩
  obtain ⟨t, ht, hq⟩ := hbody cdv A outer s H vs Q E hg (hr.deeper _) hsp
  have I : Inv (cxOf CX P w K mg base N qual (defScope st) f cdv A outer s H E) [] (start N vs) H s1 := inv_start S hr.hd e0 (len _ _ _ _ hsp) r x
  refine wpAny_mono (ht.run [] s1 (start N vs) H _ I hq) (fun fl s' hs => ?_) fun _ _ hs => hs
  cases fl with
  | ret u => obtain ⟨v, σ', H', J, rv, q⟩ := hs; exact ⟨v, H', J.os, J.bare, J.base, J.hok, rv, q⟩
  | next => obtain ⟨σ', H', J, q⟩ := hs; exact ⟨V.non, H', J.os, J.bare, J.base, J.hok, rfl, q⟩
  | brk => obtain ⟨_, _, _, q⟩ := hs; exact False.elim q
  | cont => obtain ⟨_, _, _, q⟩ := hs; exact False.elim q
/-- as Fun.ok: nothing leaves the def -/
theorem funG0 {x qual : Str} {st : Stmt} {f : Addr} {fd : FuncData} {N ps : List Str} {k : Nat} {sp : Sp} (F : Fun K x qual st f fd) (S : FnScope N ps (defScope st)) (len : ∀ vs H Q E, sp vs H Q E → vs.length = ps.length)
    (hbody : ∀ (cdv : Value) (A : Around) (outer : List Env) (s : Shared) (H : Hp) (vs : List V) (Q : VK) (E : XK), (A.deeper (envOfC qual (defScope st) s.heap.objs.size f cdv)).guards = some [] → Room k (A.deeper (envOfC qual (defScope st) s.heap.objs.size f cdv)) → sp vs H Q E →
      ∃ t, PSs (cxOf CX0 P w K mg base N qual (defScope st) f cdv A outer s H E).nox (defBody st) t ∧ t { nx := fun _ H' => Q .non H', rt := Q } (start N vs) H) : FnG P w K mg base CX0 (k + 1) f fd ps sp :=
  funG F S len fun cdv A outer s H vs Q E hg hr hsp => by
    obtain ⟨t, h, q⟩ := hbody cdv A outer s H vs Q E hg hr hsp
    exact ⟨t, h.nox, q⟩
end
section
variable {X : Cx} {CX : CXT} {k : Nat} {f : Addr} {fd : FuncData} {ps ks : List Str} {sp : Sp} {dvs : List V} {ds : List Value} {E : XK} {x : Str} {p pos : Pos} {e : Expr} {es : List Expr} {kws : List Keyword} {t tk : TA}
theorem back_of {pins : List (Addr × Obj)} {σ : L2.St} {H : Hp} {s s' : Shared} {Q : VK} (hx : Passes CX X E) (I : Inv X pins σ H s) {r : Result} (h : CR CX X.stack X.prog X.w H s Q E r s') :
    match r with | .ok (.ret u) => EP X pins σ Q u s' | .ok _ => False | .error e => X.xe e s' := by
  cases r with
  | error e => exact hx pins σ H s e s' I h
  | ok fl => cases fl with
    | ret u => exact I.after h
    | next => exact h
    | brk => exact h
    | cont => exact h
theorem run_fnG {pins : List (Addr × Obj)} {σ : L2.St} {H : Hp} {s : Shared} {Q : VK} {us : List Value} {vs : List V} (F : FnG X.prog X.w X.K X.mg X.base CX k f fd ps sp) (hg : X.A.guards = some []) (hr : Room k X.A) (hb : Binds X.K fd ps ds) (hd : Vals dvs ds) (hx : Passes CX X E)
    (I : Inv X pins σ H s) (r : Vals vs us) (h : sp (vs ++ dvs) H Q E) : wpAny (model X.prog X.w) X.A (call (.ref f) us) (EP X pins σ Q) X.xe s := by
  have r2 : Vals (vs ++ dvs) (us ++ ds) := r.append hd
  refine wpAny_call (codeAny_mono (F.run X.A X.stack s H ⟨us, []⟩ (us ++ ds) (vs ++ dvs) Q E hg hr I.env0 (hb s us I.kIn (by rw [← r2.length]; exact F.len _ _ _ _ h)) r2 h) fun r s' hq => ?_)
  have z := back_of hx I hq
  cases r with
  | error e => exact z
  | ok fl => cases fl with
    | ret u => exact z
    | next => exact z.elim
    | brk => exact z.elim
    | cont => exact z.elim
theorem pe_callG (F : FnG X.prog X.w X.K X.mg X.base CX k f fd ps sp) (hgu : X.A.guards = some []) (hr : Room k X.A) (hg : Gl X x) (hm : X.mg x = some (.ref f)) (hk : PySem.W.keepIn X.K (.ref f) = true) (hb : Binds X.K fd ps ds) (hd : Vals dvs ds) (hx : Passes CX X E)
    (ha : PA X (e :: es) t) (hdb : (x == ("__debug__" : Str)) = false := by decide) (he : starEach (e :: es) X.env = (false, eval e X.env) :: starEach es X.env := by rfl) (hpl : (backTo pos (starEach es X.env)).any (·.1) = false := by rfl) :
    PE X (.Call (.Name x p) (e :: es) [] pos) (tCall sp dvs E t) := ⟨fun pins s σ H Q I h =>
  wpAny_Call_Name_kw (ld_glob I hg hm (PySem.W.callWith_K (h₀ := X.base) I.ok.mod.kin hk (thn (ha.run pos pins s σ H _ I h) fun us s1 ⟨vs, H1, I1, r, q⟩ => ⟨I1.kIn, run_fnG F hgu hr hb hd hx I1 r q⟩) he hpl) hdb)⟩
end
/-! the end of a law -/
section
variable {P : Program} {w : World} {K : PySem.W.Frag} {mg mb : Str → Option Value}
theorem lawG {CX : CXT} {k : Nat} {fa a : Addr} {fd : FuncData} {x : Str} {sp : Sp} {s₁ : Shared} {vs : List Value} {ns : List Int}
    (KX : K.In s₁.heap) (hns : s₁.heap.Ns mainGlobals mg) (hb : s₁.heap.Ns builtinsNs mb) (hbb : ∀ x : Str, x ≠ "__name__" → mb x = bootBuiltins x) (hlim : s₁.heap.NoLimit) (hg : s₁.gens = #[])
    (ha : s₁.heap.get? a = some { cls := .type "list", data := .seq vs.toArray }) (hi : IntsAre vs ns) (hl : ns.length ≤ sizeLine) (hr : Room k callerA)
    (F : ∀ base : Heap, K.In base → base.Ns mainGlobals mg → FnG P w K mg base CX k fa fd [x] sp) (hbind : ∀ (s : Shared) (u : Value), BindsTo s fd ⟨[u], []⟩ [(x, u)])
    (hsp : ∀ H : Hp, Only H → SqL K H a (ns.map V.int) → sp [.ref a] H (fun v _ => v = .bl true) fun _ _ _ => False) (hCX : ∀ H e s', CX [] H s₁ (fun _ _ _ => False) e s' → False) :
    codeAny (model P w) callerA (.call (.ref fa) ⟨[.ref a], []⟩) (fun r s' => r = .ok (.ret (.bool true)) ∧ OldK s₁.heap s'.heap ∧ s'.os = s₁.os ∧ AllBare s'.gens) s₁ := by
  have rv := vals_ints hi
  have main : ∀ H : Hp, Only H → SqL K H a (ns.map V.int) → HOk P w H s₁.heap → (∀ b, H b ≠ none → b = a ∧ K.lookup a = none) →
      codeAny (model P w) callerA (.call (.ref fa) ⟨[.ref a], []⟩) (fun r s' => r = .ok (.ret (.bool true)) ∧ OldK s₁.heap s'.heap ∧ s'.os = s₁.os ∧ AllBare s'.gens) s₁ := by
    intro H hO hS hok hA
    have untr : ∀ {b : Addr}, b ≠ a ∨ K.lookup a ≠ none → H b = none := fun {b} h => by
      cases q : H b with
      | none => rfl
      | some u => have z := hA b (by rw [q]; simp); exact (h.elim (fun n => n z.1) fun n => n z.2).elim
    have ns_of : ∀ {b : Addr} {m : Str → Option Value}, s₁.heap.Ns b m → (hidT s₁.heap H).Ns b m := fun {b m} ⟨o, es, ep, e, d, r⟩ => ⟨o, es, ep, hidT_get e (untr (.inl fun z => by
      subst z
      rw [ha] at e
      cases e
      exact absurd (show Data.seq vs.toArray _ = Data.dict es ep from d) (fun z => by cases z))), d, r⟩
    have kb : K.In (hidT s₁.heap H) := fun b o e => hidT_get (KX b o e) (by
      by_cases z : b = a
      · exact untr (.inr fun y => by subst z; rw [y] at e; cases e)
      · exact untr (.inl z))
    have md : Mod K mg (hidT s₁.heap H) := ⟨kb, ns_of hns, ⟨mb, ns_of hb, hbb⟩, let ⟨mc, h1, h2⟩ := hlim; ⟨mc, ns_of h1, h2⟩⟩
    have e0 : Env0 P w K mg (hidT s₁.heap H) callerA [] s₁ H := ⟨rfl, md, fun b o e => of_hidT e, Nat.le_of_eq (hidT_size _ _), trivial, fun b hb => absurd (show b ∈ ([] : List Addr) from hb) (by simp), hok, .of_eq hg⟩
    refine codeAny_mono ((F _ kb (ns_of hns)).run callerA [] s₁ H ⟨[.ref a], []⟩ [.ref a] [.ref a] _ _ rfl hr e0 (hbind s₁ (.ref a)) (.cons rfl .nil) (hsp H hO hS)) fun r s' h => ?_
    cases r with
    | error e => exact (hCX H e s' h).elim
    | ok fl => cases fl with
      | next => exact False.elim h
      | brk => exact False.elim h
      | cont => exact False.elim h
      | ret u =>
        obtain ⟨v, H', os, bare, un, hok', r', q⟩ := h
        obtain rfl : v = .bl true := q
        obtain rfl : u = Value.bool true := r'
        refine ⟨rfl, OldK.of_keep fun b o e => ?_, os, bare⟩
        rcases hO b with z | ⟨ob, xs, z⟩
        · exact un.keep b o e z (fun y => nomatch y) (fun y => nomatch y)
        · obtain ⟨e1, _⟩ := hok b _ z
          obtain ⟨e2, _⟩ := hok' b _ (un.frzs b ob _ z)
          exact e2.trans (e1.symm.trans e)
  cases hk : K.lookup a with
  | some o =>
    have e := KX a o hk
    rw [ha] at e
    cases e
    exact main (fun _ => none) (fun _ => .inl rfl) (.inr ⟨_, vs.toArray, _, hk, rfl, rfl, rfl, by rw [List.size_toArray, hi.length]; exact hl, by simpa using rv⟩) (fun b u z => by cases (show (none : Option HO) = some u from z)) fun b z => absurd rfl z
  | none =>
    have at_ : ∀ {b : Addr} {u : HO}, (if b = a then some (HO.frz { cls := .type "list", data := .seq vs.toArray } (.lst (ns.map V.int))) else none) = some u → b = a ∧ u = .frz { cls := .type "list", data := .seq vs.toArray } (.lst (ns.map V.int)) := fun {b u} z => by
      by_cases y : b = a
      · rw [if_pos y] at z; exact ⟨y, (Option.some.inj z).symm⟩
      · rw [if_neg y] at z; cases z
    refine main (fun b => if b = a then some (.frz { cls := .type "list", data := .seq vs.toArray } (.lst (ns.map V.int))) else none) (fun b => ?_) (.inl (.inr ⟨{ cls := .type "list", data := .seq vs.toArray }, if_pos rfl⟩)) (fun b u z => ?_) fun b z => ⟨?_, hk⟩
    · by_cases y : b = a
      · exact .inr ⟨_, _, if_pos y⟩
      · exact .inl (if_neg y)
    · obtain ⟨rfl, rfl⟩ := at_ z
      exact ⟨ha, by rw [List.length_map]; exact hl, vs, _, rv, ha⟩
    · by_cases y : b = a
      · exact y
      · exact absurd (if_neg y) z
theorem walkG {l : PySem.W.OpenLaw} {n k : Nat} {q : Program} {loose : List Str} {XP : (Str → Option Value) → Heap → Prop} {YP : World → Heap → Prop} {d : DefRec} {K : Params → PySem.W.Frag} {CX : World → CXT} {sp : World → Sp} {x : Str}
    (hn : l.most = some n) (hn2 : n ≤ sizeLine) (hdf : d.params.defaults = []) (hr : Room k callerA) (hY : ∀ (w : World) (h : Heap), YP w h → (K w.params).In h)
    (F : ∀ (w : World) (mg : Str → Option Value) (fa : Addr) (h : Heap), (K w.params).In h → h.Ns mainGlobals mg → mg d.name = some (.ref fa) →
      ∃ fd : FuncData, (∀ (s : Shared) (u : Value), BindsTo s fd ⟨[u], []⟩ [(x, u)]) ∧ ∀ base : Heap, (K w.params).In base → base.Ns mainGlobals mg → FnG l.prog w (K w.params) mg base (CX w) k fa fd [x] (sp w))
    (hsp : ∀ (w : World) (H : Hp) (a : Addr) (ns : List Int), ns.length ≤ n → Only H → SqL (K w.params) H a (ns.map V.int) → sp w [.ref a] H (fun v _ => v = .bl true) fun _ _ _ => False)
    (hCX : ∀ (w : World) (H : Hp) (s : Shared) (e : Value) (s' : Shared), CX w [] H s (fun _ _ _ => False) e s' → False) : PySem.W.WalkO q loose XP YP l.row.toRowW d [] (fun f vs => PySem.call f vs) :=
  Att.attach_call hn hdf fun w s₀ s₁ mg mb fa o pm cd doc a vs ns G Y ho hd hcd hmg hobj hints hlen hg => by
    obtain ⟨fd, hb, hF⟩ := F w mg fa _ (hY w _ Y) G.T.g hmg
    exact lawG (hY w _ Y) G.T.g G.T.b G.T.builtins G.T.nolimit hg hobj hints (Nat.le_trans hlen hn2) hr hF hb (fun H hO hS => hsp w H a ns hlen hO hS) fun H e s' => hCX w H s₁ e s'
end
end Gn
set_option Elab.async false
set_option linter.all false
set_option maxRecDepth 100000
set_option maxHeartbeats 4000000
namespace Gn
open PySem PySem.Spec PyProof.Rows L2
section
variable {X : Cx} {CX : CXT} {k : Nat} {f : Addr} {fd : FuncData} {ps ks : List Str} {sp : Sp} {E : XK} {x : Str} {p pos : Pos} {kws : List Keyword} {tk : TA} {g : List Value → List Value → List Value} {gV : List V → List V → List V}
/-- f(k = v, ..): keywords alone -/
theorem pe_callK0 (F : FnOk X.prog X.w X.K X.mg X.base CX k f fd ps sp) (hr : Room k X.A) (hg : Gl X x) (hm : X.mg x = some (.ref f)) (hk : PySem.W.keepIn X.K (.ref f) = true) (hb : KBinds X.K fd ps ks g gV) (hx : Passes CX X E) (hkw : PK X kws tk)
    (hall : (backToKw pos (keywordEach kws X.env)).all (·.1.isSome) = true := by rfl) (hks : (backToKw pos (keywordEach kws X.env)).filterMap (·.1) = ks := by rfl) (hdb : (x == ("__debug__" : Str)) = false := by decide)
    (hpl : ((backTo pos (starEach [] X.env)).any (·.1) || (backToKw pos (keywordEach kws X.env)).any (·.1.isNone)) = false := by rfl) : PE X (.Call (.Name x p) [] kws pos) (tCallK sp gV E tNil tk) := ⟨fun pins s σ H Q I h =>
  wpAny_Call_Name_kw (ld_glob I hg hm (PySem.W.callWith_KW0 (h₀ := X.base) I.ok.mod.kin hk hall (thn (hkw.run pos pins s σ H _ I h) fun ws s2 ⟨zs, H2, I2, rz, q2⟩ => ⟨I2.kIn, by
    rw [hks]
    exact run_fnk (us := []) (vs := []) F hr hb hx I2 .nil rz q2⟩) hpl) hdb)⟩
end
/-! keywords in the parameters' order, and two the other way round -/
def kw1 {α : Type} : List α → List α → List α
  | [], [a] => [a]
  | _, _ => []
def kw2 {α : Type} : List α → List α → List α
  | [], [a, b] => [a, b]
  | _, _ => []
def kw2s {α : Type} : List α → List α → List α
  | [], [a, b] => [b, a]
  | _, _ => []
section
variable {K : PySem.W.Frag} {fd : FuncData} {ps ks : List Str}
theorem kb1 {p : Str} (h : ∀ a : Value, bindArgs fd ⟨[], [(p, a)]⟩ = pure [(p, a)]) : KBinds K fd [p] [p] kw1 kw1 :=
  ⟨fun s us ws _ hl => match us, ws, hl with
    | [], [a], _ => .of_eq (h a)
    | [], [], z => (nomatch z)
    | [], _ :: _ :: _, z => (nomatch z)
    | _ :: _, _, z => (nomatch z), fun {vs us zs ws} r rz => by
    cases r with
    | nil => cases rz with
      | nil => exact .nil
      | cons a b => cases b with
        | nil => exact .cons a .nil
        | cons _ _ => exact .nil
    | cons _ _ => exact .nil⟩
theorem kb2 {p q : Str} (h : ∀ a b : Value, bindArgs fd ⟨[], [(p, a), (q, b)]⟩ = pure [(p, a), (q, b)]) : KBinds K fd [p, q] [p, q] kw2 kw2 :=
  ⟨fun s us ws _ hl => match us, ws, hl with
    | [], [a, b], _ => .of_eq (h a b)
    | [], [], z => (nomatch z)
    | [], [_], z => (nomatch z)
    | [], _ :: _ :: _ :: _, z => (nomatch z)
    | _ :: _, _, z => (nomatch z), fun {vs us zs ws} r rz => by
    cases r with
    | nil => cases rz with
      | nil => exact .nil
      | cons a b => cases b with
        | nil => exact .nil
        | cons c d => cases d with
          | nil => exact .cons a (.cons c .nil)
          | cons _ _ => exact .nil
    | cons _ _ => exact .nil⟩
theorem kb2s {p q : Str} (h : ∀ a b : Value, bindArgs fd ⟨[], [(q, b), (p, a)]⟩ = pure [(p, a), (q, b)]) : KBinds K fd [p, q] [q, p] kw2s kw2s :=
  ⟨fun s us ws _ hl => match us, ws, hl with
    | [], [b, a], _ => .of_eq (h a b)
    | [], [], z => (nomatch z)
    | [], [_], z => (nomatch z)
    | [], _ :: _ :: _ :: _, z => (nomatch z)
    | _ :: _, _, z => (nomatch z), fun {vs us zs ws} r rz => by
    cases r with
    | nil => cases rz with
      | nil => exact .nil
      | cons a b => cases b with
        | nil => exact .nil
        | cons c d => cases d with
          | nil => exact .cons c (.cons a .nil)
          | cons _ _ => exact .nil
    | cons _ _ => exact .nil⟩
end
end Gn
namespace Gn
open PySem PySem.Spec PyProof.Rows L2
/-- a conditional expression whose two ways change nothing -/
theorem tif {c : Bool} {ta tb : TE} {σ : L2.St} {H : Hp} {Q : VK} (v1 v2 : V) (h1 : c = true → ∀ R : VK, R v1 H → ta σ H R) (h2 : c = false → ∀ R : VK, R v2 H → tb σ H R) (k : ∀ v, (c = true → v = v1) → (c = false → v = v2) → Q v H) : if c = true then ta σ H Q else tb σ H Q := by
  cases c with
  | true => exact iteT (h1 rfl Q (k v1 (fun _ => rfl) (fun z => nomatch z)))
  | false => exact iteF (h2 rfl Q (k v2 (fun z => nomatch z) (fun _ => rfl)))
theorem cut_mem {xs : List V} {lo hi : Option Int} {x : V} (h : x ∈ cutV xs lo hi) : x ∈ xs := by
  unfold cutV at h
  exact List.mem_of_mem_drop (List.mem_of_mem_take h)
theorem int_at {ns : List Int} {x : V} (h : x ∈ ns.map V.int) : ∃ z, x = V.int z := by
  obtain ⟨z, _, e⟩ := List.mem_map.mp h
  exact ⟨z, e.symm⟩
theorem same_put {H : Hp} {p : Addr} {o : HO} (h : H p = none) : Same H (upd H p o) := fun b x e => by
  rw [upd_ne (ne_of_none e h)]
  exact e
theorem fmod_ge {a b : Int} (h : 0 < b) : 0 ≤ a.fmod b := by
  rw [Int.fmod_eq_emod_of_nonneg _ (by omega)]; exact Int.emod_nonneg _ (by omega)
theorem fmod_lt {a b : Int} (h : 0 < b) : a.fmod b < b := by
  rw [Int.fmod_eq_emod_of_nonneg _ (by omega)]; exact Int.emod_lt_of_pos _ h
end Gn
set_option Elab.async false
set_option linter.all false
set_option maxRecDepth 100000
set_option maxHeartbeats 4000000
namespace Gn
open PySem PySem.Spec PyProof.Rows L2
/-- tuple(xs) of a list: a new tuple -/
def rTupL (K : PySem.W.Frag) : List V → Hp → VK → Prop := fun xs H Q => ∃ p ys, xs = [V.ref p] ∧ SqL K H p ys ∧ ∀ l, H l = none → Q (.ref l) (upd H l (.tup ys))
theorem cr_tupL {X : Cx} : CallR X (.type "tuple") (rTupL X.K) := by
  intro pins s σ H xs us Q I r h
  obtain ⟨p, ys, e, h1, h2⟩ := h
  exact call_tuple_of pins s σ H xs us Q I r ⟨p, ys, e, .inl ⟨h1, h2⟩⟩
end Gn
set_option Elab.async false
set_option linter.all false
set_option maxRecDepth 100000
set_option maxHeartbeats 4000000
namespace Gn
open PySem PySem.Spec PyProof.Rows L2
/-- small data: may be shown, may be compared; its text has at most c signs, its depth is at most e -/
structure Sm (c e : Nat) (d : PyData) : Prop where
  sh : d.showable = true
  ln : d.shown.length ≤ c
  dp : d.depth ≤ e
  cl : d.canLay0 = true
theorem sum_le {c : Nat} : ∀ {ts : List Str}, (∀ t ∈ ts, t.length ≤ c) → (ts.map (·.length)).sum ≤ ts.length * c
  | [], _ => by simp
  | t :: ts, h => by
    have h1 := h t List.mem_cons_self
    have h2 := sum_le fun x hx => h x (List.mem_cons_of_mem t hx)
    rw [List.map_cons, List.sum_cons, List.length_cons, Nat.succ_mul]
    omega
theorem Sm.all {c e : Nat} : ∀ {ds : List PyData}, (∀ d ∈ ds, Sm c e d) → PyData.showableAll ds = true ∧ (∀ t ∈ PyData.shownAll ds, t.length ≤ c) ∧ (PyData.shownAll ds).length = ds.length ∧ PyData.depthAll ds ≤ e ∧ PyData.canLayAll0 ds = true
  | [], _ => ⟨rfl, (fun t h => by simp [PyData.shownAll] at h), rfl, Nat.zero_le _, rfl⟩
  | d :: ds, h => by
    have a := h d List.mem_cons_self
    obtain ⟨b1, b2, b3, b4, b5⟩ := Sm.all fun x hx => h x (List.mem_cons_of_mem d hx)
    refine ⟨by simp only [PyData.showableAll, a.sh, b1, Bool.and_self], fun t ht => ?_, by simp only [PyData.shownAll, List.length_cons, b3], by simp only [PyData.depthAll]; exact Nat.max_le.mpr ⟨a.dp, b4⟩, by simp only [PyData.canLayAll0, a.cl, b5, Bool.and_self]⟩
    simp only [PyData.shownAll] at ht
    rcases List.mem_cons.mp ht with rfl | ht
    · exact a.ln
    · exact b2 t ht
theorem Sm.tup {c e n : Nat} {ds : List PyData} (h : ∀ d ∈ ds, Sm c e d) (hn : ds.length ≤ n) : Sm (n * (c + 2) + 3) (e + 1) (.tuple ds) := by
  obtain ⟨b1, b2, b3, b4, b5⟩ := Sm.all h
  refine ⟨by simpa only [PyData.showable] using b1, ?_, by simp only [PyData.depth]; omega, by simpa only [PyData.canLay0] using b5⟩
  simp only [PyData.shown]
  have z := tupleText_len_le (PyData.shownAll ds)
  have y := sum_le b2
  rw [b3] at z y
  have w := Nat.mul_le_mul_right (c + 2) hn
  rw [Nat.mul_add] at w
  omega
theorem Sm.lst {c e n : Nat} {ds : List PyData} (h : ∀ d ∈ ds, Sm c e d) (hn : ds.length ≤ n) : Sm (n * (c + 2) + 3) (e + 1) (.list ds) := by
  obtain ⟨b1, b2, b3, b4, b5⟩ := Sm.all h
  refine ⟨by simpa only [PyData.showable] using b1, ?_, by simp only [PyData.depth]; omega, by simpa only [PyData.canLay0] using b5⟩
  simp only [PyData.shown]
  have z := listText_len_le (PyData.shownAll ds)
  have y := sum_le b2
  rw [b3] at z y
  have w := Nat.mul_le_mul_right (c + 2) hn
  rw [Nat.mul_add] at w
  omega
theorem Sm.int {i : Int} (h : i.natAbs < 2 ^ 1000) : Sm 1921 0 (.int i) := by
  have hl : i.natAbs.log2 < 1920 := Nat.lt_trans (PySem.Flt.log2_lt_of (by decide) h) (by decide)
  exact ⟨by simp only [PyData.showable, hl, decide_true], by simp only [PyData.shown]; exact int_text_len_1921 hl, by simp only [PyData.depth]; exact Nat.le_refl 0, rfl⟩
theorem Sm.shaped {c e : Nat} {d : PyData} (h : Sm c e d) (he : e ≤ 64) : SeqAt.shaped d = true := by
  unfold SeqAt.shaped
  rw [h.cl, decide_eq_true (Nat.le_trans h.dp he)]; rfl
theorem Sm.ints {n : Nat} {ns : List Int} (h : ∀ i ∈ ns, i.natAbs < 2 ^ 1000) (hn : ns.length ≤ n) : Sm (n * 1923 + 3) 1 (.tuple (ns.map PyData.int)) :=
  Sm.tup (c := 1921) (e := 0) (fun d hd => by
    obtain ⟨i, hi, rfl⟩ := List.mem_map.mp hd
    exact Sm.int (h i hi)) (by rw [List.length_map]; exact hn)
end Gn
set_option Elab.async false
set_option linter.all false
set_option maxRecDepth 100000
set_option maxHeartbeats 4000000
namespace Gn
open PySem PySem.Spec PyProof.Rows L2
/-- a conditional expression whose two ways give the same data -/
theorem tIf_dp {tt : TT} {ta tb : TE} {σ : L2.St} {H : Hp} {Q : VK} {K : PySem.W.Frag} {d : PyData} (c : Bool) (ht : ∀ R : Bool → Hp → Prop, R c H → tt σ H R)
    (h1 : c = true → ∀ R : VK, (∀ v H', Same H H' → Dp K H' v d → R v H') → ta σ H R) (h2 : c = false → ∀ R : VK, (∀ v H', Same H H' → Dp K H' v d → R v H') → tb σ H R)
    (k : ∀ v H', Same H H' → Dp K H' v d → Q v H') : tIf tt ta tb σ H Q := by
  refine ht _ ?_
  cases c with
  | true => exact iteT (h1 rfl Q k)
  | false => exact iteF (h2 rfl Q k)
/-- t[lo:hi], whether it is all of t or not -/
theorem slA_of {K : PySem.W.Frag} {a : Addr} {xs : List V} {lo hi : Option Int} {H : Hp} {Q : VK} (h : SqT K H a xs) (k : ∀ b H', Same H H' → SqT K H' b (cutV xs lo hi) → Q (.ref b) H') : rSlA K (.ref a) lo hi H Q := by
  refine ⟨a, xs, rfl, h, fun hw => k a H (Same.refl H) ?_, fun _ p hp => k p _ (same_put hp) (SqT.of upd_same)⟩
  have e : cutV xs lo hi = xs := by
    unfold cutV
    rw [hw.1, hw.2, List.drop_zero, Nat.sub_zero, List.take_length]
  rw [e]; exact h
/-- t + u, whether one of them is empty or not -/
theorem catA_of {K : PySem.W.Frag} {a b : Addr} {xs ys : List V} {H : Hp} {Q : VK} (h1 : SqT K H a xs) (h2 : SqT K H b ys) (hz : xs.length + ys.length ≤ sizeLine) (k : ∀ c H', Same H H' → SqT K H' c (xs ++ ys) → Q (.ref c) H') : rCatA K (.ref a) (.ref b) H Q := by
  refine ⟨a, b, xs, ys, rfl, rfl, h1, h2, hz, fun e => k b H (Same.refl H) ?_, fun _ e => k a H (Same.refl H) ?_, fun _ _ p hp => k p _ (same_put hp) (SqT.of upd_same)⟩
  · rw [e]; exact h2
  · rw [e, List.append_nil]; exact h1
theorem cut_one (xs : List V) : cutV xs none (some 1) = xs.take 1 := by
  unfold cutV
  rw [show HT.sIx xs.length 0 none = 0 from HT.sIx_none .., show HT.sIx xs.length xs.length (some 1) = min 1 xs.length from HT.sIx_nat xs.length xs.length 1, List.drop_zero, Nat.sub_zero]
  cases xs with
  | nil => rfl
  | cons x r => rw [show min 1 (x :: r).length = 1 by rw [List.length_cons]; omega]
/-- keywords of a def of the text -/
theorem kwOf1 {K : PySem.W.Frag} {x qual : Str} {st : Stmt} {f : Addr} {fd : FuncData} {p : Str} (F : Fun K x qual st f fd)
    (h : ∀ (kV doc pm : Value) (an : Option Addr) (cdv ct a : Value), bindArgs (PySem.W.fnOf x qual (defArgs st) (defBody st) (defScope st) .none kV doc pm an cdv ct) ⟨[], [(p, a)]⟩ = pure [(p, a)]) : KBinds K fd [p] [p] kw1 kw1 := by
  obtain ⟨oc, od, kV, doc, pm, an, cdv, ct, osl, rfl, lk, hcd⟩ := F.ex
  exact kb1 fun a => h kV doc pm an cdv ct a
theorem kwOf2 {K : PySem.W.Frag} {x qual : Str} {st : Stmt} {f : Addr} {fd : FuncData} {p q : Str} (F : Fun K x qual st f fd)
    (h : ∀ (kV doc pm : Value) (an : Option Addr) (cdv ct a b : Value), bindArgs (PySem.W.fnOf x qual (defArgs st) (defBody st) (defScope st) .none kV doc pm an cdv ct) ⟨[], [(p, a), (q, b)]⟩ = pure [(p, a), (q, b)]) : KBinds K fd [p, q] [p, q] kw2 kw2 := by
  obtain ⟨oc, od, kV, doc, pm, an, cdv, ct, osl, rfl, lk, hcd⟩ := F.ex
  exact kb2 fun a b => h kV doc pm an cdv ct a b
theorem kwOf2s {K : PySem.W.Frag} {x qual : Str} {st : Stmt} {f : Addr} {fd : FuncData} {p q : Str} (F : Fun K x qual st f fd)
    (h : ∀ (kV doc pm : Value) (an : Option Addr) (cdv ct a b : Value), bindArgs (PySem.W.fnOf x qual (defArgs st) (defBody st) (defScope st) .none kV doc pm an cdv ct) ⟨[], [(q, b), (p, a)]⟩ = pure [(p, a), (q, b)]) : KBinds K fd [p, q] [q, p] kw2s kw2s := by
  obtain ⟨oc, od, kV, doc, pm, an, cdv, ct, osl, rfl, lk, hcd⟩ := F.ex
  exact kb2s fun a b => h kV doc pm an cdv ct a b
end Gn
set_option Elab.async false
set_option linter.all false
set_option maxRecDepth 100000
set_option maxHeartbeats 4000000
namespace Gn
open PySem PySem.Spec PyProof.Rows L2
/-- for x in reversed(xs): what holds behind i turns -/
theorem for_rv {K : PySem.W.Frag} {a : Addr} {xs : List V} {g : TG} {tb : TS} {D : Ends} {σ : L2.St} {H : Hp} (Pv : Nat → L2.St → Hp → Prop) (h0 : Pv 0 σ H) (hl : ∀ i σ H, i ≤ xs.length → Pv i σ H → SqL K H a xs)
    (hs : ∀ i x σ H, i < xs.length → xs[xs.length - 1 - i]? = some x → Pv i σ H → g x σ H fun σ2 H2 => tb { D with nx := Pv (i + 1), ct := Pv (i + 1), bk := D.nx } σ2 H2) (hd : ∀ σ H, Pv xs.length σ H → D.nx σ H) :
    ∃ W : Nat → Nat → L2.St → Hp → Prop, (∃ m, W 0 m σ H) ∧ ∀ i m σ H, W i m σ H →
      ((Itv K a xs.length).stop i H ∧ D.nx σ H) ∨ ((Itv K a xs.length).go i H ∧ ∃ N : L2.St → Hp → Prop, (∀ σ' H', N σ' H' → ∃ m', m' < m ∧ W (i + 1) m' σ' H') ∧ ∀ x H', (Itv K a xs.length).yld i H x H' → g x σ H' fun σ2 H2 => tb { D with nx := N, ct := N, bk := D.nx } σ2 H2) := by
  refine ⟨fun i m σ H => m = xs.length - i ∧ i ≤ xs.length ∧ Pv i σ H, ⟨xs.length, by simp, Nat.zero_le _, h0⟩, fun i m σ H ⟨em, hi, p⟩ => ?_⟩
  subst em
  have q := hl i σ H hi p
  rcases Nat.lt_or_ge i xs.length with c | c
  · have c2 : xs.length - 1 - i < xs.length := by omega
    refine .inr ⟨⟨c, xs, xs[xs.length - 1 - i], q, List.getElem?_eq_getElem c2⟩, Pv (i + 1), fun σ' H' p' => ⟨xs.length - (i + 1), by omega, rfl, c, p'⟩, fun x H' y => ?_⟩
    obtain ⟨rfl, y⟩ := y
    exact hs i x σ _ c (y xs q) p
  · obtain rfl : i = xs.length := by omega
    exact .inl ⟨Nat.le_refl _, hd σ H p⟩
end Gn
namespace Gn
open PySem PySem.Spec PyProof.Rows L2
/-- a test and a second one, their answers as one -/
theorem and_join {c : Bool} {t : TT} {σ : L2.St} {H : Hp} {Q : Bool → Hp → Prop} (e : Bool) (h1 : c = true → ∀ R : Bool → Hp → Prop, R e H → t σ H R) (h2 : c = false → e = false) (k : Q e H) : if c = true then t σ H Q else Q false H := by
  cases c with
  | true => exact iteT (h1 rfl Q k)
  | false => rw [h2 rfl] at k; exact iteF k
end Gn
set_option Elab.async false
set_option linter.all false
set_option maxRecDepth 100000
set_option maxHeartbeats 4000000
namespace Gn
open PySem PySem.Spec PyProof.Rows L2
/-! keywords in the contrary order, all of them -/
def kwR {α : Type} : List α → List α → List α
  | [], ws => ws.reverse
  | _, _ => []
theorem kbR {K : PySem.W.Frag} {fd : FuncData} {ps ks : List Str} (hk : ks = ps.reverse) (h0 : 0 < ps.length) (h : ∀ ws : List Value, ws.length = ps.length → bindArgs fd ⟨[], ks.zip ws⟩ = pure (ps.zip ws.reverse)) : KBinds K fd ps ks kwR kwR :=
  ⟨fun s us ws _ hl => match us, hl with
    | [], hl => .of_eq (h ws (by rw [← hl]; show ws.length = ws.reverse.length; rw [List.length_reverse]))
    | _ :: _, hl => absurd hl (by show ¬ 0 = ps.length; omega), fun {vs us zs ws} r rz => by
    cases r with
    | nil => exact Vals.reverse rz
    | cons _ _ => exact .nil⟩
theorem kwOfR {K : PySem.W.Frag} {x qual : Str} {st : Stmt} {f : Addr} {fd : FuncData} {ps ks : List Str} (F : Fun K x qual st f fd) (hk : ks = ps.reverse) (h0 : 0 < ps.length)
    (h : ∀ (kV doc pm : Value) (an : Option Addr) (cdv ct : Value) (ws : List Value), ws.length = ps.length → bindArgs (PySem.W.fnOf x qual (defArgs st) (defBody st) (defScope st) .none kV doc pm an cdv ct) ⟨[], ks.zip ws⟩ = pure (ps.zip ws.reverse)) : KBinds K fd ps ks kwR kwR := by
  obtain ⟨oc, od, kV, doc, pm, an, cdv, ct, osl, rfl, lk, hcd⟩ := F.ex
  exact kbR hk h0 fun ws hl => h kV doc pm an cdv ct ws hl
/-- divmod by a positive divisor of any size -/
theorem call_divmodW {X : Cx} : CallR X (.builtin "divmod") (fun xs H Q => ∃ i j, xs = [.int i, .int j] ∧ CDivW i j ∧ ∀ p, H p = none → Q (.ref p) (upd H p (.tup [.int (i / j), .int (i % j)]))) := by
  intro pins s σ H xs us Q I r h
  obtain ⟨i, j, rfl, ⟨h1, h2⟩, q⟩ := h
  obtain ⟨u, w', rfl, ⟨t, rfl⟩, ⟨t', rfl⟩⟩ := vals2 r
  refine divmod_int (by omega) ?_ (.inl (PyProof.noPylong_of_log2 h2))
  rw [Int.fdiv_eq_ediv_of_nonneg i (by omega), Int.fmod_eq_emod_of_nonneg i (by omega)]
  have hn : H s.heap.objs.size = none := I.hok.fresh (Nat.le_refl _)
  refine ⟨.ref s.heap.objs.size, _, ?_, rfl, q _ hn⟩
  refine I.laid (fun b o e => Heap.get?_push_of_some _ e) (Nat.le_refl _) ⟨by simp only [List.length_cons, List.length_nil]; rw [sizeLine_eq]; decide, [.int (i / j) s.toks, .int (i % j) (s.toks + 1)], .cons ⟨_, rfl⟩ (.cons ⟨_, rfl⟩ .nil), ?_⟩
  exact ⟨_, Heap.get?_push_size s.heap rfl, rfl, 0, rfl⟩
end Gn
namespace Gn
open PySem PySem.Spec PyProof.Rows L2
theorem pair_eqv {a b c d : Int} : PyData.eqv (.tuple [.int a, .int b]) (.tuple [.int c, .int d]) = decide (a = c ∧ b = d) := by
  rw [Bool.eq_iff_iff]
  simp [PyData.eqv, PyData.eqvAll]
/-- either branch, what holds of either -/
theorem tIf_anyG {tt : TT} {ta tb : TE} {σ : L2.St} {H : Hp} {Q : VK} (Φ : V → Hp → Prop) (c : Bool) (ht : ∀ R : Bool → Hp → Prop, R c H → tt σ H R)
    (h1 : c = true → ∀ R : VK, (∀ v H', Φ v H' → R v H') → ta σ H R) (h2 : c = false → ∀ R : VK, (∀ v H', Φ v H' → R v H') → tb σ H R) (k : ∀ v H', Φ v H' → Q v H') : tIf tt ta tb σ H Q := by
  refine ht _ ?_
  cases c with
  | true => exact iteT (h1 rfl Q k)
  | false => exact iteF (h2 rfl Q k)
end Gn
namespace Gn
open PySem PySem.Spec PyProof.Rows L2
/-- either branch, what holds of either; all may make new objects -/
theorem tIf_same {tt : TT} {ta tb : TE} {σ : L2.St} {H : Hp} {Q : VK} (Φ : V → Hp → Prop) (c : Bool) (ht : ∀ R : Bool → Hp → Prop, (∀ H', Same H H' → R c H') → tt σ H R)
    (h1 : c = true → ∀ H', Same H H' → ∀ R : VK, (∀ v H2, Φ v H2 → R v H2) → ta σ H' R) (h2 : c = false → ∀ H', Same H H' → ∀ R : VK, (∀ v H2, Φ v H2 → R v H2) → tb σ H' R) (k : ∀ v H', Φ v H' → Q v H') : tIf tt ta tb σ H Q := by
  refine ht _ fun H' s => ?_
  cases c with
  | true => exact iteT (h1 rfl H' s Q k)
  | false => exact iteF (h2 rfl H' s Q k)
end Gn
set_option Elab.async false
set_option maxRecDepth 100000
/-! orders as lists: places sorted, marks at one place together. Plain lists of ints -/
namespace Mt
def insU (v : Int) : List Int → List Int
  | [] => [v]
  | a :: l => if v < a then v :: a :: l else if v = a then a :: l else a :: insU v l
/-- sorted, each once -/
def sortU (l : List Int) : List Int := l.foldr insU []
theorem insU_mem {v u : Int} : ∀ {l : List Int}, u ∈ insU v l ↔ u = v ∨ u ∈ l
  | [] => by simp [insU]
  | a :: l => by
    unfold insU
    split
    · simp
    · split
      · rename_i h1 h2
        subst h2
        simp
      · simp only [List.mem_cons, insU_mem (l := l)]
        constructor
        · rintro (h | h | h)
          · exact .inr (.inl h)
          · exact .inl h
          · exact .inr (.inr h)
        · rintro (h | h | h)
          · exact .inr (.inl h)
          · exact .inl h
          · exact .inr (.inr h)
theorem insU_pw {v : Int} : ∀ {l : List Int}, l.Pairwise (· < ·) → (insU v l).Pairwise (· < ·)
  | [], _ => by simp [insU]
  | a :: l, h => by
    obtain ⟨h1, h2⟩ := List.pairwise_cons.mp h
    unfold insU
    split
    · rename_i c
      refine List.pairwise_cons.mpr ⟨fun b hb => ?_, h⟩
      rcases List.mem_cons.mp hb with rfl | hb
      · exact c
      · exact Int.lt_trans c (h1 b hb)
    · split
      · exact h
      · rename_i c d
        refine List.pairwise_cons.mpr ⟨fun b hb => ?_, insU_pw h2⟩
        rcases insU_mem.mp hb with rfl | hb
        · omega
        · exact h1 b hb
theorem sortU_mem {v : Int} : ∀ {l : List Int}, v ∈ sortU l ↔ v ∈ l
  | [] => by simp [sortU]
  | a :: l => by
    show v ∈ insU a (sortU l) ↔ _
    rw [insU_mem, sortU_mem, List.mem_cons]
theorem sortU_pw : ∀ l : List Int, (sortU l).Pairwise (· < ·)
  | [] => List.Pairwise.nil
  | a :: l => insU_pw (sortU_pw l)
/-- a strictly rising list is told by its members -/
theorem strict_one : ∀ {l m : List Int}, l.Pairwise (· < ·) → m.Pairwise (· < ·) → (∀ v, v ∈ l ↔ v ∈ m) → l = m
  | [], [], _, _, _ => rfl
  | [], b :: m, _, _, h => by have := (h b).mpr List.mem_cons_self; simp at this
  | a :: l, [], _, _, h => by have := (h a).mp List.mem_cons_self; simp at this
  | a :: l, b :: m, h1, h2, h => by
    obtain ⟨p1, q1⟩ := List.pairwise_cons.mp h1
    obtain ⟨p2, q2⟩ := List.pairwise_cons.mp h2
    have e : a = b := by
      rcases List.mem_cons.mp ((h a).mp List.mem_cons_self) with x | x
      · exact x
      · rcases List.mem_cons.mp ((h b).mpr List.mem_cons_self) with y | y
        · exact y.symm
        · have := p2 a x; have := p1 b y; omega
    subst e
    have : l = m := strict_one q1 q2 fun v => by
      constructor
      · intro hv
        rcases List.mem_cons.mp ((h v).mp (List.mem_cons_of_mem _ hv)) with x | x
        · subst x; have := p1 v hv; omega
        · exact x
      · intro hv
        rcases List.mem_cons.mp ((h v).mpr (List.mem_cons_of_mem _ hv)) with x | x
        · subst x; have := p2 v hv; omega
        · exact x
    rw [this]
theorem le_nodup_lt {l : List Int} (h : l.Pairwise (· ≤ ·)) (n : l.Nodup) : l.Pairwise (· < ·) := by
  induction l with
  | nil => exact .nil
  | cons a l ih =>
    obtain ⟨p, q⟩ := List.pairwise_cons.mp h
    obtain ⟨r, s⟩ := List.nodup_cons.mp n
    refine List.pairwise_cons.mpr ⟨fun b hb => ?_, ih q s⟩
    have h1 := p b hb
    have h2 : a ≠ b := fun e => r (by rw [e]; exact hb)
    omega
/-- a rising list is told by what it is a permutation of -/
theorem le_one : ∀ {l m : List Int}, l.Pairwise (· ≤ ·) → m.Pairwise (· ≤ ·) → l.Perm m → l = m
  | [], m, _, _, h => by rw [List.nil_perm] at h; exact h.symm
  | a :: l, [], _, _, h => by have := h.length_eq; simp at this
  | a :: l, b :: m, h1, h2, h => by
    obtain ⟨p1, q1⟩ := List.pairwise_cons.mp h1
    obtain ⟨p2, q2⟩ := List.pairwise_cons.mp h2
    have e : a = b := by
      rcases List.mem_cons.mp (h.mem_iff.mp (List.mem_cons_self (a := a) (l := l))) with x | x
      · exact x
      · rcases List.mem_cons.mp (h.mem_iff.mpr (List.mem_cons_self (a := b) (l := m))) with y | y
        · exact y.symm
        · have := p2 a x; have := p1 b y; omega
    subst e
    rw [le_one q1 q2 ((List.perm_cons a).mp h)]
def iota (n : Nat) : List Int := (List.range n).map Int.ofNat
theorem iota_len (n : Nat) : (iota n).length = n := by simp [iota]
theorem iota_succ (n : Nat) : iota (n + 1) = iota n ++ [(n : Int)] := by simp [iota, List.range_succ]
theorem iota_mem {n : Nat} {k : Int} : k ∈ iota n ↔ 0 ≤ k ∧ k < n := by
  unfold iota
  rw [List.mem_map]
  constructor
  · rintro ⟨m, hm, rfl⟩
    have := List.mem_range.mp hm
    exact ⟨Int.natCast_nonneg _, by show (m : Int) < n; omega⟩
  · rintro ⟨h1, h2⟩
    exact ⟨k.toNat, List.mem_range.mpr (by omega), by show ((k.toNat : Nat) : Int) = k; omega⟩
theorem iota_pw (n : Nat) : (iota n).Pairwise (· < ·) := by
  unfold iota
  rw [List.pairwise_map]
  exact List.pairwise_lt_range.imp fun h => by show ((_ : Nat) : Int) < ((_ : Nat) : Int); omega
/-- the marks at the place v -/
def grp (f : Int → Int) (ms : List Int) (v : Int) : List Int := ms.filter fun k => f k == v
/-- the order: places rising, the marks at each -/
def ord (f : Int → Int) (ms : List Int) : List (List Int) := (sortU (ms.map f)).map (grp f ms)
theorem grp_snoc {f : Int → Int} {ms : List Int} {k v : Int} : grp f (ms ++ [k]) v = if f k = v then grp f ms v ++ [k] else grp f ms v := by
  unfold grp
  rw [List.filter_append]
  by_cases h : f k = v
  · rw [if_pos h]; simp [h]
  · rw [if_neg h]; simp [h]
theorem grp_none {f : Int → Int} {ms : List Int} {v : Int} (h : v ∉ ms.map f) : grp f ms v = [] := by
  unfold grp
  rw [List.filter_eq_nil_iff]
  intro k hk e
  exact h (List.mem_map.mpr ⟨k, hk, by simpa using e⟩)
theorem ord_congr {f g : Int → Int} {ms : List Int} (h : ∀ k ∈ ms, f k = g k) : ord f ms = ord g ms := by
  unfold ord
  have e : ms.map f = ms.map g := List.map_congr_left h
  rw [e]
  refine List.map_congr_left fun v _ => ?_
  unfold grp
  exact List.filter_congr fun k hk => by rw [h k hk]
theorem pw_rev_map {y : Int} {W : List Int} (h : W.Pairwise (· < ·)) : ((W.map (y - ·)).reverse).Pairwise (· < ·) := by
  rw [List.pairwise_reverse, List.pairwise_map]
  exact h.imp fun h => by omega
/-- the other way round -/
theorem ord_mirror {f g : Int → Int} {ms : List Int} {y : Int} (hf : ∀ k ∈ ms, 0 ≤ f k ∧ f k < y) (hg : ∀ k ∈ ms, g k = if f k = 0 then 0 else y - f k) {k0 : Int} (h0 : k0 ∈ ms) (z0 : f k0 = 0) :
    ord g ms = (ord f ms).take 1 ++ ((ord f ms).drop 1).reverse := by
  have hm : ∀ v, v ∈ sortU (ms.map f) → 0 ≤ v ∧ v < y := fun v hv => by
    obtain ⟨k, hk, rfl⟩ := List.mem_map.mp (sortU_mem.mp hv)
    exact hf k hk
  have m0 : (0 : Int) ∈ sortU (ms.map f) := sortU_mem.mpr (List.mem_map.mpr ⟨k0, h0, z0⟩)
  obtain ⟨W, hW⟩ : ∃ W, sortU (ms.map f) = 0 :: W := by
    cases e : sortU (ms.map f) with
    | nil => rw [e] at m0; simp at m0
    | cons a W =>
      have p := sortU_pw (ms.map f)
      rw [e] at p m0 hm
      obtain ⟨p1, _⟩ := List.pairwise_cons.mp p
      rcases List.mem_cons.mp m0 with q | q
      · exact ⟨W, by rw [← q]⟩
      · have := p1 0 q
        have := (hm a List.mem_cons_self).1
        omega
  have pw : (0 :: W).Pairwise (· < ·) := by rw [← hW]; exact sortU_pw _
  obtain ⟨pW, qW⟩ := List.pairwise_cons.mp pw
  have mW : ∀ v ∈ W, 0 < v ∧ v < y := fun v hv => ⟨pW v hv, (hm v (by rw [hW]; exact List.mem_cons_of_mem _ hv)).2⟩
  have eV : sortU (ms.map g) = 0 :: (W.map (y - ·)).reverse := by
    refine strict_one (sortU_pw _) (List.pairwise_cons.mpr ⟨fun b hb => ?_, pw_rev_map qW⟩) fun v => ?_
    · obtain ⟨u, hu, rfl⟩ := List.mem_map.mp (List.mem_reverse.mp hb)
      have := (mW u hu).2
      show 0 < y - u
      omega
    · rw [sortU_mem, List.mem_map, List.mem_cons, List.mem_reverse, List.mem_map]
      constructor
      · rintro ⟨k, hk, rfl⟩
        rw [hg k hk]
        by_cases e : f k = 0
        · rw [if_pos e]; exact .inl rfl
        · rw [if_neg e]
          refine .inr ⟨f k, ?_, rfl⟩
          have : f k ∈ sortU (ms.map f) := sortU_mem.mpr (List.mem_map.mpr ⟨k, hk, rfl⟩)
          rw [hW] at this
          exact (List.mem_cons.mp this).resolve_left e
      · rintro (rfl | ⟨u, hu, rfl⟩)
        · exact ⟨k0, h0, by rw [hg k0 h0, if_pos z0]⟩
        · have : u ∈ sortU (ms.map f) := by rw [hW]; exact List.mem_cons_of_mem _ hu
          obtain ⟨k, hk, e⟩ := List.mem_map.mp (sortU_mem.mp this)
          refine ⟨k, hk, ?_⟩
          have := (mW u hu).1
          rw [hg k hk, e, if_neg (by omega)]
  have g0 : grp g ms 0 = grp f ms 0 := List.filter_congr fun k hk => by
    rw [hg k hk]
    have := hf k hk
    by_cases e : f k = 0
    · rw [if_pos e, e]
    · rw [if_neg e]
      rw [beq_eq_false_iff_ne.mpr e, beq_eq_false_iff_ne.mpr (by omega)]
  have gW : ∀ u ∈ W, grp g ms (y - u) = grp f ms u := fun u hu => List.filter_congr fun k hk => by
    rw [hg k hk]
    have h1 := hf k hk
    have h2 := mW u hu
    by_cases e : f k = 0
    · rw [if_pos e, beq_eq_false_iff_ne.mpr (by omega), beq_eq_false_iff_ne.mpr (by omega)]
    · rw [if_neg e]
      by_cases e2 : f k = u
      · rw [e2]; simp
      · rw [beq_eq_false_iff_ne.mpr e2, beq_eq_false_iff_ne.mpr (by omega)]
  unfold ord
  rw [eV, hW, List.map_cons, List.map_cons, g0, List.map_reverse, List.map_map]
  show _ = [grp f ms 0] ++ (List.map (grp f ms) W).reverse
  rw [List.singleton_append]
  congr 2
  exact List.map_congr_left fun u hu => gW u hu
end Mt
namespace Mt
theorem map_inj {α β : Type} {g : α → β} : ∀ {l : List α}, (l.map g).Nodup → ∀ {a b : α}, a ∈ l → b ∈ l → g a = g b → a = b
  | [], _, _, _, h, _, _ => by simp at h
  | c :: l, n, a, b, ha, hb, e => by
    obtain ⟨n1, n2⟩ := List.nodup_cons.mp (show (g c :: l.map g).Nodup from n)
    rcases List.mem_cons.mp ha with x | x
    · rcases List.mem_cons.mp hb with y | y
      · rw [x, y]
      · subst x
        exact absurd (List.mem_map.mpr ⟨b, y, e.symm⟩) n1
    · rcases List.mem_cons.mp hb with y | y
      · subst y
        exact absurd (List.mem_map.mpr ⟨a, x, e⟩) n1
      · exact map_inj n2 x y e
end Mt
namespace Mt
theorem insU_len (v : Int) : ∀ m : List Int, (insU v m).length ≤ m.length + 1
  | [] => Nat.le_refl 1
  | b :: m => by
    unfold insU
    split
    · exact Nat.le_refl _
    · split
      · exact Nat.le_succ _
      · exact Nat.succ_le_succ (insU_len v m)
theorem sortU_len : ∀ l : List Int, (sortU l).length ≤ l.length
  | [] => Nat.le_refl 0
  | a :: l => Nat.le_trans (insU_len a (sortU l)) (Nat.succ_le_succ (sortU_len l))
end Mt
set_option Elab.async false
set_option maxRecDepth 100000
set_option maxHeartbeats 1000000
set_option linter.all false
/-! which mark comes behind another one: places that are told by f, of the marks below n -/
namespace Mt
/-- places on a rim of length y: unlike ones for the first n marks -/
structure Rim (f : Int → Int) (y n : Int) : Prop where
  r : ∀ k, 0 ≤ f k ∧ f k < y
  s : ∀ i j, f (i - j) = f i - f j ∨ f (i - j) = f i - f j + y
  z : ∀ k, 0 < k → k < n → f k ≠ 0
/-- m is met first behind k -/
def Nx (f : Int → Int) (n k m : Int) : Prop := 0 ≤ m ∧ m < n ∧ m ≠ k ∧ ∀ j, 0 ≤ j → j < n → j ≠ k → f (m - k) ≤ f (j - k)
/-- m is met last behind k -/
def Pv (f : Int → Int) (n k m : Int) : Prop := 0 ≤ m ∧ m < n ∧ m ≠ k ∧ ∀ j, 0 ≤ j → j < n → j ≠ k → f (k - m) ≤ f (k - j)
def behind (n A B k : Int) : Int := if k < n - A then k + A else if B ≤ k then k - B else k + A - B
section
variable {f : Int → Int} {y n : Int}
theorem Rim.y0 (R : Rim f y n) : 0 < y := by
  have := R.r 0; omega
theorem Rim.f0 (R : Rim f y n) : f 0 = 0 := by
  have h := R.s 0 0
  have := R.r 0
  rw [Int.sub_self] at h
  omega
theorem Rim.neg (R : Rim f y n) {k : Int} (h : f k ≠ 0) : f (-k) = y - f k := by
  have h1 := R.s 0 k
  have h2 := R.r (-k)
  have h3 := R.r k
  have h4 := R.f0
  rw [Int.zero_sub] at h1
  omega
theorem Rim.nz (R : Rim f y n) {k : Int} (h : k ≠ 0) (h1 : -n < k) (h2 : k < n) : f k ≠ 0 := by
  rcases Int.lt_or_lt_of_ne h with c | c
  · intro e
    have h3 := R.z (-k) (by omega) (by omega)
    have h4 := R.neg h3
    rw [Int.neg_neg] at h4
    have := R.r (-k)
    omega
  · exact R.z k c h2
theorem Rim.one (R : Rim f y n) {i j : Int} (hi : 0 ≤ i) (hi' : i < n) (hj : 0 ≤ j) (hj' : j < n) (e : f i = f j) : i = j := by
  rcases Int.decEq i j with c | c
  · have h1 := R.nz (k := i - j) (by omega) (by omega) (by omega)
    have h2 := R.s i j
    have := R.r (i - j)
    omega
  · exact c
theorem Nx.one (R : Rim f y n) {k m m' : Int} (h : Nx f n k m) (h' : Nx f n k m') : m = m' := by
  obtain ⟨a, b, c, d⟩ := h
  obtain ⟨a', b', c', d'⟩ := h'
  have e1 := d m' a' b' c'
  have e2 := d' m a b c
  rcases Int.decEq m m' with q | q
  · have h1 := R.nz (k := m - m') (by omega) (by omega) (by omega)
    have h2 := R.s (m - k) (m' - k)
    rw [show m - k - (m' - k) = m - m' by omega] at h2
    have := R.r (m - m')
    omega
  · exact q
theorem Pv.one (R : Rim f y n) {k m m' : Int} (h : Pv f n k m) (h' : Pv f n k m') : m = m' := by
  obtain ⟨a, b, c, d⟩ := h
  obtain ⟨a', b', c', d'⟩ := h'
  have e1 := d m' a' b' c'
  have e2 := d' m a b c
  rcases Int.decEq m m' with q | q
  · have h1 := R.nz (k := m' - m) (by omega) (by omega) (by omega)
    have h2 := R.s (k - m) (k - m')
    rw [show k - m - (k - m') = m' - m by omega] at h2
    have := R.r (m' - m)
    omega
  · exact q
theorem Nx.back (R : Rim f y n) {k m : Int} (hk : 0 ≤ k) (hk' : k < n) (h : Nx f n k m) : Pv f n m k := by
  obtain ⟨a, b, c, d⟩ := h
  refine ⟨hk, hk', Ne.symm c, fun j j0 j1 j2 => ?_⟩
  rcases Int.decEq j k with q | q
  · have h1 := d j j0 j1 q
    have h2 := R.s (m - k) (m - j)
    rw [show m - k - (m - j) = j - k by omega] at h2
    have h3 := R.r (j - k)
    have h4 := R.r (m - j)
    have h5 := R.r (m - k)
    have h6 := R.nz (k := m - j) (by omega) (by omega) (by omega)
    omega
  · subst q; exact Int.le_refl _
/-- the three cases -/
theorem gap (R : Rim f y n) {A B k : Int} (A0 : 0 < A) (A1 : A < n) (B0 : 0 < B) (B1 : B < n) (hA : ∀ k, 0 < k → k < n → f A ≤ f k) (hB : ∀ k, 0 < k → k < n → f k ≤ f B) (k0 : 0 ≤ k) (k1 : k < n) : Nx f n k (behind n A B k) := by
  have a0 := R.z A A0 A1
  have b0 := R.z B B0 B1
  have ra := R.r A
  have rb := R.r B
  have nb := R.neg b0
  unfold behind
  split
  · rename_i c1
    refine ⟨by omega, by omega, by omega, fun j j0 j1 j2 => ?_⟩
    rw [show k + A - k = A by omega]
    rcases Int.lt_or_lt_of_ne j2 with c | c
    · have h1 := hA (A - (j - k)) (by omega) (by omega)
      have h2 := R.s A (j - k)
      have h3 := R.nz (k := j - k) (by omega) (by omega) (by omega)
      have h4 := R.r (j - k)
      have h5 := R.r (A - (j - k))
      omega
    · exact hA _ (by omega) (by omega)
  · rename_i c1
    split
    · rename_i c2
      refine ⟨by omega, by omega, by omega, fun j j0 j1 j2 => ?_⟩
      rw [show k - B - k = -B by omega, nb]
      rcases Int.lt_or_lt_of_ne j2 with c | c
      · have h1 := hB (k - j) (by omega) (by omega)
        have h2 := R.z (k - j) (by omega) (by omega)
        have h3 := R.neg h2
        rw [show -(k - j) = j - k by omega] at h3
        omega
      · have h1 := hB (B + (j - k)) (by omega) (by omega)
        have h2 := R.s (B + (j - k)) (j - k)
        rw [show B + (j - k) - (j - k) = B by omega] at h2
        have h3 := R.nz (k := j - k) (by omega) (by omega) (by omega)
        have h4 := R.r (j - k)
        have h5 := R.r (B + (j - k))
        omega
    · rename_i c2
      have ne : A ≠ B := fun e => by
        subst e
        have e1 : ∀ k, 0 < k → k < n → f k = f A := fun k h h' => by
          have := hA k h h'; have := hB k h h'; omega
        by_cases h : A = 1
        · omega
        · have h1 := e1 (A - 1) (by omega) (by omega)
          have := R.one (i := A - 1) (j := A) (by omega) (by omega) (by omega) (by omega) h1
          omega
      have lt : f A < f B := by
        have h1 := hA B B0 B1
        rcases Int.lt_or_eq_of_le h1 with h | h
        · exact h
        · exact absurd (R.one (by omega) A1 (by omega) B1 h) ne
      have hab := R.s A B
      have rab := R.r (A - B)
      refine ⟨by omega, by omega, by omega, fun j j0 j1 j2 => ?_⟩
      rw [show k + A - B - k = A - B by omega]
      rcases Int.lt_or_lt_of_ne j2 with c | c
      · have h1 := hB (k - j) (by omega) (by omega)
        have h2 := R.z (k - j) (by omega) (by omega)
        have h3 := R.neg h2
        rw [show -(k - j) = j - k by omega] at h3
        have h4 := hA (B - (k - j)) (by omega) (by omega)
        have h5 := R.s B (k - j)
        have h6 := R.r (k - j)
        have h7 := R.r (B - (k - j))
        omega
      · have h1 := hA (j - k) (by omega) (by omega)
        have h2 := hB (A - (j - k)) (by omega) (by omega)
        have h3 := R.s A (j - k)
        have h4 := R.z (A - (j - k)) (by omega) (by omega)
        have h5 := R.r (A - (j - k))
        omega
/-- and so the other way round -/
theorem gapB (R : Rim f y n) {A B k : Int} (A0 : 0 < A) (A1 : A < n) (B0 : 0 < B) (B1 : B < n) (hA : ∀ k, 0 < k → k < n → f A ≤ f k) (hB : ∀ k, 0 < k → k < n → f k ≤ f B) (k0 : 0 ≤ k) (k1 : k < n) : Pv f n k (behind n B A k) := by
  have R' : Rim (fun k => f (-k)) y n := ⟨fun k => R.r (-k), fun i j => by
    show f (-(i - j)) = f (-i) - f (-j) ∨ f (-(i - j)) = f (-i) - f (-j) + y
    rw [show -(i - j) = -i - -j by omega]
    exact R.s (-i) (-j), fun k h h' => R.nz (by omega) (by omega) (by omega)⟩
  have h := gap R' (A := B) (B := A) (k := k) B0 B1 A0 A1 (fun k h h' => by
    show f (-B) ≤ f (-k)
    rw [R.neg (R.z B B0 B1), R.neg (R.z k h h')]
    have := hB k h h'; omega) (fun k h h' => by
    show f (-k) ≤ f (-A)
    rw [R.neg (R.z A A0 A1), R.neg (R.z k h h')]
    have := hA k h h'; omega) k0 k1
  obtain ⟨a, b, c, d⟩ := h
  refine ⟨a, b, c, fun j j0 j1 j2 => ?_⟩
  have := d j j0 j1 j2
  rw [show k - behind n B A k = -(behind n B A k - k) by omega, show k - j = -(j - k) by omega]
  exact this
theorem min_sum (R : Rim f y n) {A B : Int} (A0 : 0 < A) (A1 : A < n) (B0 : 0 < B) (B1 : B < n) (hA : ∀ k, 0 < k → k < n → f A ≤ f k) (hB : ∀ k, 0 < k → k < n → f k ≤ f B) : n ≤ A + B := by
  rcases Int.lt_or_le (A + B) n with c | c
  · have h1 := hA (A + B) (by omega) c
    have h2 := hB (A + B) (by omega) c
    have h3 := R.s (A + B) B
    rw [show A + B - B = A by omega] at h3
    have h4 := R.z A A0 A1
    have h5 := R.z B B0 B1
    have h6 := R.r A
    have h7 := R.r B
    omega
  · exact c
end
/-! the places of a step -/
theorem rim_step {x y n : Int} (hy : 0 < y) (co : Nat.gcd x.natAbs y.natAbs = 1) (hn : n ≤ y) : Rim (fun k => x * k % y) y n := by
  refine ⟨fun k => ⟨Int.emod_nonneg _ (by omega), Int.emod_lt_of_pos _ hy⟩, fun i j => ?_, fun k h h' e => ?_⟩
  · have h1 : x * (i - j) % y = (x * i % y - x * j % y) % y := by
      rw [Int.mul_sub, Int.sub_emod]
    have a1 := Int.emod_nonneg (x * i) (show y ≠ 0 by omega)
    have a2 := Int.emod_lt_of_pos (x * i) hy
    have b1 := Int.emod_nonneg (x * j) (show y ≠ 0 by omega)
    have b2 := Int.emod_lt_of_pos (x * j) hy
    show x * (i - j) % y = x * i % y - x * j % y ∨ x * (i - j) % y = x * i % y - x * j % y + y
    rw [h1]
    rcases Int.lt_or_le (x * i % y) (x * j % y) with c | c
    · right
      rw [← Int.add_emod_right]
      exact Int.emod_eq_of_lt (by omega) (by omega)
    · left
      exact Int.emod_eq_of_lt (by omega) (by omega)
  · have d : y ∣ x * k := Int.dvd_of_emod_eq_zero e
    have d1 : y.natAbs ∣ x.natAbs * k.natAbs := by
      have := Int.natAbs_dvd_natAbs.mpr d
      rwa [Int.natAbs_mul] at this
    have d2 : y.natAbs ∣ k.natAbs := (Nat.Coprime.symm co).dvd_of_dvd_mul_left d1
    have := Nat.le_of_dvd (by omega) d2
    omega
/-- two marks beside 0 as they are looked for: low and high, how far they are, p and q the tops of the neighbours -/
structure Side (x y n low fl high fh p q : Int) : Prop where
  l0 : 0 < low
  l1 : low < n
  h0 : 0 < high
  h1 : high < n
  e1 : low * x - p * y = fl
  e2 : q * y - high * x = fh
  de : low * q - high * p = 1
  fl0 : 0 < fl
  fh0 : 0 < fh
theorem Side.val {x y n low fl high fh p q : Int} (S : Side x y n low fl high fh p q) : low * fh + high * fl = y := by
  have h1 := S.e1; have h2 := S.e2; have h3 := S.de
  grind
theorem mod_at {a p y r : Int} (e : a - p * y = r) (h0 : 0 ≤ r) (h1 : r < y) : a % y = r := by
  rw [show a = r + y * p by grind, Int.add_mul_emod_self_left]
  exact Int.emod_eq_of_lt h0 h1
theorem Side.fly {x y n low fl high fh p q : Int} (S : Side x y n low fl high fh p q) : fl < y ∧ fh < y := by
  have v := S.val
  have l0 := S.l0; have h0 := S.h0; have a := S.fl0; have b := S.fh0
  have h1 : 1 * fh ≤ low * fh := Int.mul_le_mul_of_nonneg_right (by omega) (by omega)
  have h2 : 1 * fl ≤ high * fl := Int.mul_le_mul_of_nonneg_right (by omega) (by omega)
  omega
theorem Side.atl {x y n low fl high fh p q : Int} (S : Side x y n low fl high fh p q) : x * low % y = fl :=
  mod_at (p := p) (by have := S.e1; grind) (by have := S.fl0; omega) S.fly.1
theorem Side.ath {x y n low fl high fh p q : Int} (S : Side x y n low fl high fh p q) : x * high % y = y - fh :=
  mod_at (p := q - 1) (by have := S.e2; grind) (by have := S.fly; omega) (by have := S.fh0; omega)
/-- nothing lies nearer below low + high -/
theorem Side.near {x y n low fl high fh p q : Int} (S : Side x y n low fl high fh p q) {k : Int} (k0 : 0 < k) (k1 : k < low + high) : fl ≤ x * k % y ∧ x * k % y ≤ y - fh := by
  have y0 : 0 < y := by have := S.fly; have := S.fl0; omega
  have e := Int.emod_add_mul_ediv (x * k) y
  have m0 := Int.emod_nonneg (x * k) (show y ≠ 0 by omega)
  have m1 := Int.emod_lt_of_pos (x * k) y0
  generalize x * k % y = g at *
  generalize x * k / y = r at *
  have l0 := S.l0; have h0 := S.h0; have a0 := S.fl0; have b0 := S.fh0
  constructor
  · obtain ⟨u, hu⟩ : ∃ u, u = k * q - r * high := ⟨_, rfl⟩
    obtain ⟨v, hv⟩ : ∃ v, v = r * low - k * p := ⟨_, rfl⟩
    have e1 := S.e1; have e2 := S.e2; have de := S.de
    have c1 : k = u * low + v * high := by grind
    have c2 : g = u * fl - v * fh := by grind
    have u1 : 0 < u := by
      rcases Int.lt_or_le 0 u with c | c
      · exact c
      · have z1 : u * fl ≤ 0 := Int.mul_nonpos_of_nonpos_of_nonneg c (by omega)
        have z2 : u * low ≤ 0 := Int.mul_nonpos_of_nonpos_of_nonneg c (by omega)
        rcases Int.lt_or_le 0 v with d | d
        · have := Int.mul_pos d b0; omega
        · have := Int.mul_nonpos_of_nonpos_of_nonneg d (show 0 ≤ high by omega); omega
    have v1 : v ≤ 0 := by
      rcases Int.lt_or_le 0 v with d | d
      · have z1 : 1 * low ≤ u * low := Int.mul_le_mul_of_nonneg_right (by omega) (by omega)
        have z2 : 1 * high ≤ v * high := Int.mul_le_mul_of_nonneg_right (by omega) (by omega)
        omega
      · exact d
    have z1 : 1 * fl ≤ u * fl := Int.mul_le_mul_of_nonneg_right (by omega) (by omega)
    have z2 := Int.mul_nonpos_of_nonpos_of_nonneg v1 (show 0 ≤ fh by omega)
    omega
  · obtain ⟨u, hu⟩ : ∃ u, u = k * q - (r + 1) * high := ⟨_, rfl⟩
    obtain ⟨v, hv⟩ : ∃ v, v = (r + 1) * low - k * p := ⟨_, rfl⟩
    have e1 := S.e1; have e2 := S.e2; have de := S.de
    have c1 : k = u * low + v * high := by grind
    have c2 : y - g = v * fh - u * fl := by grind
    have v1 : 0 < v := by
      rcases Int.lt_or_le 0 v with c | c
      · exact c
      · have z1 : v * fh ≤ 0 := Int.mul_nonpos_of_nonpos_of_nonneg c (by omega)
        have z2 : v * high ≤ 0 := Int.mul_nonpos_of_nonpos_of_nonneg c (by omega)
        rcases Int.lt_or_le 0 u with d | d
        · have := Int.mul_pos d a0; omega
        · have := Int.mul_nonpos_of_nonpos_of_nonneg d (show 0 ≤ low by omega); omega
    have u1 : u ≤ 0 := by
      rcases Int.lt_or_le 0 u with d | d
      · have z1 : 1 * low ≤ u * low := Int.mul_le_mul_of_nonneg_right (by omega) (by omega)
        have z2 : 1 * high ≤ v * high := Int.mul_le_mul_of_nonneg_right (by omega) (by omega)
        omega
      · exact d
    have z1 : 1 * fh ≤ v * fh := Int.mul_le_mul_of_nonneg_right (by omega) (by omega)
    have z2 := Int.mul_nonpos_of_nonpos_of_nonneg u1 (show 0 ≤ fl by omega)
    omega
theorem Side.start {x y n : Int} (x0 : 0 < x) (xy : x < y) (hn : 2 ≤ n) : Side x y n 1 x 1 (y - x) 0 1 :=
  ⟨by omega, by omega, by omega, by omega, by omega, by omega, by omega, x0, by omega⟩
/-- low is moved on -/
theorem Side.low {x y n low fl high fh p q t : Int} (S : Side x y n low fl high fh p q) (co : Nat.gcd x.natAbs y.natAbs = 1) (hn : n ≤ y) (t0 : 0 ≤ t) (t1 : t * fh ≤ fl) (t2 : t * high ≤ n - 1 - low) : Side x y n (low + t * high) (fl - t * fh) high fh (p + t * q) q := by
  have e1 := S.e1; have e2 := S.e2; have de := S.de
  have l0 := S.l0; have h0 := S.h0; have h1 := S.h1; have b0 := S.fh0
  have y0 : 0 < y := by have := S.fly; omega
  have z : 0 ≤ t * high := Int.mul_nonneg t0 (by omega)
  refine ⟨by omega, by omega, h0, h1, by grind, e2, by grind, ?_, b0⟩
  rcases Int.lt_or_eq_of_le t1 with c | c
  · omega
  · refine absurd ?_ ((rim_step y0 co hn).z (low + t * high) (by omega) (by omega))
    exact mod_at (p := p + t * q) (by grind) (by omega) y0
theorem Side.high {x y n low fl high fh p q t : Int} (S : Side x y n low fl high fh p q) (co : Nat.gcd x.natAbs y.natAbs = 1) (hn : n ≤ y) (t0 : 0 ≤ t) (t1 : t * fl ≤ fh) (t2 : t * low ≤ n - 1 - high) : Side x y n low fl (high + t * low) (fh - t * fl) p (q + t * p) := by
  have e1 := S.e1; have e2 := S.e2; have de := S.de
  have l0 := S.l0; have l1 := S.l1; have h0 := S.h0; have h1 := S.h1; have a0 := S.fl0
  have y0 : 0 < y := by have := S.fly; omega
  have z : 0 ≤ t * low := Int.mul_nonneg t0 (by omega)
  refine ⟨l0, l1, by omega, by omega, e1, by grind, by grind, a0, ?_⟩
  rcases Int.lt_or_eq_of_le t1 with c | c
  · omega
  · refine absurd ?_ ((rim_step y0 co hn).z (high + t * low) (by omega) (by omega))
    exact mod_at (p := q + t * p) (by grind) (by omega) y0
/-- how often: no more than fits, at least once where it fits -/
theorem times_ok {a b c d : Int} (b0 : 0 < b) (d0 : 0 < d) (a0 : 0 ≤ a) (c0 : 0 ≤ c) : 0 ≤ min (a / b) (c / d) ∧ min (a / b) (c / d) * b ≤ a ∧ min (a / b) (c / d) * d ≤ c ∧ (b ≤ a → d ≤ c → 1 ≤ min (a / b) (c / d)) := by
  have h1 : a / b * b ≤ a := Int.ediv_mul_le a (by omega)
  have h2 : c / d * d ≤ c := Int.ediv_mul_le c (by omega)
  have h3 : 0 ≤ a / b := Int.ediv_nonneg a0 (by omega)
  have h4 : 0 ≤ c / d := Int.ediv_nonneg c0 (by omega)
  have m1 : min (a / b) (c / d) ≤ a / b := Int.min_le_left _ _
  have m2 : min (a / b) (c / d) ≤ c / d := Int.min_le_right _ _
  have z1 := Int.mul_le_mul_of_nonneg_right m1 (show 0 ≤ b by omega)
  have z2 := Int.mul_le_mul_of_nonneg_right m2 (show 0 ≤ d by omega)
  refine ⟨by omega, by omega, by omega, fun u v => ?_⟩
  have w1 : 1 ≤ a / b := (Int.le_ediv_iff_mul_le b0).mpr (by omega)
  have w2 : 1 ≤ c / d := (Int.le_ediv_iff_mul_le d0).mpr (by omega)
  omega
/-- one turn of looking for them -/
theorem Side.turn {x y n low fl high fh p q : Int} (S : Side x y n low fl high fh p q) (co : Nat.gcd x.natAbs y.natAbs = 1) (hn : n ≤ y) (go : low + high < n) {t u : Int} (ht : t = min (fl / fh) ((n - 1 - low) / high))
    (hu : u = min (fh / (fl - t * fh)) ((n - 1 - high) / (low + t * high))) : (∃ p' q', Side x y n (low + t * high) (fl - t * fh) (high + u * (low + t * high)) (fh - u * (fl - t * fh)) p' q') ∧
    low ≤ low + t * high ∧ high ≤ high + u * (low + t * high) ∧ low + high < (low + t * high) + (high + u * (low + t * high)) := by
  have l0 := S.l0; have h0 := S.h0; have a0 := S.fl0; have b0 := S.fh0; have l1 := S.l1; have h1 := S.h1
  obtain ⟨w1, w2, w3, w4⟩ := times_ok (a := fl) (c := n - 1 - low) b0 h0 (by omega) (by omega)
  rw [← ht] at w1 w2 w3 w4
  have S1 := S.low co hn w1 w2 w3
  have a1 := S1.fl0; have l2 := S1.l0
  obtain ⟨v1, v2, v3, v4⟩ := times_ok (a := fh) (c := n - 1 - high) a1 l2 (by omega) (by omega)
  rw [← hu] at v1 v2 v3 v4
  have S2 := S1.high co hn v1 v2 v3
  have z1 : 0 ≤ t * high := Int.mul_nonneg w1 (by omega)
  have z2 : 0 ≤ u * (low + t * high) := Int.mul_nonneg v1 (by omega)
  refine ⟨⟨_, _, S2⟩, by omega, by omega, ?_⟩
  rcases Int.lt_or_le fl fh with c | c
  · rcases Int.lt_or_le 0 t with d | d
    · have := Int.mul_pos d h0; omega
    · have t0 : t = 0 := by omega
      subst t0
      rw [Int.zero_mul, Int.sub_zero] at v4
      rw [Int.zero_mul, Int.add_zero] at *
      have := v4 (by omega) (by omega)
      have := Int.mul_pos (show 0 < u by omega) l0
      omega
  · have := w4 c (by omega)
    have := Int.mul_pos (show 0 < t by omega) h0
    omega
/-- where it ends they are the nearest of all -/
theorem Side.found {x y n low fl high fh p q : Int} (S : Side x y n low fl high fh p q) (e : n ≤ low + high) : (∀ k, 0 < k → k < n → x * low % y ≤ x * k % y) ∧ ∀ k, 0 < k → k < n → x * k % y ≤ x * high % y := by
  rw [S.atl, S.ath]
  exact ⟨fun k k0 k1 => (S.near k0 (by omega)).1, fun k k0 k1 => (S.near k0 (by omega)).2⟩
theorem Side.gcd {x y n low fl high fh p q : Int} (S : Side x y n low fl high fh p q) : Nat.gcd low.natAbs high.natAbs = 1 := by
  have d1 : ((Nat.gcd low.natAbs high.natAbs : Nat) : Int) ∣ low := Int.ofNat_dvd_left.mpr (Nat.gcd_dvd_left _ _)
  have d2 : ((Nat.gcd low.natAbs high.natAbs : Nat) : Int) ∣ high := Int.ofNat_dvd_left.mpr (Nat.gcd_dvd_right _ _)
  have d3 := Int.dvd_sub (Int.dvd_mul_of_dvd_left d1 (b := low) (c := q)) (Int.dvd_mul_of_dvd_left d2 (b := high) (c := p))
  rw [S.de] at d3
  have := Int.natAbs_dvd_natAbs.mpr d3
  rw [Int.natAbs_natCast] at this
  exact Nat.dvd_one.mp this
/-- they exist -/
theorem side_ex {x y n : Int} (x0 : 0 < x) (xy : x < y) (co : Nat.gcd x.natAbs y.natAbs = 1) (hn : n ≤ y) (n2 : 2 ≤ n) : ∃ low fl high fh p q, Side x y n low fl high fh p q ∧ n ≤ low + high := by
  have go : ∀ (k : Nat) (low fl high fh p q : Int), Side x y n low fl high fh p q → (2 * n - low - high).toNat ≤ k → ∃ low fl high fh p q, Side x y n low fl high fh p q ∧ n ≤ low + high := by
    intro k
    induction k with
    | zero =>
      intro low fl high fh p q S h
      have := S.l1; have := S.h1; omega
    | succ k ih =>
      intro low fl high fh p q S h
      rcases Int.lt_or_le (low + high) n with c | c
      · obtain ⟨⟨p', q', S'⟩, a, b, d⟩ := S.turn co hn c rfl rfl
        exact ih _ _ _ _ _ _ S' (by omega)
      · exact ⟨_, _, _, _, _, _, S, c⟩
  exact go _ _ _ _ _ _ _ (Side.start x0 xy n2) (Nat.le_refl _)
end Mt
set_option Elab.async false
set_option maxRecDepth 100000
set_option maxHeartbeats 1000000
set_option linter.all false
/-! the order of unlike places as a row of marks -/
namespace Mt
/-- the marks as they are met -/
structure Row (f : Int → Int) (n : Nat) (l : List Int) : Prop where
  len : l.length = n
  mem : ∀ k, k ∈ l ↔ 0 ≤ k ∧ k < n
  up : (l.map f).Pairwise (· < ·)
  ord : ord f (iota n) = l.map fun k => [k]
theorem insU_lenE {v : Int} : ∀ {l : List Int}, v ∉ l → (insU v l).length = l.length + 1
  | [], _ => rfl
  | a :: l, h => by
    unfold insU
    split
    · rfl
    · split
      · rename_i e; exact absurd (by rw [e]; exact List.mem_cons_self) h
      · rw [List.length_cons, insU_lenE (fun z => h (List.mem_cons_of_mem _ z)), List.length_cons]
theorem sortU_lenE : ∀ {l : List Int}, l.Nodup → (sortU l).length = l.length
  | [], _ => rfl
  | a :: l, h => by
    obtain ⟨h1, h2⟩ := List.nodup_cons.mp h
    show (insU a (sortU l)).length = _
    rw [insU_lenE (fun z => h1 (sortU_mem.mp z)), sortU_lenE h2, List.length_cons]
theorem row_ex {f : Int → Int} {n : Nat} (inj : ∀ i j : Int, 0 ≤ i → i < n → 0 ≤ j → j < n → f i = f j → i = j) : ∃ l, Row f n l := by
  have one : ∀ v ∈ sortU ((iota n).map f), ∃ k, k ∈ iota n ∧ f k = v ∧ grp f (iota n) v = [k] := by
    intro v hv
    obtain ⟨k, hk, e⟩ := List.mem_map.mp (sortU_mem.mp hv)
    refine ⟨k, hk, e, ?_⟩
    obtain ⟨k0, k1⟩ := iota_mem.mp hk
    refine strict_one ((iota_pw n).filter _) (List.pairwise_singleton _ _) fun u => ?_
    unfold grp
    rw [List.mem_filter, List.mem_singleton]
    constructor
    · rintro ⟨a, b⟩
      obtain ⟨u0, u1⟩ := iota_mem.mp a
      exact inj u k u0 u1 k0 k1 (by rw [e]; simpa using b)
    · rintro rfl
      exact ⟨hk, by simpa using e⟩
  have nd : ((iota n).map f).Nodup := by
    unfold List.Nodup
    rw [List.pairwise_map]
    refine List.Pairwise.imp_of_mem ?_ (iota_pw n)
    intro a b ha hb h e
    obtain ⟨a0, a1⟩ := iota_mem.mp ha
    obtain ⟨b0, b1⟩ := iota_mem.mp hb
    have := inj a b a0 a1 b0 b1 e
    omega
  let h := fun v => (grp f (iota n) v).headD 0
  have hh : ∀ v ∈ sortU ((iota n).map f), f (h v) = v ∧ h v ∈ iota n ∧ grp f (iota n) v = [h v] := by
    intro v hv
    obtain ⟨k, a, b, c⟩ := one v hv
    have e : h v = k := by
      show (grp f (iota n) v).headD 0 = k
      rw [c]; rfl
    rw [e]; exact ⟨b, a, c⟩
  refine ⟨(sortU ((iota n).map f)).map h, ?_, fun k => ?_, ?_, ?_⟩
  · rw [List.length_map, sortU_lenE nd, List.length_map, iota_len]
  · rw [List.mem_map]
    constructor
    · rintro ⟨v, hv, rfl⟩
      exact iota_mem.mp (hh v hv).2.1
    · intro hk
      have hm : f k ∈ sortU ((iota n).map f) := sortU_mem.mpr (List.mem_map.mpr ⟨k, iota_mem.mpr hk, rfl⟩)
      refine ⟨f k, hm, ?_⟩
      obtain ⟨a, b, _⟩ := hh _ hm
      obtain ⟨b0, b1⟩ := iota_mem.mp b
      exact inj _ _ b0 b1 hk.1 hk.2 a
  · rw [List.map_map]
    have e : (sortU ((iota n).map f)).map (f ∘ h) = sortU ((iota n).map f) := by
      conv => rhs; rw [← List.map_id (sortU ((iota n).map f))]
      exact List.map_congr_left fun v hv => (hh v hv).1
    rw [e]
    exact sortU_pw _
  · unfold Mt.ord
    rw [List.map_map]
    exact List.map_congr_left fun v hv => (hh v hv).2.2
section
variable {f : Int → Int} {y : Int} {n : Nat} {l : List Int}
theorem Row.get (T : Row f n l) {i : Nat} (hi : i < n) : ∃ k, l[i]? = some k ∧ 0 ≤ k ∧ k < n := by
  have h : i < l.length := by rw [T.len]; exact hi
  refine ⟨l[i], List.getElem?_eq_getElem h, ?_⟩
  exact (T.mem _).mp (List.getElem_mem h)
theorem Row.at (T : Row f n l) {k : Int} (k0 : 0 ≤ k) (k1 : k < n) : ∃ i, i < n ∧ l[i]? = some k := by
  obtain ⟨i, hi, e⟩ := List.mem_iff_getElem.mp ((T.mem k).mpr ⟨k0, k1⟩)
  exact ⟨i, by rw [← T.len]; exact hi, by rw [List.getElem?_eq_getElem hi, e]⟩
theorem Row.lt (T : Row f n l) {i j : Nat} {u v : Int} (hi : l[i]? = some u) (hj : l[j]? = some v) (h : i < j) : f u < f v := by
  obtain ⟨h1, e1⟩ := List.getElem?_eq_some_iff.mp hi
  obtain ⟨h2, e2⟩ := List.getElem?_eq_some_iff.mp hj
  subst e1 e2
  have p := List.pairwise_iff_getElem.mp (List.pairwise_map.mp T.up)
  exact p i j h1 h2 h
theorem Row.le (T : Row f n l) {i j : Nat} {u v : Int} (hi : l[i]? = some u) (hj : l[j]? = some v) (h : i ≤ j) : f u ≤ f v := by
  rcases Nat.lt_or_eq_of_le h with c | c
  · exact Int.le_of_lt (T.lt hi hj c)
  · subst c; rw [hi] at hj; cases hj; exact Int.le_refl _
theorem Row.zero (T : Row f n l) (R : Rim f y n) (n0 : 0 < n) : l[0]? = some 0 := by
  obtain ⟨k, hk, k0, k1⟩ := T.get n0
  obtain ⟨i, hi, e⟩ := T.at (k := 0) (by omega) (by omega)
  have h := T.le hk e (Nat.zero_le i)
  have h0 := R.f0
  have h1 := R.r k
  have := R.one k0 k1 (Int.le_refl 0) (by omega) (by omega)
  rw [hk, this]
/-- the first and the last one -/
theorem Row.ends (T : Row f n l) (R : Rim f y n) (n2 : 2 ≤ n) {A B : Int} (hA : l[1]? = some A) (hB : l[n - 1]? = some B) : 0 < A ∧ A < n ∧ 0 < B ∧ B < n ∧ (∀ k : Int, 0 < k → k < n → f A ≤ f k) ∧ ∀ k : Int, 0 < k → k < n → f k ≤ f B := by
  have h0 := T.zero R (by omega)
  have z := R.f0
  have mA := (T.mem A).mp (List.mem_of_getElem? hA)
  have mB := (T.mem B).mp (List.mem_of_getElem? hB)
  have lA := T.lt h0 hA (by omega)
  have lB := T.lt h0 hB (by omega)
  refine ⟨?_, mA.2, ?_, mB.2, fun k k0 k1 => ?_, fun k k0 k1 => ?_⟩
  · rcases Int.lt_or_le 0 A with c | c
    · exact c
    · have : A = 0 := by omega
      rw [this] at lA; omega
  · rcases Int.lt_or_le 0 B with c | c
    · exact c
    · have : B = 0 := by omega
      rw [this] at lB; omega
  · obtain ⟨i, hi, e⟩ := T.at (k := k) (by omega) k1
    refine T.le hA e ?_
    rcases Nat.eq_zero_or_pos i with c | c
    · subst c; rw [h0] at e; cases e; omega
    · exact c
  · obtain ⟨i, hi, e⟩ := T.at (k := k) (by omega) k1
    exact T.le e hB (by omega)
/-- what follows in the row is met first -/
theorem Row.next (T : Row f n l) (R : Rim f y n) (n2 : 2 ≤ n) {j : Nat} (hj : j < n) {k m : Int} (hk : l[j]? = some k) (hm : l[(j + 1) % n]? = some m) : Nx f n k m := by
  have mk := (T.mem k).mp (List.mem_of_getElem? hk)
  have mm := (T.mem m).mp (List.mem_of_getElem? hm)
  have rk := R.r k
  have rm := R.r m
  rcases Nat.lt_or_ge (j + 1) n with c | c
  · rw [Nat.mod_eq_of_lt c] at hm
    have lt := T.lt hk hm (by omega)
    refine ⟨mm.1, mm.2, fun e => by rw [e] at lt; omega, fun i i0 i1 i2 => ?_⟩
    obtain ⟨a, ha, e⟩ := T.at i0 i1
    have s1 := R.s m k
    have r1 := R.r (m - k)
    have s2 := R.s i k
    have r2 := R.r (i - k)
    have ri := R.r i
    rcases Nat.lt_or_ge j a with d | d
    · have := T.le hm e (by omega)
      omega
    · have := T.le e hk d
      have : f i ≠ f k := fun z => i2 (R.one i0 i1 mk.1 mk.2 z)
      omega
  · have e1 : j + 1 = n := by omega
    rw [e1, Nat.mod_self] at hm
    rw [T.zero R (by omega)] at hm
    cases hm
    have h0 := T.zero R (by omega)
    have lt := T.lt h0 hk (by omega)
    have z := R.f0
    refine ⟨by omega, by omega, fun e => by rw [← e] at lt; omega, fun i i0 i1 i2 => ?_⟩
    obtain ⟨a, ha, e⟩ := T.at i0 i1
    have le := T.le e hk (by omega)
    have : f i ≠ f k := fun z => i2 (R.one i0 i1 mk.1 mk.2 z)
    have s1 := R.s 0 k
    have r1 := R.r (0 - k)
    have s2 := R.s i k
    have r2 := R.r (i - k)
    have ri := R.r i
    omega
end
end Mt
set_option Elab.async false
set_option maxRecDepth 100000
set_option maxHeartbeats 1000000
set_option linter.all false
/-! sums of whole parts; how many places lie below; the first mark between two tops -/
namespace Mt
/-- the sum of (a * k + b) / m for k below n -/
def fsum (m a b : Int) : Nat → Int
  | 0 => 0
  | n + 1 => fsum m a b n + (a * (n : Int) + b) / m
theorem div_at {a m q r : Int} (e : a = m * q + r) (h0 : 0 ≤ r) (h1 : r < m) : a / m = q := by
  rw [e, Int.add_comm, Int.add_mul_ediv_left _ _ (by omega), Int.ediv_eq_zero_of_lt h0 h1, Int.zero_add]
theorem fsum_congr {m a b a' b' : Int} {n : Nat} (h : ∀ k : Int, 0 ≤ k → k < n → (a * k + b) / m = (a' * k + b') / m) : fsum m a b n = fsum m a' b' n := by
  induction n with
  | zero => rfl
  | succ n ih =>
    show fsum m a b n + _ = fsum m a' b' n + _
    rw [ih fun k h0 h1 => h k h0 (by omega), h n (by omega) (by omega)]
/-- whole slopes and shifts come out -/
theorem tri (n : Nat) : ((n : Int) + 1) * n / 2 = (n : Int) * (n - 1) / 2 + n := by
  have h : ((n : Int) + 1) * n = n * (n - 1) + n * 2 := by grind
  rw [h, Int.add_mul_ediv_right _ _ (by decide)]
theorem fsum_whole {m a b : Int} (m0 : 0 < m) (n : Nat) : fsum m a b n = (n : Int) * (n - 1) / 2 * (a / m) + n * (b / m) + fsum m (a % m) (b % m) n := by
  induction n with
  | zero => simp [fsum]
  | succ n ih =>
    show fsum m a b n + (a * (n : Int) + b) / m = _ + (fsum m (a % m) (b % m) n + (a % m * (n : Int) + b % m) / m)
    rw [ih]
    have h : (a * (n : Int) + b) / m = (a % m * (n : Int) + b % m) / m + (a / m * n + b / m) := by
      have e1 := Int.emod_add_mul_ediv a m
      have e2 := Int.emod_add_mul_ediv b m
      rw [← Int.add_mul_ediv_right _ _ (show m ≠ 0 by omega)]
      congr 1
      grind
    rw [h]
    have t := tri n
    rw [show (((n + 1 : Nat) : Int)) * (((n + 1 : Nat) : Int) - 1) / 2 = ((n : Int) + 1) * n / 2 by congr 1; push_cast; grind, t]
    push_cast
    grind
theorem fsum_up {a m b : Int} (a0 : 0 < a) (n : Nat) : fsum a m (b + a) n = fsum a m b n + n := by
  induction n with
  | zero => rfl
  | succ n ih =>
    show fsum a m (b + a) n + (m * (n : Int) + (b + a)) / a = fsum a m b n + (m * (n : Int) + b) / a + ((n + 1 : Nat) : Int)
    rw [ih, show m * (n : Int) + (b + a) = m * (n : Int) + b + 1 * a by omega, Int.add_mul_ediv_right _ _ (by omega)]
    push_cast
    omega
theorem fsum_head {a m b : Int} (n : Nat) : fsum a m b (n + 1) = b / a + fsum a m (b + m) n := by
  induction n with
  | zero => show 0 + (m * ((0 : Nat) : Int) + b) / a = b / a + 0; simp
  | succ n ih =>
    show fsum a m b (n + 1) + (m * ((n + 1 : Nat) : Int) + b) / a = b / a + (fsum a m (b + m) n + (m * (n : Int) + (b + m)) / a)
    rw [ih, show m * ((n + 1 : Nat) : Int) + b = m * (n : Int) + (b + m) by push_cast; grind]
    omega
/-- counted by rows in the place of columns -/
theorem fsum_turn {m a b : Int} (a0 : 0 < a) (am : a < m) (b0 : 0 ≤ b) (bm : b < m) (n : Nat) : fsum m a b n = fsum a m ((a * n + b) % m) ((a * n + b) / m).toNat := by
  have m0 : 0 < m := by omega
  induction n with
  | zero =>
    have e : a * ((0 : Nat) : Int) + b = b := by simp
    rw [e, Int.ediv_eq_zero_of_lt b0 bm]
    rfl
  | succ n ih =>
    show fsum m a b n + (a * (n : Int) + b) / m = _
    rw [ih]
    have y0 : 0 ≤ a * (n : Int) + b := by
      have := Int.mul_nonneg (show 0 ≤ a by omega) (show (0 : Int) ≤ n by omega); omega
    have e := Int.emod_add_mul_ediv (a * (n : Int) + b) m
    have r0 := Int.emod_nonneg (a * (n : Int) + b) (show m ≠ 0 by omega)
    have r1 := Int.emod_lt_of_pos (a * (n : Int) + b) m0
    have q0 : 0 ≤ (a * (n : Int) + b) / m := Int.ediv_nonneg y0 (by omega)
    have e3 : a * ((n + 1 : Nat) : Int) + b = a * (n : Int) + b + a := by push_cast; grind
    rw [e3]
    generalize a * (n : Int) + b = y at *
    generalize hq : y / m = q at *
    generalize hr : y % m = r at *
    obtain ⟨k, rfl⟩ := Int.eq_ofNat_of_zero_le q0
    rcases Int.lt_or_le (r + a) m with c | c
    · have d1 : (y + a) / m = (k : Int) := div_at (r := r + a) (by omega) (by omega) c
      have d2 : (y + a) % m = r + a := by
        have := Int.emod_add_mul_ediv (y + a) m
        rw [d1] at this; omega
      rw [d1, d2, Int.toNat_natCast, fsum_up a0]
    · have d1 : (y + a) / m = (k : Int) + 1 := div_at (r := r + a - m) (by rw [Int.mul_add]; omega) (by omega) (by omega)
      have d2 : (y + a) % m = r + a - m := by
        have := Int.emod_add_mul_ediv (y + a) m
        rw [d1, Int.mul_add] at this; omega
      rw [d1, d2, Int.toNat_natCast, show ((k : Int) + 1).toNat = k + 1 by omega, fsum_head, Int.ediv_eq_zero_of_lt (by omega) (by omega), show r + a - m + m = r + a by omega, fsum_up a0]
      omega
theorem fsum_zero {m b : Int} (b0 : 0 ≤ b) (bm : b < m) (n : Nat) : fsum m 0 b n = 0 := by
  induction n with
  | zero => rfl
  | succ n ih =>
    show fsum m 0 b n + (0 * (n : Int) + b) / m = 0
    rw [ih, Int.zero_mul, Int.zero_add, Int.zero_add, Int.ediv_eq_zero_of_lt b0 bm]
/-- one turn of the program's loop -/
theorem fsum_step {m a b : Int} (m0 : 0 < m) (a0 : 0 ≤ a) (b0 : 0 ≤ b) (n : Nat) : fsum m a b n = (n : Int) * (n - 1) / 2 * (a / m) + n * (b / m) + (if a % m = 0 then 0 else fsum (a % m) m ((a % m * n + b % m) % m) ((a % m * n + b % m) / m).toNat) := by
  rw [fsum_whole m0 n]
  have r0 := Int.emod_nonneg a (show m ≠ 0 by omega)
  have r1 := Int.emod_lt_of_pos a m0
  have s0 := Int.emod_nonneg b (show m ≠ 0 by omega)
  have s1 := Int.emod_lt_of_pos b m0
  split
  · rename_i c
    rw [c, fsum_zero s0 s1]
  · rename_i c
    rw [fsum_turn (by omega) r1 s0 s1]
/-- how many of the first n marks have a top below t -/
def below (x y t : Int) : Nat → Int
  | 0 => 0
  | n + 1 => below x y t n + if x * (n : Int) % y < t then 1 else 0
theorem below_fsum {x y t : Int} (y0 : 0 < y) (t0 : 0 ≤ t) (t1 : t ≤ y) (n : Nat) : below x y t n = n + fsum y x 0 n - fsum y x (y - t) n := by
  induction n with
  | zero => rfl
  | succ n ih =>
    show below x y t n + _ = ((n + 1 : Nat) : Int) + (fsum y x 0 n + (x * (n : Int) + 0) / y) - (fsum y x (y - t) n + (x * (n : Int) + (y - t)) / y)
    rw [ih]
    have e := Int.emod_add_mul_ediv (x * (n : Int)) y
    have r0 := Int.emod_nonneg (x * (n : Int)) (show y ≠ 0 by omega)
    have r1 := Int.emod_lt_of_pos (x * (n : Int)) y0
    rw [Int.add_zero]
    generalize x * (n : Int) = z at *
    generalize hq : z / y = q at *
    generalize z % y = r at *
    split
    · rename_i c
      rw [div_at (a := z + (y - t)) (q := q) (r := r + (y - t)) (by omega) (by omega) (by omega)]
      push_cast; omega
    · rename_i c
      rw [div_at (a := z + (y - t)) (q := q + 1) (r := r - t) (by rw [Int.mul_add]; omega) (by omega) (by omega)]
      push_cast; omega
/-! the first mark whose top lies from a to b -/
def Hit (s w a b m : Int) : Prop := 0 ≤ m ∧ a ≤ s * m % w ∧ s * m % w ≤ b
def Fst (s w a b m : Int) : Prop := Hit s w a b m ∧ ∀ m', Hit s w a b m' → m ≤ m'
/-- no less than so many slopes -/
theorem ceil_le {a s k : Int} (s0 : 0 < s) : -(-a / s) ≤ k ↔ a ≤ s * k := by
  have h := Int.le_ediv_iff_mul_le (a := -k) (b := -a) s0
  rw [Int.neg_mul, Int.mul_comm k s] at h
  constructor
  · intro z
    have := h.mp (by omega)
    omega
  · intro z
    have := h.mpr (by omega)
    omega
theorem ceil_at {a s : Int} (s0 : 0 < s) : a ≤ s * -(-a / s) ∧ s * (-(-a / s) - 1) < a := by
  refine ⟨(ceil_le s0).mp (Int.le_refl _), ?_⟩
  rcases Int.lt_or_le (s * (-(-a / s) - 1)) a with c | c
  · exact c
  · have := (ceil_le s0).mpr c
    omega
theorem ceil_is {a s c : Int} (s0 : 0 < s) (h1 : a ≤ s * c) (h2 : s * (c - 1) < a) : -(-a / s) = c := by
  have k1 := (ceil_le s0).mpr h1
  rcases Int.lt_or_le (-(-a / s)) c with d | d
  · have := (ceil_le (a := a) (k := c - 1) s0).mp (by omega)
    omega
  · omega
theorem neg_mod {a s c d : Int} (e : a = s * c - d) (d0 : 0 ≤ d) (ds : d < s) : -a % s = d := by
  have h : -a = d + s * (-c) := by rw [e]; grind
  rw [h, Int.add_mul_emod_self_left]
  exact Int.emod_eq_of_lt d0 ds
theorem fst_zero {s w a b : Int} (w0 : 0 < w) (ha : a ≤ 0) (hb : 0 ≤ b) : Fst s w a b 0 := by
  refine ⟨⟨Int.le_refl 0, ?_, ?_⟩, fun m' h => h.1⟩
  · rw [Int.mul_zero, Int.zero_emod]; exact ha
  · rw [Int.mul_zero, Int.zero_emod]; exact hb
theorem fst_turn {s w a b : Int} (s0 : 0 < s) (sw : s < w) (a0 : 0 < a) (bw : b < w) (h : -(-a / s) * s ≤ b) : Fst s w a b (-(-a / s)) := by
  obtain ⟨h1, h2⟩ := ceil_at (a := a) s0
  have c0 : 0 < -(-a / s) := by
    rcases Int.lt_or_le 0 (-(-a / s)) with c | c
    · exact c
    · have := Int.mul_nonpos_of_nonneg_of_nonpos (show 0 ≤ s by omega) c
      omega
  generalize -(-a / s) = c at *
  have hc : s * c ≤ b := by rw [Int.mul_comm]; exact h
  refine ⟨⟨by omega, ?_, ?_⟩, fun m' ⟨m0, k1, k2⟩ => ?_⟩
  · rw [Int.emod_eq_of_lt (by omega) (by omega)]; exact h1
  · rw [Int.emod_eq_of_lt (by omega) (by omega)]; exact hc
  · rcases Int.lt_or_le m' c with d | d
    · have e1 : s * m' ≤ s * (c - 1) := Int.mul_le_mul_of_nonneg_left (by omega) (by omega)
      have e2 : 0 ≤ s * m' := Int.mul_nonneg (by omega) m0
      rw [Int.emod_eq_of_lt e2 (by omega)] at k1
      omega
    · exact d
/-- turned: the turn is looked for as a mark is -/
theorem fst_back {s w a b t : Int} (s0 : 0 < s) (sw : s < w) (a0 : 0 < a) (ab : a ≤ b) (bw : b < w) (h : b < -(-a / s) * s) (T : Fst (w % s) s (-b % s) (-a % s) t) : Fst s w a b (-(-(a + w * t) / s)) := by
  obtain ⟨h1, h2⟩ := ceil_at (a := a) s0
  generalize -(-a / s) = c at *
  have w0 : 0 < w := by omega
  have hc : b < s * c := by rw [Int.mul_comm]; exact h
  have ec : s * (c - 1) = s * c - s := by rw [Int.mul_sub, Int.mul_one]
  rw [neg_mod (a := a) (c := c) (d := s * c - a) (by omega) (by omega) (by omega), neg_mod (a := b) (c := c) (d := s * c - b) (by omega) (by omega) (by omega)] at T
  obtain ⟨⟨t0, k1, k2⟩, least⟩ := T
  have red : ∀ t, w % s * t % s = w * t % s := fun t => by rw [Int.mul_emod, Int.emod_emod, ← Int.mul_emod]
  rw [red] at k1 k2
  have e := Int.emod_add_mul_ediv (w * t) s
  generalize hv : w * t % s = v at *
  generalize w * t / s = q at *
  have em : -(-(a + w * t) / s) = c + q := ceil_is s0 (by rw [Int.mul_add]; omega) (by rw [Int.mul_sub, Int.mul_add, Int.mul_one]; omega)
  have wt0 : 0 ≤ w * t := Int.mul_nonneg (by omega) t0
  rw [em]
  have es : s * (c + q) % w = s * (c + q) - w * t := by
    have z : s * (c + q) = (s * (c + q) - w * t) + w * t := by omega
    rw [z, Int.add_mul_emod_self_left]
    rw [show s * (c + q) - w * t + w * t - w * t = s * (c + q) - w * t by omega]
    exact Int.emod_eq_of_lt (by rw [Int.mul_add]; omega) (by rw [Int.mul_add]; omega)
  refine ⟨⟨?_, ?_, ?_⟩, fun m' ⟨m0, g1, g2⟩ => ?_⟩
  · rcases Int.lt_or_le (c + q) 0 with d | d
    · have := Int.mul_nonpos_of_nonneg_of_nonpos (show 0 ≤ s by omega) (show c + q ≤ 0 by omega)
      rw [Int.mul_add] at this
      omega
    · exact d
  · rw [es, Int.mul_add]; omega
  · rw [es, Int.mul_add]; omega
  · have f := Int.emod_add_mul_ediv (s * m') w
    have sm0 : 0 ≤ s * m' := Int.mul_nonneg (by omega) m0
    have t'0 : 0 ≤ s * m' / w := Int.ediv_nonneg sm0 (by omega)
    generalize s * m' % w = r at *
    generalize s * m' / w = t' at *
    have er : w * t' % s = s * c - r := by
      have z : w * t' = (s * c - r) + s * (m' - c) := by rw [Int.mul_sub]; omega
      rw [z, Int.add_mul_emod_self_left]
      exact Int.emod_eq_of_lt (by omega) (by omega)
    have lt := least t' ⟨t'0, by rw [red, er]; omega, by rw [red, er]; omega⟩
    have wtt : w * t ≤ w * t' := Int.mul_le_mul_of_nonneg_left lt (by omega)
    rw [← em]
    refine (ceil_le s0).mpr ?_
    omega
end Mt
set_option Elab.async false
set_option maxRecDepth 100000
set_option maxHeartbeats 1000000
set_option linter.all false
/-! marks in arcs -/
namespace Mt
/-- the least top from a fraction a / b on, over n -/
def ltop (a b n : Int) : Int := -(-a * n / b)
theorem ltop_le {a b n g : Int} (b0 : 0 < b) : ltop a b n ≤ g ↔ a * n ≤ g * b := by
  unfold ltop
  rw [Int.neg_mul, Int.mul_comm g b]
  exact ceil_le b0
theorem ltop_0 {a b n : Int} (b0 : 0 < b) (a0 : 0 ≤ a) (n0 : 0 ≤ n) : 0 ≤ ltop a b n := by
  rcases Int.lt_or_le (ltop a b n) 0 with c | c
  · have h := (ltop_le (g := -1) b0 (a := a) (n := n)).mp (by omega)
    have := Int.mul_nonneg a0 n0
    omega
  · exact c
theorem ltop_n {a b n : Int} (b0 : 0 < b) (ab : a ≤ b) (n0 : 0 ≤ n) : ltop a b n ≤ n := by
  refine (ltop_le b0).mpr ?_
  rw [Int.mul_comm n b]
  exact Int.mul_le_mul_of_nonneg_right ab n0
theorem ltop_mono {a b c d n : Int} (b0 : 0 < b) (d0 : 0 < d) (n0 : 0 ≤ n) (h : a * d ≤ c * b) : ltop a b n ≤ ltop c d n := by
  refine (ltop_le b0).mpr ?_
  have h1 : c * n ≤ ltop c d n * d := (ltop_le d0).mp (Int.le_refl _)
  have h2 : a * d * n ≤ c * b * n := Int.mul_le_mul_of_nonneg_right h n0
  have h3 : c * n * b ≤ ltop c d n * d * b := Int.mul_le_mul_of_nonneg_right h1 (by omega)
  have h4 : d * (a * n) ≤ d * (ltop c d n * b) := by
    have e1 : d * (a * n) = a * d * n := by grind
    have e2 : d * (ltop c d n * b) = ltop c d n * d * b := by grind
    have e3 : c * n * b = c * b * n := by grind
    omega
  exact Int.le_of_mul_le_mul_left h4 d0
/-- whether the mark k lies in the arc from A, below C -/
def inA (x y A C k : Int) : Bool := decide (A ≤ x * k % y) && decide (x * k % y < C)
theorem inA_iff {x y A C k : Int} : inA x y A C k = true ↔ A ≤ x * k % y ∧ x * k % y < C := by
  unfold inA; simp
theorem below_none {x y t : Int} (y0 : 0 < y) (h : t ≤ 0) (n : Nat) : below x y t n = 0 := by
  induction n with
  | zero => rfl
  | succ n ih =>
    show below x y t n + _ = 0
    have := Int.emod_nonneg (x * (n : Int)) (show y ≠ 0 by omega)
    rw [ih, if_neg (by omega)]; rfl
theorem below_all {x y t : Int} (y0 : 0 < y) (h : y ≤ t) (n : Nat) : below x y t n = n := by
  induction n with
  | zero => rfl
  | succ n ih =>
    show below x y t n + _ = ((n + 1 : Nat) : Int)
    have := Int.emod_lt_of_pos (x * (n : Int)) y0
    rw [ih, if_pos (by omega)]; push_cast; rfl
theorem below_arc {x y A C : Int} (h : A ≤ C) (n : Nat) : below x y C n - below x y A n = (((iota n).filter (inA x y A C)).length : Int) := by
  induction n with
  | zero => rfl
  | succ n ih =>
    show below x y C n + _ - (below x y A n + _) = _
    rw [iota_succ, List.filter_append, List.length_append]
    push_cast
    rw [← ih]
    by_cases c1 : A ≤ x * (n : Int) % y
    · by_cases c2 : x * (n : Int) % y < C
      · rw [List.filter_cons_of_pos (inA_iff.mpr ⟨c1, c2⟩), if_pos c2, if_neg (by omega)]; simp; omega
      · rw [List.filter_cons_of_neg (fun z => c2 (inA_iff.mp z).2), if_neg c2, if_neg (by omega)]; simp
    · rw [List.filter_cons_of_neg (fun z => c1 (inA_iff.mp z).1), if_pos (by omega), if_pos (by omega)]; simp; omega
theorem arc_zero {x y A C : Int} (h : A ≤ C) {n : Nat} (none : ∀ k : Int, 0 ≤ k → k < n → ¬ (A ≤ x * k % y ∧ x * k % y < C)) : below x y C n - below x y A n = 0 := by
  rw [below_arc h, List.filter_eq_nil_iff.mpr fun k hk z => none k (iota_mem.mp hk).1 (iota_mem.mp hk).2 (inA_iff.mp z)]; rfl
theorem arc_pos {x y A C : Int} (h : A ≤ C) {n : Nat} {k : Int} (k0 : 0 ≤ k) (k1 : k < n) (z : A ≤ x * k % y ∧ x * k % y < C) : below x y C n - below x y A n ≠ 0 := by
  rw [below_arc h]
  have := List.length_pos_of_mem (List.mem_filter.mpr ⟨iota_mem.mpr ⟨k0, k1⟩, inA_iff.mpr z⟩)
  omega
/-- the first of the marks of a round -/
theorem arc_head {x y A C m : Int} {n : Nat} (F : Fst x y A (C - 1) m) (m1 : m < n) : ((iota n).filter (inA x y A C))[0]? = some m := by
  obtain ⟨⟨m0, h1, h2⟩, least⟩ := F
  have mem : m ∈ (iota n).filter (inA x y A C) := List.mem_filter.mpr ⟨iota_mem.mpr ⟨m0, m1⟩, inA_iff.mpr ⟨h1, by omega⟩⟩
  have pw : ((iota n).filter (inA x y A C)).Pairwise (· < ·) := (iota_pw n).filter _
  cases e : (iota n).filter (inA x y A C) with
  | nil => rw [e] at mem; simp at mem
  | cons a l =>
    rw [e] at mem pw
    have ma : a ∈ (iota n).filter (inA x y A C) := by rw [e]; exact List.mem_cons_self
    obtain ⟨ha, hb⟩ := List.mem_filter.mp ma
    obtain ⟨z1, z2⟩ := inA_iff.mp hb
    have le := least a ⟨(iota_mem.mp ha).1, z1, by omega⟩
    rcases List.mem_cons.mp mem with c | c
    · subst c; rfl
    · have := (List.pairwise_cons.mp pw).1 m c
      omega
theorem arc_nil {x y A C : Int} (h : C ≤ A) (n : Nat) : (iota n).filter (inA x y A C) = [] :=
  List.filter_eq_nil_iff.mpr fun k hk z => by
    have := inA_iff.mp z
    omega
/-- a fraction brought to lowest terms -/
theorem low_part {a b : Int} (a0 : 0 ≤ a) (ab : a ≤ b) (b0 : 0 < b) :
    1 ≤ b / ((Nat.gcd a.natAbs b.natAbs : Nat) : Int) ∧ Nat.gcd (a / ((Nat.gcd a.natAbs b.natAbs : Nat) : Int)).natAbs (b / ((Nat.gcd a.natAbs b.natAbs : Nat) : Int)).natAbs = 1 ∧
    0 ≤ a / ((Nat.gcd a.natAbs b.natAbs : Nat) : Int) ∧ a / ((Nat.gcd a.natAbs b.natAbs : Nat) : Int) ≤ b / ((Nat.gcd a.natAbs b.natAbs : Nat) : Int) ∧ b / ((Nat.gcd a.natAbs b.natAbs : Nat) : Int) ≤ b ∧
    a = a / ((Nat.gcd a.natAbs b.natAbs : Nat) : Int) * ((Nat.gcd a.natAbs b.natAbs : Nat) : Int) ∧ b = b / ((Nat.gcd a.natAbs b.natAbs : Nat) : Int) * ((Nat.gcd a.natAbs b.natAbs : Nat) : Int) ∧ 0 < ((Nat.gcd a.natAbs b.natAbs : Nat) : Int) := by
  obtain ⟨x, rfl⟩ := Int.eq_ofNat_of_zero_le a0
  obtain ⟨y, rfl⟩ := Int.eq_ofNat_of_zero_le (show 0 ≤ b by omega)
  simp only [Int.natAbs_natCast]
  have hy : 0 < y := by omega
  have g0 : 0 < Nat.gcd x y := Nat.gcd_pos_of_pos_right _ hy
  have e1 : ((x : Int) / ((Nat.gcd x y : Nat) : Int)) = ((x / Nat.gcd x y : Nat) : Int) := by simp
  have e2 : ((y : Int) / ((Nat.gcd x y : Nat) : Int)) = ((y / Nat.gcd x y : Nat) : Int) := by simp
  rw [e1, e2]
  have d1 := Nat.div_mul_cancel (Nat.gcd_dvd_left x y)
  have d2 := Nat.div_mul_cancel (Nat.gcd_dvd_right x y)
  refine ⟨?_, ?_, Int.natCast_nonneg _, ?_, ?_, ?_, ?_, by omega⟩
  · have : 0 < y / Nat.gcd x y := Nat.div_pos (Nat.le_of_dvd hy (Nat.gcd_dvd_right x y)) g0
    omega
  · simp only [Int.natAbs_natCast]
    exact Nat.coprime_div_gcd_div_gcd g0
  · have := Nat.div_le_div_right (c := Nat.gcd x y) (show x ≤ y by omega)
    omega
  · have := Nat.div_le_self y (Nat.gcd x y)
    omega
  · rw [← Int.natCast_mul, d1]
  · rw [← Int.natCast_mul, d2]
theorem cross_low {a b c g h p q r s : Int} (ea : a = p * g) (eb : b = q * g) (ec : c = r * h) (ed : b = s * h) (g0 : 0 < g) (h0 : 0 < h) (b0 : 0 < b) (lt : a < c) : p * s < r * q := by
  have h1 : a * b < c * b := Int.mul_lt_mul_of_pos_right lt b0
  have h2 : a * b = g * h * (p * s) := by
    have : a * b = p * g * (s * h) := by rw [← ea, ← ed]
    rw [this]; grind
  have h3 : c * b = g * h * (r * q) := by
    have : c * b = r * h * (q * g) := by rw [← ec, ← eb]
    rw [this]; grind
  rw [h2, h3] at h1
  exact Int.lt_of_mul_lt_mul_left h1 (Int.le_of_lt (Int.mul_pos g0 h0))
end Mt
set_option Elab.async false
set_option linter.all false
set_option maxRecDepth 100000
set_option maxHeartbeats 4000000
namespace My
open PySem PySem.Spec PyProof.Rows L2 Gn
def top (i : Nat) : Stmt := PySem.Challenge.pw_rimorders_k07_whole_marks_in_arcs.main.body.getD i (.Pass ⟨0, 0, 0, 0⟩)
abbrev sTin : Stmt := top 27
abbrev sSip : Stmt := top 28
abbrev sPick : Stmt := top 29
abbrev sFar : Stmt := top 30
abbrev sGcd : Stmt := top 31
abbrev sLow : Stmt := top 32
abbrev sStep : Stmt := top 34
theorem scTin : FnScope ["_law_script", "_law_turn", "_law_entry", "_law_stirred", "_law_each"] ["_law_script", "_law_turn"] (defScope sTin) := ⟨rfl, rfl, rfl, by decide +kernel, rfl, by decide +kernel, by decide +kernel⟩
theorem scSip : FnScope ["_law_tin_here", "_law_top", "_law_digit"] ["_law_tin_here", "_law_top"] (defScope sSip) := ⟨rfl, rfl, rfl, by decide +kernel, rfl, by decide +kernel, by decide +kernel⟩
theorem scPick : FnScope ["_law_tin_here", "_law_menu"] ["_law_tin_here", "_law_menu"] (defScope sPick) := ⟨rfl, rfl, rfl, by decide +kernel, rfl, by decide +kernel, by decide +kernel⟩
theorem scFar : FnScope ["_law_tin_here", "_law_most", "_law_scale"] ["_law_tin_here", "_law_most"] (defScope sFar) := ⟨rfl, rfl, rfl, by decide +kernel, rfl, by decide +kernel, by decide +kernel⟩
theorem scGcd : FnScope ["_law_one", "_law_two"] ["_law_one", "_law_two"] (defScope sGcd) := ⟨rfl, rfl, rfl, by decide +kernel, rfl, by decide +kernel, by decide +kernel⟩
theorem scLow : FnScope ["_law_top", "_law_bottom", "_law_same"] ["_law_top", "_law_bottom"] (defScope sLow) := ⟨rfl, rfl, rfl, by decide +kernel, rfl, by decide +kernel, by decide +kernel⟩
theorem scStep : FnScope ["_law_tin_here", "_law_most", "_law_bottom"] ["_law_tin_here", "_law_most"] (defScope sStep) := ⟨rfl, rfl, rfl, by decide +kernel, rfl, by decide +kernel, by decide +kernel⟩
/-- the built-ins that the text calls are still the built-ins -/
structure Bl (mg : Str → Option Value) : Prop where
  len : mg "len" = none
  int : mg "int" = none
  abs : mg "abs" = none
/-- a tin at t: what is left of the number, the stirred one, how often it was sipped from -/
def Tin (H : Hp) (t : Addr) : Prop := ∃ a b c : Int, H t = some (.lst [.int a, .int b, .int c]) ∧ 0 ≤ a ∧ 0 ≤ b ∧ b < 2147483647
/-- all but t is as it was, t is a tin -/
def Sipped (H H' : Hp) (t : Addr) : Prop := Tin H' t ∧ ∀ b o, H b = some o → b ≠ t → H' b = some o
def spTin (K : PySem.W.Frag) : Sp := fun vs H Q _ => ∃ (a : Addr) (ns : List Int) (t : Int), vs = [.ref a, .int t] ∧ SqL K H a (ns.map V.int) ∧ 0 ≤ t ∧ t ≤ 100 ∧
  ∀ p H', Same H H' → H p = none → Tin H' p → Q (.ref p) H'
def spSip : Sp := fun vs H Q _ => ∃ (t : Addr) (n : Int), vs = [.ref t, .int n] ∧ Tin H t ∧ 0 < n ∧ n.natAbs < 2 ^ 100 ∧ ∀ d H', 0 ≤ d → d < n → Sipped H H' t → Q (.int d) H'
theorem nz1 : (999931 : Int) ≠ 0 := by decide
theorem nz2 : (2147483647 : Int) ≠ 0 := by decide
section
variable {P : Program} {w : World} {K : PySem.W.Frag} {mg : Str → Option Value} {base : Heap}
theorem ok_tin {f : Addr} {fd : FuncData} (F : Fun K "_law_tin" "_law_tin" sTin f fd) (B : Bl mg) : FnOk P w K mg base CX0 1 f fd ["_law_script", "_law_turn"] (spTin K) := by
  refine F.ok scTin (fun vs H Q E h => ?_) (fun cdv A outer s H vs Q E hr h => ?_)
  · obtain ⟨a, ns, t, rfl, _⟩ := h
    rfl
  · obtain ⟨a, ns, t, rfl, hS, t0, t1, q⟩ := h
    refine ⟨_, pss_cons (ps_set (i := 2) scTin.nd rfl (.inl rfl) (pe_ifExp (pt_cmpR op_lt (pv 1) (pe_callB call_len_seq (by rfl) B.len PySem.boot_len (pa_cons (pv 0) pa_nil)) (nomark _))
        (pe_callTy call_int1 (by rfl) B.int (by decide +kernel) (pa_cons (pe_ix ix_list (pv 0) (pv 1) (fun _ _ => rfl)) pa_nil)) (pe_op op_add (pe_op op_mul pe_int (pv 1)) pe_int)))
      (pss_cons (ps_set (i := 3) scTin.nd rfl (.inl rfl) (pe_op op_add pe_int (pe_op op_mul pe_int (pv 1))))
      (pss_cons (ps_for PassesOwn.never rfl (pi_list (pe_slice sl_list (pv 0) po_none (po_some pe_int))) (pg_name (i := 4) scTin.nd rfl (.inl rfl))
        (pss_one (ps_set (i := 3) scTin.nd rfl (.inl rfl) (pe_op op_modN (pe_callTy call_int1 (by rfl) B.int (by decide +kernel) (pa_cons
          (pe_op op_add (pe_op op_add (pe_op op_mul (pv 3) pe_int) (pe_op op_modN (pe_callTy call_int1 (by rfl) B.int (by decide +kernel) (pa_cons (pv 4) pa_nil)) pe_int)) (pv 1)) pa_nil)) pe_int))))
      (pss_cons (ps_set (i := 3) scTin.nd rfl (.inl rfl) (pe_op op_modN (pe_callTy call_int1 (by rfl) B.int (by decide +kernel) (pa_cons
          (pe_op op_add (pe_op op_mul (pv 3) pe_int) (pe_op op_modN (pe_callTy call_int1 (by rfl) B.int (by decide +kernel) (pa_cons (pv 2) pa_nil)) pe_int)) pa_nil)) pe_int))
      (pss_one (ps_ret (pe_lst (pa_cons (pe_ifExp (pt_cmpR op_ge (pe_callB call_abs (by rfl) B.abs (by decide +kernel) (pa_cons (pv 2) pa_nil)) (pe_op op_pow pe_int pe_int) (nomark _)) (pe_callB call_abs (by rfl) B.abs (by decide +kernel) (pa_cons (pv 2) pa_nil)) pe_int)
          (pa_cons (pv 3) (pa_cons pe_int pa_nil))))))))), ?_⟩
    refine ⟨_, rfl, _, rfl, a, _, rfl, .inl hS, _, _, rfl, rfl, _, rfl, ?_⟩
    refine tif (.int (ns.getD t.toNat 0)) (.int (73 * t + 23)) (fun hc R z => ?_) (fun _ R z => ?_) (fun v e1 e2 => ?_)
    · have hl : t.toNat < ns.length := by have := of_decide_eq_true hc; rw [List.length_map] at this; omega
      refine ⟨_, rfl, _, rfl, a, _, t, .int (ns.getD t.toNat 0), rfl, rfl, hS, ?_, .inl ⟨_, rfl, z⟩⟩
      exact at_of (j := t.toNat) (by omega) (by rw [List.getElem?_map, List.getElem?_eq_getElem hl, List.getD_eq_getElem?_getD, List.getElem?_eq_getElem hl]; rfl)
    · exact ⟨_, rfl, _, _, rfl, rfl, .inl ⟨by decide, by decide⟩, _, _, rfl, rfl, z⟩
    obtain ⟨e, rfl⟩ : ∃ e, v = V.int e := by
      rcases Bool.eq_false_or_eq_true (decide (t < ↑(List.map V.int ns).length)) with z | z
      · exact ⟨_, e1 z⟩
      · exact ⟨_, e2 z⟩
    refine ⟨_, rfl, _, _, rfl, rfl, .inl ⟨by decide, by decide⟩, _, _, rfl, rfl, ?_⟩
    refine ⟨_, rfl, 8, rfl, a, _, rfl, hS, fun p hp => ⟨p, rfl, ⟨_, .inl (.inl upd_same)⟩, ?_⟩⟩
    have sm := same_put (o := .lst (cutV (ns.map V.int) none (some 8))) hp
    refine for_list (K := K) (a := p) (xs := cutV (ns.map V.int) none (some 8)) (fun i σ H' => ∃ (st : Int) (y : Option V), σ = [some (.ref a), some (.int t), some (.int e), some (.int st), y] ∧ 0 ≤ st ∧ st ≤ 2147483647 ∧ H' = upd H p (.lst (cutV (ns.map V.int) none (some 8))))
      ⟨50021 + 1009 * t, none, rfl, by omega, by omega, rfl⟩ (fun i σ H' _ ⟨_, _, _, _, _, e⟩ => by rw [e]; exact .inl (.inl upd_same)) ?_ ?_
    · rintro i x σ H' hi ⟨st, y, rfl, s0, s1, rfl⟩
      obtain ⟨z, rfl⟩ := int_at (cut_mem (List.mem_of_getElem? hi))
      refine ⟨_, rfl, _, _, rfl, rfl, .inl ⟨by omega, by omega⟩, _, rfl, .inl ⟨_, rfl, _, _, rfl, rfl, nz1, _, _, rfl, rfl, _, rfl, _, _, rfl, rfl, .inl ⟨_, rfl, _, _, rfl, rfl, nz2, ?_⟩⟩⟩
      exact ⟨_, _, rfl, fmod_ge (by decide), Int.le_of_lt (fmod_lt (by decide)), rfl⟩
    · rintro σ H' ⟨st, y, rfl, s0, s1, rfl⟩
      refine ⟨_, rfl, _, _, rfl, rfl, .inl ⟨by omega, by omega⟩, _, rfl, .inl ⟨_, rfl, _, _, rfl, rfl, nz1, _, _, rfl, rfl, .inl ⟨_, rfl, _, _, rfl, rfl, nz2, ?_⟩⟩⟩
      refine ⟨_, rfl, _, rfl, _, _, rfl, rfl, ⟨by decide, by decide, by decide⟩, _, _, rfl, rfl, _, rfl, ?_⟩
      refine tif (.int (if e < 0 then -e else e)) (.int 0) (fun _ R z => ⟨_, rfl, _, rfl, z⟩) (fun _ R z => z) (fun v e1 e2 => ?_)
      obtain ⟨b, rfl, hb⟩ : ∃ b, v = V.int b ∧ 0 ≤ b := by
        rcases Bool.eq_false_or_eq_true (decide ((10 : Int) ^ (18 : Int).toNat ≤ if e < 0 then -e else e)) with z | z
        · exact ⟨_, e1 z, by split <;> omega⟩
        · exact ⟨_, e2 z, by decide⟩
      refine ⟨_, rfl, (by show 3 ≤ sizeLine; decide), fun r hr' => ?_⟩
      exact q r _ (sm.trans (same_put hr')) (sm.free hr') ⟨_, _, _, upd_same, hb, fmod_ge (by decide), fmod_lt (by decide)⟩
end
end My
set_option Elab.async false
set_option linter.all false
set_option maxRecDepth 100000
set_option maxHeartbeats 4000000
namespace My
open PySem PySem.Spec PyProof.Rows L2 Gn
theorem Tin.not {H : Hp} {t b : Addr} (T : Tin H t) (h : H b = none) : b ≠ t := by
  obtain ⟨_, _, _, h1, _⟩ := T
  exact (ne_of_none h1 h).symm
theorem Sipped.trans {H H1 H2 : Hp} {t : Addr} (a : Sipped H H1 t) (b : Sipped H1 H2 t) : Sipped H H2 t := ⟨b.1, fun c o e n => b.2 c o (a.2 c o e n) n⟩
theorem Sipped.ofSame {H H1 : Hp} {t : Addr} (T : Tin H t) (s : Same H H1) : Sipped H H1 t := by
  obtain ⟨a, b, c, h, r⟩ := T
  exact ⟨⟨a, b, c, s _ _ h, r⟩, fun c o e _ => s c o e⟩
theorem Sipped.free {H H1 : Hp} {t p : Addr} (T : Tin H t) (s : Sipped H H1 t) (h : H1 p = none) : H p = none := by
  cases q : H p with
  | none => rfl
  | some o =>
    have n : p ≠ t := by
      rintro rfl
      obtain ⟨_, _, _, e, _⟩ := s.1
      rw [h] at e; cases e
    rw [s.2 p o q n] at h
    cases h
section
variable {P : Program} {w : World} {K : PySem.W.Frag} {mg : Str → Option Value} {base : Heap}
theorem ok_sip {f : Addr} {fd : FuncData} (F : Fun K "_law_sip" "_law_sip" sSip f fd) (B : Bl mg) : FnOk P w K mg base CX0 1 f fd ["_law_tin_here", "_law_top"] spSip := by
  refine F.ok scSip (fun vs H Q E h => ?_) (fun cdv A outer s H vs Q E hr h => ?_)
  · obtain ⟨t, n, rfl, _⟩ := h
    rfl
  · obtain ⟨t, n, rfl, ⟨a, b, c, hT, a0, b0, b1⟩, n0, n1, q⟩ := h
    refine ⟨_, pss_cons (ps_asg (pe_op op_add (pe_ix ix_list (pv 0) pe_int (fun _ _ => rfl)) pe_int) (pg_sub (pv 0) pe_int set_list))
      (pss_cons (ps_if (pt_cmpR op_gt (pe_ix ix_list (pv 0) pe_int (fun _ _ => rfl)) pe_int (nomark _))
        (pss_cons (ps_set (i := 2) scSip.nd rfl (.inl rfl) (pe_op op_modN (pe_callTy call_int1 (by rfl) B.int (by decide +kernel) (pa_cons (pe_ix ix_list (pv 0) pe_int (fun _ _ => rfl)) pa_nil)) (pv 1)))
        (pss_cons (ps_asg (pe_op op_fdivW (pe_callTy call_int1 (by rfl) B.int (by decide +kernel) (pa_cons (pe_ix ix_list (pv 0) pe_int (fun _ _ => rfl)) pa_nil)) (pv 1)) (pg_sub (pv 0) pe_int set_list))
        (pss_one (ps_ret (pv 2))))) pss_nil)
      (pss_cons (ps_asg (pe_op op_modN (pe_callTy call_int1 (by rfl) B.int (by decide +kernel) (pa_cons (pe_op op_add (pe_op op_add (pe_op op_mul (pe_ix ix_list (pv 0) pe_int (fun _ _ => rfl)) pe_int) (pe_op op_mul pe_int (pe_ix ix_list (pv 0) pe_int (fun _ _ => rfl)))) pe_int) pa_nil)) pe_int) (pg_sub (pv 0) pe_int set_list))
      (pss_one (ps_ret (pe_op op_modN (pe_callTy call_int1 (by rfl) B.int (by decide +kernel) (pa_cons (pe_op op_fdivW (pe_ix ix_list (pv 0) pe_int (fun _ _ => rfl)) pe_int) pa_nil)) (pv 1)))))), ?_⟩
    -- tin[2] = tin[2] + 1
    refine ⟨_, rfl, t, _, 2, .int c, rfl, rfl, SqL.of hT, at_of (j := 2) rfl rfl, _, _, rfl, rfl, _, rfl, t, _, _, 2, rfl, rfl, hT, rfl, ?_⟩
    have h1 : upd H t (.lst ([V.int a, V.int b, V.int c].set 2 (V.int (c + 1)))) t = some (.lst [.int a, .int b, .int (c + 1)]) := upd_same
    -- if tin[0] > 0
    refine ⟨_, rfl, t, _, 0, .int a, rfl, rfl, SqL.of h1, at_of (j := 0) rfl rfl, _, _, rfl, rfl, _, rfl, ?_⟩
    refine ite2 (fun hc => ?_) (fun hc => ?_)
    · have ha : 0 < a := of_decide_eq_true hc
      refine ⟨_, rfl, t, _, 0, .int a, rfl, rfl, SqL.of h1, at_of (j := 0) rfl rfl, .inl ⟨_, rfl, _, rfl, _, _, rfl, rfl, (show n ≠ 0 by omega), ?_⟩⟩
      refine ⟨_, rfl, t, _, 0, .int a, rfl, rfl, SqL.of h1, at_of (j := 0) rfl rfl, .inl ⟨_, rfl, _, rfl, _, _, rfl, rfl, wide_div n0 n1 (by decide) (by decide), _, rfl, t, _, _, 0, rfl, rfl, h1, rfl, ?_⟩⟩
      refine ⟨_, rfl, q _ _ (fmod_ge n0) (fmod_lt n0) ⟨⟨_, _, _, upd_same, Int.ediv_nonneg (by omega) (by omega), b0, b1⟩, fun z o e hz => ?_⟩⟩
      rw [upd_ne hz, upd_ne hz]; exact e
    · refine ⟨_, rfl, t, _, 1, .int b, rfl, rfl, SqL.of h1, at_of (j := 1) rfl rfl, _, _, rfl, rfl, .inl ⟨by omega, by omega⟩, _, rfl, t, _, 2, .int (c + 1), rfl, rfl, SqL.of h1, at_of (j := 2) rfl rfl, _, _, rfl, rfl, .inl ⟨by decide, by decide⟩, _, _, rfl, rfl, _, _, rfl, rfl, .inl ⟨_, rfl, _, _, rfl, rfl, nz2, _, rfl, t, _, _, 1, rfl, rfl, h1, rfl, ?_⟩⟩
      have h2 : ∀ z : Int, upd (upd H t (.lst ([V.int a, V.int b, V.int c].set 2 (V.int (c + 1))))) t (.lst ([V.int a, V.int b, V.int (c + 1)].set 1 (V.int z))) t = some (.lst [.int a, .int z, .int (c + 1)]) := fun z => upd_same
      refine ⟨_, rfl, t, _, 1, _, rfl, rfl, SqL.of (h2 _), at_of (j := 1) rfl rfl, _, _, rfl, rfl, wide_div (b := 6) (by decide) (by decide) (by decide) (by decide), .inl ⟨_, rfl, _, rfl, _, _, rfl, rfl, (show n ≠ 0 by omega), ?_⟩⟩
      refine q _ _ (fmod_ge n0) (fmod_lt n0) ⟨⟨_, _, _, h2 _, a0, fmod_ge (by decide), fmod_lt (by decide)⟩, fun z o e hz => ?_⟩
      rw [upd_ne hz, upd_ne hz]; exact e
end
end My
set_option Elab.async false
set_option linter.all false
set_option maxRecDepth 100000
set_option maxHeartbeats 4000000
namespace My
open PySem PySem.Spec PyProof.Rows L2 Gn
def spPick : Sp := fun vs H Q _ => ∃ (t m : Addr) (xs : List V), vs = [.ref t, .ref m] ∧ Tin H t ∧ H m = some (.lst xs) ∧ m ≠ t ∧ 0 < xs.length ∧ xs.length ≤ 1000 ∧ ∀ x H', x ∈ xs → Sipped H H' t → Q x H'
def spFar : Sp := fun vs H Q _ => ∃ (t : Addr) (n : Int), vs = [.ref t, .int n] ∧ Tin H t ∧ 1 ≤ n ∧ n.natAbs < 2 ^ 100 ∧ ∀ d H', 1 ≤ d → d ≤ n → Sipped H H' t → Q (.int d) H'
def spGcd : Sp := fun vs H Q _ => ∃ (a b : Int), vs = [.int a, .int b] ∧ 0 ≤ a ∧ 0 ≤ b ∧ Q (.int ((Nat.gcd a.natAbs b.natAbs : Nat) : Int)) H
def spLow : Sp := fun vs H Q _ => ∃ (a b : Int), vs = [.int a, .int b] ∧ 0 ≤ a ∧ 0 < b ∧ b.natAbs < 2 ^ 100 ∧
  ∀ p, H p = none → Q (.ref p) (upd H p (.tup [.int (a / ((Nat.gcd a.natAbs b.natAbs : Nat) : Int)), .int (b / ((Nat.gcd a.natAbs b.natAbs : Nat) : Int))]))
/-- x / y is a step: lowest terms, from 0 on, below 1 -/
structure IsStep (x y : Int) : Prop where
  x0 : 0 ≤ x
  xy : x < y
  co : Nat.gcd x.natAbs y.natAbs = 1
def spStep : Sp := fun vs H Q _ => ∃ (t : Addr) (n : Int), vs = [.ref t, .int n] ∧ Tin H t ∧ 1 ≤ n ∧ n.natAbs < 2 ^ 100 ∧
  ∀ x y p H', IsStep x y → y ≤ n → Sipped H H' t → H p = none → H' p = some (.tup [.int x, .int y]) → Q (.ref p) H'
theorem low_step {a b : Int} (h0 : 0 ≤ a) (h : a < b) : IsStep (a / ((Nat.gcd a.natAbs b.natAbs : Nat) : Int)) (b / ((Nat.gcd a.natAbs b.natAbs : Nat) : Int)) ∧ b / ((Nat.gcd a.natAbs b.natAbs : Nat) : Int) ≤ b := by
  obtain ⟨x, rfl⟩ := Int.eq_ofNat_of_zero_le h0
  obtain ⟨y, rfl⟩ := Int.eq_ofNat_of_zero_le (show 0 ≤ b by omega)
  simp only [Int.natAbs_natCast]
  have hy : 0 < y := by omega
  have g0 : 0 < Nat.gcd x y := Nat.gcd_pos_of_pos_right _ hy
  have e1 : ((x : Int) / ((Nat.gcd x y : Nat) : Int)) = ((x / Nat.gcd x y : Nat) : Int) := by simp
  have e2 : ((y : Int) / ((Nat.gcd x y : Nat) : Int)) = ((y / Nat.gcd x y : Nat) : Int) := by simp
  rw [e1, e2]
  obtain ⟨u, hu⟩ := Nat.gcd_dvd_left x y
  obtain ⟨v, hv⟩ := Nat.gcd_dvd_right x y
  have du : x / Nat.gcd x y = u := Nat.div_eq_of_eq_mul_right g0 hu
  have dv : y / Nat.gcd x y = v := Nat.div_eq_of_eq_mul_right g0 hv
  refine ⟨⟨by omega, ?_, ?_⟩, ?_⟩
  · rw [du, dv]
    have : Nat.gcd x y * u < Nat.gcd x y * v := by rw [← hu, ← hv]; omega
    have := Nat.lt_of_mul_lt_mul_left this
    omega
  · simp only [Int.natAbs_natCast]
    exact Nat.coprime_div_gcd_div_gcd g0
  · have := Nat.div_le_self y (Nat.gcd x y)
    omega
section
variable {P : Program} {w : World} {K : PySem.W.Frag} {mg : Str → Option Value} {base : Heap}
/-- a def that the module holds under its own name, and how it binds -/
structure Df (K : PySem.W.Frag) (mg : Str → Option Value) (x : Str) (st : Stmt) (ps : List Str) (f : Addr) (fd : FuncData) : Prop where
  F : Fun K x x st f fd
  g : mg x = some (.ref f)
  b : Binds K fd ps []
theorem ok_pick {f fS : Addr} {fd fdS : FuncData} (F : Fun K "_law_pick" "_law_pick" sPick f fd) (B : Bl mg) (S : Df K mg "_law_sip" sSip ["_law_tin_here", "_law_top"] fS fdS) : FnOk P w K mg base CX0 2 f fd ["_law_tin_here", "_law_menu"] spPick := by
  have GS : FnOk P w K mg base CX0 1 fS fdS ["_law_tin_here", "_law_top"] spSip := ok_sip S.F B
  refine F.ok scPick (fun vs H Q E h => ?_) (fun cdv A outer s H vs Q E hr h => ?_)
  · obtain ⟨t, m, xs, rfl, _⟩ := h
    rfl
  · obtain ⟨t, m, xs, rfl, T, hm, ne, x0, x1, q⟩ := h
    refine ⟨_, pss_one (ps_ret (pe_ix ix_list (pv 1) (pe_call GS hr (by rfl) S.g S.F.kp S.b .nil pass0 (pa_cons (pv 0) (pa_cons (pe_callB call_len_seq (by rfl) B.len PySem.boot_len (pa_cons (pv 1) pa_nil)) pa_nil))) (fun _ _ => rfl))), ?_⟩
    refine ⟨_, rfl, _, rfl, _, rfl, m, xs, rfl, .inl (SqL.of hm), t, _, rfl, T, by omega, ?_, fun d H' d0 d1 sp => ?_⟩
    · rw [Int.natAbs_natCast]; exact Nat.lt_of_le_of_lt x1 (by decide)
    have hd : d.toNat < xs.length := by omega
    refine ⟨m, xs, d, xs[d.toNat], rfl, rfl, SqL.of (sp.2 m _ hm ne), at_of (j := d.toNat) (by omega) (List.getElem?_eq_getElem hd), q _ _ (List.getElem_mem hd) sp⟩
theorem ok_far {f fS fP : Addr} {fd fdS fdP : FuncData} (F : Fun K "_law_far" "_law_far" sFar f fd) (B : Bl mg) (S : Df K mg "_law_sip" sSip ["_law_tin_here", "_law_top"] fS fdS) (Pk : Df K mg "_law_pick" sPick ["_law_tin_here", "_law_menu"] fP fdP) : FnOk P w K mg base CX0 3 f fd ["_law_tin_here", "_law_most"] spFar := by
  have GS : FnOk P w K mg base CX0 1 fS fdS ["_law_tin_here", "_law_top"] spSip := ok_sip S.F B
  have GP : FnOk P w K mg base CX0 2 fP fdP ["_law_tin_here", "_law_menu"] spPick := ok_pick Pk.F B S
  refine F.ok scFar (fun vs H Q E h => ?_) (fun cdv A outer s H vs Q E hr h => ?_)
  · obtain ⟨t, n, rfl, _⟩ := h
    rfl
  · obtain ⟨t, n, rfl, T, n1, n2, q⟩ := h
    have hr1 : Room 1 _ := hr.mono (by decide)
    refine ⟨_, pss_cons (ps_if (pt_cmpR op_le (pv 1) (pe_op op_pow pe_int pe_int) (nomark _)) (pss_one (ps_ret (pe_op op_add pe_int (pe_call GS hr1 (by rfl) S.g S.F.kp S.b .nil pass0 (pa_cons (pv 0) (pa_cons (pv 1) pa_nil)))))) pss_nil)
      (pss_cons (ps_set (i := 2) scFar.nd rfl (.inl rfl) (pe_call GP hr (by rfl) Pk.g Pk.F.kp Pk.b .nil pass0 (pa_cons (pv 0) (pa_cons (pe_lst (pa_cons pe_int (pa_cons pe_int (pa_cons (pe_op op_pow pe_int pe_int) (pa_cons (pe_op op_pow pe_int pe_int) (pa_cons (pe_op op_pow pe_int pe_int) (pa_cons (pe_op op_pow pe_int pe_int) (pa_cons (pe_op op_pow pe_int pe_int) (pa_cons (pe_op op_pow pe_int pe_int) pa_nil))))))))) pa_nil))))
      (pss_one (ps_ret (pe_op op_add pe_int (pe_op op_modN (pe_callTy call_int1 (by rfl) B.int (by decide +kernel) (pa_cons (pe_op op_add (pe_op op_mul (pe_call GS hr1 (by rfl) S.g S.F.kp S.b .nil pass0 (pa_cons (pv 0) (pa_cons (pe_op op_pow pe_int pe_int) pa_nil))) (pv 2)) (pe_call GS hr1 (by rfl) S.g S.F.kp S.b .nil pass0 (pa_cons (pv 0) (pa_cons pe_int pa_nil)))) pa_nil)) (pv 1)))))), ?_⟩
    refine ⟨_, rfl, _, _, rfl, rfl, ⟨by decide, by decide, by decide⟩, _, _, rfl, rfl, _, rfl, ?_⟩
    refine ite2 (fun hc => ?_) (fun hc => ?_)
    · refine ⟨_, rfl, _, rfl, t, n, rfl, T, by omega, n2, fun d H' d0 d1 sp => ?_⟩
      exact ⟨_, _, rfl, rfl, q _ _ (by omega) (by omega) sp⟩
    · refine ⟨_, rfl, _, _, rfl, rfl, ⟨by decide, by decide, by decide⟩, _, _, rfl, rfl, ⟨by decide, by decide, by decide⟩, _, _, rfl, rfl, ⟨by decide, by decide, by decide⟩, _, _, rfl, rfl, ⟨by decide, by decide, by decide⟩, _, _, rfl, rfl, ⟨by decide, by decide, by decide⟩, _, _, rfl, rfl, ⟨by decide, by decide, by decide⟩, (by show 8 ≤ sizeLine; decide), fun m hm => ?_⟩
      have T1 : Tin (upd H m (.lst ([1, 7, 10 ^ 3, 10 ^ 6, 10 ^ 9, 10 ^ 14, 10 ^ 21, 10 ^ 24].map V.int))) t := (Sipped.ofSame T (same_put hm)).1
      refine ⟨t, m, ([1, 7, 10 ^ 3, 10 ^ 6, 10 ^ 9, 10 ^ 14, 10 ^ 21, 10 ^ 24] : List Int).map V.int, rfl, T1, upd_same, T.not hm, (by decide), (by decide), fun x H1 hx s1 => ?_⟩
      obtain ⟨z, rfl⟩ := int_at hx
      have s01 : Sipped H H1 t := (Sipped.ofSame T (same_put hm)).trans s1
      refine ⟨_, rfl, _, _, rfl, rfl, ⟨by decide, by decide, by decide⟩, t, _, rfl, s1.1, (by decide), (by decide), fun d H2 d0 d1 s2 => ?_⟩
      refine ⟨_, rfl, _, _, rfl, rfl, .inl ⟨by omega, ?_⟩, _, rfl, t, _, rfl, s2.1, (by decide), (by decide), fun e H3 e0 e1 s3 => ?_⟩
      · have : (d : Int) < 10 ^ 6 := d1
        omega
      refine ⟨_, _, rfl, rfl, .inl ⟨_, rfl, _, rfl, _, _, rfl, rfl, (show n ≠ 0 by omega), _, _, rfl, rfl, q _ _ ?_ ?_ ((s01.trans s2).trans s3)⟩⟩
      · have := fmod_ge (a := d * z + e) (show 0 < n by omega); omega
      · have := fmod_lt (a := d * z + e) (show 0 < n by omega); omega
theorem ok_gcd {f : Addr} {fd : FuncData} (F : Fun K "_law_gcd" "_law_gcd" sGcd f fd) (B : Bl mg) : FnOk P w K mg base CX0 1 f fd ["_law_one", "_law_two"] spGcd := by
  refine F.ok scGcd (fun vs H Q E h => ?_) (fun cdv A outer s H vs Q E hr h => ?_)
  · obtain ⟨a, b, rfl, _⟩ := h
    rfl
  · obtain ⟨a, b, rfl, a0, b0, q⟩ := h
    refine ⟨_, pss_cons (ps_while PassesOwn.never (pt_cmpR op_gt (pv 1) pe_int (nomark _)) (pss_one (ps_par (i := 0) (j := 1) (by rfl) scGcd.nd rfl rfl (by decide) rfl rfl
        (pa_cons (pv 1) (pa_cons (pe_op op_modN (pe_callTy call_int1 (by rfl) B.int (by decide +kernel) (pa_cons (pv 0) pa_nil)) (pv 1)) pa_nil)) (by rfl))))
      (pss_one (ps_ret (pv 0))), ?_⟩
    refine while_by (fun σ H' => ∃ x y : Int, σ = [some (.int x), some (.int y)] ∧ 0 ≤ x ∧ 0 ≤ y ∧ Nat.gcd x.natAbs y.natAbs = Nat.gcd a.natAbs b.natAbs ∧ H' = H)
      (fun σ _ => match σ with | [_, some (.int y)] => y.natAbs | _ => 0) ⟨a, b, rfl, a0, b0, rfl, rfl⟩ ?_ ?_
    · rintro σ H' ⟨x, y, rfl, x0, y0, hg, rfl⟩
      refine ⟨_, rfl, _, _, rfl, rfl, _, rfl, ?_⟩
      refine ite2 (fun hc => ?_) (fun hc => ?_)
      · have hy : 0 < y := of_decide_eq_true hc
        refine ⟨_, rfl, _, rfl, .inl ⟨_, rfl, _, rfl, _, _, rfl, rfl, (show y ≠ 0 by omega), _, _, rfl, ⟨y, x.fmod y, rfl, y0, fmod_ge hy, ?_, rfl⟩, ?_⟩⟩
        · rw [← hg, Int.fmod_eq_emod_of_nonneg _ y0]
          obtain ⟨m, rfl⟩ := Int.eq_ofNat_of_zero_le x0
          obtain ⟨n, rfl⟩ := Int.eq_ofNat_of_zero_le y0
          rw [← Int.natCast_emod, Int.natAbs_natCast, Int.natAbs_natCast, Int.natAbs_natCast]
          rw [Nat.gcd_comm n, ← Nat.gcd_rec, Nat.gcd_comm]
        · show (x.fmod y).natAbs < y.natAbs
          have h1 := fmod_ge (a := x) hy
          have h2 := fmod_lt (a := x) hy
          omega
      · have hy : y = 0 := by have : ¬ (0 : Int) < y := fun z => hc (decide_eq_true z); omega
        subst hy
        refine ⟨_, rfl, ?_⟩
        rw [← hg] at q
        simpa [Int.natAbs_of_nonneg x0] using q
    · rintro σ H' Q1 Q2 mo ⟨v, e1, i, j, e2, e3, k, e4, h⟩
      exact ⟨v, e1, i, j, e2, e3, k, e4, mo _ _ h⟩
theorem ok_low {f fG : Addr} {fd fdG : FuncData} (F : Fun K "_law_low" "_law_low" sLow f fd) (B : Bl mg) (G : Df K mg "_law_gcd" sGcd ["_law_one", "_law_two"] fG fdG) : FnOk P w K mg base CX0 2 f fd ["_law_top", "_law_bottom"] spLow := by
  have GG : FnOk P w K mg base CX0 1 fG fdG ["_law_one", "_law_two"] spGcd := ok_gcd G.F B
  refine F.ok scLow (fun vs H Q E h => ?_) (fun cdv A outer s H vs Q E hr h => ?_)
  · obtain ⟨a, b, rfl, _⟩ := h
    rfl
  · obtain ⟨a, b, rfl, a0, b0, b1, q⟩ := h
    refine ⟨_, pss_cons (ps_set (i := 2) scLow.nd rfl (.inl rfl) (pe_call GG hr (by rfl) G.g G.F.kp G.b .nil pass0 (pa_cons (pv 0) (pa_cons (pv 1) pa_nil))))
      (pss_one (ps_ret (pe_tup (pa_cons (pe_op op_fdivW (pv 0) (pv 2)) (pa_cons (pe_op op_fdivW (pv 1) (pv 2)) pa_nil))))), ?_⟩
    have g0 : (0 : Int) < ((Nat.gcd a.natAbs b.natAbs : Nat) : Int) := by
      have := Nat.gcd_pos_of_pos_right a.natAbs (show 0 < b.natAbs by omega); omega
    have g1 : (((Nat.gcd a.natAbs b.natAbs : Nat) : Int)).natAbs < 2 ^ 100 := by
      rw [Int.natAbs_natCast]
      exact Nat.lt_of_le_of_lt (Nat.le_of_dvd (by omega) (Nat.gcd_dvd_right _ _)) b1
    refine ⟨_, rfl, _, rfl, a, b, rfl, a0, by omega, _, rfl, _, rfl, _, _, rfl, rfl, wide_div g0 g1 (by decide) (by decide), _, rfl, _, rfl, _, _, rfl, rfl, wide_div g0 g1 (by decide) (by decide), (by show 2 ≤ sizeLine; decide), fun p hp => q p hp⟩
theorem ok_step {f fA fL : Addr} {fd fdA fdL : FuncData} {fS fP fG : Addr} {fdS fdP fdG : FuncData} (F : Fun K "_law_step" "_law_step" sStep f fd) (B : Bl mg) (S : Df K mg "_law_sip" sSip ["_law_tin_here", "_law_top"] fS fdS) (Pk : Df K mg "_law_pick" sPick ["_law_tin_here", "_law_menu"] fP fdP)
    (G : Df K mg "_law_gcd" sGcd ["_law_one", "_law_two"] fG fdG) (Fa : Df K mg "_law_far" sFar ["_law_tin_here", "_law_most"] fA fdA) (Lo : Df K mg "_law_low" sLow ["_law_top", "_law_bottom"] fL fdL) : FnOk P w K mg base CX0 4 f fd ["_law_tin_here", "_law_most"] spStep := by
  have GA : FnOk P w K mg base CX0 3 fA fdA ["_law_tin_here", "_law_most"] spFar := ok_far Fa.F B S Pk
  have GL : FnOk P w K mg base CX0 2 fL fdL ["_law_top", "_law_bottom"] spLow := ok_low Lo.F B G
  refine F.ok scStep (fun vs H Q E h => ?_) (fun cdv A outer s H vs Q E hr h => ?_)
  · obtain ⟨t, n, rfl, _⟩ := h
    rfl
  · obtain ⟨t, n, rfl, T, n1, n2, q⟩ := h
    have hr2 : Room 2 _ := hr.mono (by decide)
    refine ⟨_, pss_cons (ps_set (i := 2) scStep.nd rfl (.inl rfl) (pe_call GA hr (by rfl) Fa.g Fa.F.kp Fa.b .nil pass0 (pa_cons (pv 0) (pa_cons (pv 1) pa_nil))))
      (pss_one (ps_ret (pe_call GL hr2 (by rfl) Lo.g Lo.F.kp Lo.b .nil pass0 (pa_cons (pe_op op_modN (pe_callTy call_int1 (by rfl) B.int (by decide +kernel) (pa_cons (pe_call GA hr (by rfl) Fa.g Fa.F.kp Fa.b .nil pass0 (pa_cons (pv 0) (pa_cons (pv 1) pa_nil))) pa_nil)) (pv 2)) (pa_cons (pv 2) pa_nil))))), ?_⟩
    refine ⟨_, rfl, _, rfl, t, n, rfl, T, n1, n2, fun b H1 b0 b1 s1 => ?_⟩
    refine ⟨_, rfl, _, rfl, t, n, rfl, s1.1, n1, n2, fun a H2 a0 a1 s2 => .inl ⟨_, rfl, _, rfl, _, _, rfl, rfl, (show b ≠ 0 by omega), _, rfl, _, b, rfl, fmod_ge (by omega), by omega, ?_, fun p hp => ?_⟩⟩
    · exact Nat.lt_of_le_of_lt (by omega) n2
    obtain ⟨st, le⟩ := low_step (a := a.fmod b) (b := b) (fmod_ge (by omega)) (fmod_lt (by omega))
    have s3 : Sipped H2 (upd H2 p (.tup [.int ((a.fmod b) / ((Nat.gcd (a.fmod b).natAbs b.natAbs : Nat) : Int)), .int (b / ((Nat.gcd (a.fmod b).natAbs b.natAbs : Nat) : Int))])) t := Sipped.ofSame s2.1 (same_put hp)
    exact q _ _ p _ st (by omega) ((s1.trans s2).trans s3) ((s1.trans s2).free T hp) upd_same
end
end My
set_option Elab.async false
set_option linter.all false
set_option maxRecDepth 100000
set_option maxHeartbeats 4000000
namespace My
open PySem PySem.Spec PyProof.Rows L2 Gn
abbrev sIsInt : Stmt := top 7
abbrev sIsFr : Stmt := top 8
abbrev sIsStep : Stmt := top 9
abbrev sChStep : Stmt := top 13
abbrev sIsNum : Stmt := top 12
abbrev sChNum : Stmt := top 14
theorem scIsInt : FnScope ["given"] ["given"] (defScope sIsInt) := ⟨rfl, rfl, rfl, by decide +kernel, rfl, by decide +kernel, by decide +kernel⟩
theorem scIsFr : FnScope ["given", "top", "bottom"] ["given"] (defScope sIsFr) := ⟨rfl, rfl, rfl, by decide +kernel, rfl, by decide +kernel, by decide +kernel⟩
theorem scIsStep : FnScope ["given"] ["given"] (defScope sIsStep) := ⟨rfl, rfl, rfl, by decide +kernel, rfl, by decide +kernel, by decide +kernel⟩
theorem scChStep : FnScope ["given"] ["given"] (defScope sChStep) := ⟨rfl, rfl, rfl, by decide +kernel, rfl, by decide +kernel, by decide +kernel⟩
theorem scIsNum : FnScope ["given", "least", "most"] ["given", "least", "most"] (defScope sIsNum) := ⟨rfl, rfl, rfl, by decide +kernel, rfl, by decide +kernel, by decide +kernel⟩
theorem scChNum : FnScope ["given", "least", "most"] ["given", "least", "most"] (defScope sChNum) := ⟨rfl, rfl, rfl, by decide +kernel, rfl, by decide +kernel, by decide +kernel⟩
/-- the step x / y stands at t -/
def StepAt (H : Hp) (t : Addr) (x y : Int) : Prop := H t = some (.tup [.int x, .int y]) ∧ IsStep x y
def spIsInt : Sp := fun vs H Q _ => ∃ i : Int, vs = [.int i] ∧ Q (.bl true) H
def spIsSt (r : V) : Sp := fun vs H Q _ => ∃ (t : Addr) (x y : Int), vs = [.ref t] ∧ StepAt H t x y ∧ Q r H
def spChNum : Sp := fun vs H Q _ => ∃ (i a b : Int), vs = [.int i, .int a, .int b] ∧ a ≤ i ∧ i ≤ b ∧ Q .non H
def spIsNum : Sp := fun vs H Q _ => ∃ (i a b : Int), vs = [.int i, .int a, .int b] ∧ a ≤ i ∧ i ≤ b ∧ Q (.bl true) H
structure Bc (mg : Str → Option Value) : Prop where
  isi : mg "isinstance" = none
  int : mg "int" = none
  bool : mg "bool" = none
  tuple : mg "tuple" = none
  len : mg "len" = none
  gcd : mg "gcd" = some (.builtin "math.gcd")
section
variable {P : Program} {w : World} {K : PySem.W.Frag} {mg : Str → Option Value} {base : Heap}
theorem ok_isInt {f : Addr} {fd : FuncData} (F : Fun K "is_integer" "is_integer" sIsInt f fd) (B : Bc mg) : FnOk P w K mg base CX0 1 f fd ["given"] spIsInt := by
  refine F.ok scIsInt (fun vs H Q E h => ?_) (fun cdv A outer s H vs Q E hr h => ?_)
  · obtain ⟨i, rfl, _⟩ := h
    rfl
  · obtain ⟨i, rfl, q⟩ := h
    refine ⟨_, pss_one (ps_ret (pe_and (pe_callB call_isi (by rfl) B.isi (by decide +kernel) (pa_cons (pv 0) (pa_cons (pe_bltn (v := .ty "int") (by rfl) B.int (by decide +kernel) rfl) pa_nil)))
      (pe_one (pe_not (pe_callB call_isi (by rfl) B.isi (by decide +kernel) (pa_cons (pv 0) (pa_cons (pe_bltn (v := .ty "bool") (by rfl) B.bool (by decide +kernel) rfl) pa_nil))))))), ?_⟩
    refine ⟨_, rfl, .int i, .ty "int", _, _, true, rfl, .ty "int", .base (.int i), kit_ty (by decide +kernel), true, rfl, iteT ?_⟩
    exact ⟨_, rfl, .int i, .ty "bool", _, _, false, rfl, .ty "bool", .base (.int i), kit_ty (by decide +kernel), false, rfl, q⟩
theorem ok_isFr {f fI : Addr} {fd fdI : FuncData} (F : Fun K "is_fraction" "is_fraction" sIsFr f fd) (B : Bc mg) (D : Df K mg "is_integer" sIsInt ["given"] fI fdI) : FnOk P w K mg base CX0 2 f fd ["given"] (spIsSt (.bl true)) := by
  have GI : FnOk P w K mg base CX0 1 fI fdI ["given"] spIsInt := ok_isInt D.F B
  refine F.ok scIsFr (fun vs H Q E h => ?_) (fun cdv A outer s H vs Q E hr h => ?_)
  · obtain ⟨t, x, y, rfl, _⟩ := h
    rfl
  · obtain ⟨t, x, y, rfl, ⟨hT, st⟩, q⟩ := h
    refine ⟨_, pss_cons (ps_if (PW.pt (pw_or (pt_not (pt_val (pe_callB call_isi (by rfl) B.isi (by decide +kernel) (pa_cons (pv 0) (pa_cons (pe_bltn (v := .ty "tuple") (by rfl) B.tuple (by decide +kernel) rfl) pa_nil)))))
        (pw_or1 (pt_cmpR op_ne (pe_callB call_len_seq (by rfl) B.len PySem.boot_len (pa_cons (pv 0) pa_nil)) pe_int (nomark _))))) (pss_one (ps_ret pe_bl)) pss_nil)
      (pss_cons (ps_asg (pv 0) (pg_tup (by rfl) (pgs_cons (pg_name (i := 1) scIsFr.nd rfl (.inl rfl)) (pgs_cons (pg_name (i := 2) scIsFr.nd rfl (.inl rfl)) pgs_nil))))
      (pss_cons (ps_if (PW.pt (pw_or (pt_not (pt_val (pe_call GI hr (by rfl) D.g D.F.kp D.b .nil pass0 (pa_cons (pv 1) pa_nil)))) (pw_or1 (pt_not (pt_val (pe_call GI hr (by rfl) D.g D.F.kp D.b .nil pass0 (pa_cons (pv 2) pa_nil))))))) (pss_one (ps_ret pe_bl)) pss_nil)
      (pss_one (ps_ret (pe_and (pe_cmpR op_ge (pv 2) pe_int (nomark _)) (pe_one (pe_cmpR op_eq (pe_callBfun cr_gcd (by rfl) B.gcd (pa_cons (pv 1) (pa_cons (pv 2) pa_nil))) pe_int (nomark _)))))))), ?_⟩
    refine ⟨_, rfl, .ref t, .ty "tuple", _, _, true, rfl, .ty "tuple", .base (.tup hT), kit_ty (by decide +kernel), true, rfl, iteF ?_⟩
    refine ⟨_, rfl, t, _, rfl, .inr (SqT.of hT), rfl, _, rfl, iteF ?_⟩
    refine ⟨_, rfl, t, _, rfl, SqT.of hT, rfl, _, _, rfl, _, _, rfl, rfl, ?_⟩
    refine ⟨_, rfl, x, rfl, true, rfl, iteF ⟨_, rfl, y, rfl, true, rfl, iteF ?_⟩⟩
    have y1 : (1 : Int) ≤ y := by have := st.x0; have := st.xy; omega
    refine ⟨_, rfl, _, _, rfl, rfl, _, rfl, ?_⟩
    rw [decide_eq_true y1]
    refine iteT ⟨_, rfl, _, rfl, x, y, rfl, ?_⟩
    rw [st.co]
    exact ⟨rfl, q⟩
theorem ok_isStep {f fI fR : Addr} {fd fdI fdR : FuncData} (F : Fun K "is_step" "is_step" sIsStep f fd) (B : Bc mg) (D : Df K mg "is_integer" sIsInt ["given"] fI fdI) (R : Df K mg "is_fraction" sIsFr ["given"] fR fdR) : FnOk P w K mg base CX0 3 f fd ["given"] (spIsSt (.bl true)) := by
  have GR : FnOk P w K mg base CX0 2 fR fdR ["given"] (spIsSt (.bl true)) := ok_isFr R.F B D
  refine F.ok scIsStep (fun vs H Q E h => ?_) (fun cdv A outer s H vs Q E hr h => ?_)
  · obtain ⟨t, x, y, rfl, _⟩ := h
    rfl
  · obtain ⟨t, x, y, rfl, ⟨hT, st⟩, q⟩ := h
    refine ⟨_, pss_one (ps_ret (pe_and (pe_call GR hr (by rfl) R.g R.F.kp R.b .nil pass0 (pa_cons (pv 0) pa_nil)) (pe_one (pe_chain op_le op_lt pe_int (pe_ix ix_tup (pv 0) pe_int (fun _ _ => rfl)) (pe_ix ix_tup (pv 0) pe_int (fun _ _ => rfl)))))), ?_⟩
    refine ⟨_, rfl, t, x, y, rfl, ⟨hT, st⟩, true, rfl, iteT ?_⟩
    refine ⟨_, rfl, t, _, 0, .int x, rfl, rfl, SqT.of hT, at_of (j := 0) rfl rfl, _, _, rfl, rfl, _, rfl, ?_⟩
    rw [decide_eq_true st.x0]
    refine iteT ⟨_, rfl, t, _, 1, .int y, rfl, rfl, SqT.of hT, at_of (j := 1) rfl rfl, _, _, rfl, rfl, ?_⟩
    show Q (.bl (decide (x < y))) H
    rw [decide_eq_true st.xy]
    exact q
theorem ok_chStep {f fI fR fS : Addr} {fd fdI fdR fdS : FuncData} (F : Fun K "check_step" "check_step" sChStep f fd) (B : Bc mg) (D : Df K mg "is_integer" sIsInt ["given"] fI fdI) (R : Df K mg "is_fraction" sIsFr ["given"] fR fdR) (S : Df K mg "is_step" sIsStep ["given"] fS fdS) : FnOk P w K mg base CX0 4 f fd ["given"] (spIsSt .non) := by
  have GS : FnOk P w K mg base CX0 3 fS fdS ["given"] (spIsSt (.bl true)) := ok_isStep S.F B D R
  refine F.ok scChStep (fun vs H Q E h => ?_) (fun cdv A outer s H vs Q E hr h => ?_)
  · obtain ⟨t, x, y, rfl, _⟩ := h
    rfl
  · obtain ⟨t, x, y, rfl, st, q⟩ := h
    refine ⟨_, pss_one (ps_if (pt_not (pt_val (pe_call GS hr (by rfl) S.g S.F.kp S.b .nil pass0 (pa_cons (pv 0) pa_nil)))) (pss_one (ps_never)) pss_nil), ?_⟩
    exact ⟨_, rfl, t, x, y, rfl, st, true, rfl, iteF q⟩
theorem ok_isNum {f fI : Addr} {fd fdI : FuncData} (F : Fun K "is_number" "is_number" sIsNum f fd) (B : Bc mg) (D : Df K mg "is_integer" sIsInt ["given"] fI fdI) : FnOk P w K mg base CX0 2 f fd ["given", "least", "most"] spIsNum := by
  have GI : FnOk P w K mg base CX0 1 fI fdI ["given"] spIsInt := ok_isInt D.F B
  refine F.ok scIsNum (fun vs H Q E h => ?_) (fun cdv A outer s H vs Q E hr h => ?_)
  · obtain ⟨i, a, b, rfl, _⟩ := h
    rfl
  · obtain ⟨i, a, b, rfl, h1, h2, q⟩ := h
    refine ⟨_, pss_one (ps_ret (pe_and (pe_call GI hr (by rfl) D.g D.F.kp D.b .nil pass0 (pa_cons (pv 0) pa_nil)) (pe_one (pe_chain op_le op_le (pv 1) (pv 0) (pv 2))))), ?_⟩
    refine ⟨_, rfl, i, rfl, true, rfl, iteT ?_⟩
    refine ⟨_, rfl, _, rfl, _, _, rfl, rfl, _, rfl, ?_⟩
    rw [decide_eq_true h1]
    refine iteT ⟨_, rfl, _, _, rfl, rfl, ?_⟩
    show Q (.bl (decide (i ≤ b))) H
    rw [decide_eq_true h2]
    exact q
theorem ok_chNum {f fN fI : Addr} {fd fdN fdI : FuncData} (F : Fun K "check_number" "check_number" sChNum f fd) (B : Bc mg) (D : Df K mg "is_integer" sIsInt ["given"] fI fdI) (N : Df K mg "is_number" sIsNum ["given", "least", "most"] fN fdN) : FnOk P w K mg base CX0 3 f fd ["given", "least", "most"] spChNum := by
  have GN : FnOk P w K mg base CX0 2 fN fdN ["given", "least", "most"] spIsNum := ok_isNum N.F B D
  refine F.ok scChNum (fun vs H Q E h => ?_) (fun cdv A outer s H vs Q E hr h => ?_)
  · obtain ⟨i, a, b, rfl, _⟩ := h
    rfl
  · obtain ⟨i, a, b, rfl, h1, h2, q⟩ := h
    refine ⟨_, pss_one (ps_if (pt_not (pt_val (pe_call GN hr (by rfl) N.g N.F.kp N.b .nil pass0 (pa_cons (pv 0) (pa_cons (pv 1) (pa_cons (pv 2) pa_nil)))))) (pss_one (ps_never)) pss_nil), ?_⟩
    exact ⟨_, rfl, _, rfl, _, rfl, i, a, b, rfl, h1, h2, true, rfl, iteF q⟩
end
end My
set_option Elab.async false
set_option linter.all false
set_option maxRecDepth 100000
set_option maxHeartbeats 4000000
namespace My
open PySem PySem.Spec PyProof.Rows L2 Gn Mt
/-- data lasts while nothing tracked changes -/
theorem sqT_same {H H' : Hp} {a : Addr} {xs : List V} {K : PySem.W.Frag} (e : Same H H') (h : SqT K H a xs) : SqT K H' a xs := by
  rcases h with (h | ⟨o, h⟩) | h
  · exact .inl (.inl (e _ _ h))
  · exact .inl (.inr ⟨o, e _ _ h⟩)
  · exact .inr h
mutual
theorem dp_same {K : PySem.W.Frag} {H H' : Hp} (e : Same H H') : ∀ (d : PyData) (v : V), Dp K H v d → Dp K H' v d
  | .none, _, h => by cases h; exact .non
  | .bool b, _, h => by cases h; exact .bl b
  | .int i, _, h => by cases h; exact .int i
  | .str x, _, h => by cases h; exact .str x
  | .list ds, _, h => by cases h with | lst a b => exact .lst (e.seq a) (dps_same e ds _ b)
  | .tuple ds, _, h => by cases h with | tup a b => exact .tup (sqT_same e a) (dps_same e ds _ b)
  | .dict _, _, h => by cases h
theorem dps_same {K : PySem.W.Frag} {H H' : Hp} (e : Same H H') : ∀ (ds : List PyData) (vs : List V), DpAll K H vs ds → DpAll K H' vs ds
  | [], _, h => by cases h; exact .nil
  | d :: ds, _, h => by cases h with | cons a b => exact .cons (dp_same e d _ a) (dps_same e ds _ b)
end
theorem dp_ints {K : PySem.W.Frag} {H : Hp} : ∀ ns : List Int, DpAll K H (ns.map V.int) (ns.map PyData.int)
  | [] => .nil
  | n :: ns => .cons (.int n) (dp_ints ns)
/-- tuples of ints stand at these addresses, as these lists tell -/
def Tups (H : Hp) : List Addr → List (List Int) → Prop
  | [], [] => True
  | r :: rs, g :: gs => H r = some (.tup (g.map V.int)) ∧ Tups H rs gs
  | _, _ => False
theorem Tups.mono {H H' : Hp} : ∀ {rs : List Addr} {gs : List (List Int)}, Tups H rs gs → (∀ r g, H r = some (.tup g) → H' r = some (.tup g)) → Tups H' rs gs
  | [], [], _, _ => trivial
  | _ :: _, _ :: _, h, k => ⟨k _ _ h.1, h.2.mono k⟩
  | [], _ :: _, h, _ => h.elim
  | _ :: _, [], h, _ => h.elim
theorem Tups.snoc {H : Hp} {r : Addr} {g : List Int} (hr : H r = some (.tup (g.map V.int))) : ∀ {rs : List Addr} {gs : List (List Int)}, Tups H rs gs → Tups H (rs ++ [r]) (gs ++ [g])
  | [], [], _ => ⟨hr, trivial⟩
  | _ :: _, _ :: _, h => ⟨h.1, Tups.snoc hr h.2⟩
  | [], _ :: _, h => h.elim
  | _ :: _, [], h => h.elim
theorem Tups.len {H : Hp} : ∀ {rs : List Addr} {gs : List (List Int)}, Tups H rs gs → rs.length = gs.length
  | [], [], _ => rfl
  | _ :: _, _ :: _, h => congrArg Nat.succ h.2.len
  | [], _ :: _, h => h.elim
  | _ :: _, [], h => h.elim
theorem Tups.dps {K : PySem.W.Frag} {H : Hp} : ∀ {rs : List Addr} {gs : List (List Int)}, Tups H rs gs → DpAll K H (rs.map V.ref) (gs.map fun g => PyData.tuple (g.map PyData.int))
  | [], [], _ => .nil
  | _ :: _, _ :: _, h => .cons (.tup (SqT.of h.1) (dp_ints _)) h.2.dps
  | [], _ :: _, h => h.elim
  | _ :: _, [], h => h.elim
/-- an order as data -/
def ordD (gs : List (List Int)) : PyData := .tuple (gs.map fun g => PyData.tuple (g.map PyData.int))
/-- an order stands at r: a tuple of tuples of ints -/
def OrdAt (H : Hp) (r : Addr) (gs : List (List Int)) : Prop := ∃ rs : List Addr, H r = some (.tup (rs.map V.ref)) ∧ Tups H rs gs
theorem OrdAt.dp {K : PySem.W.Frag} {H : Hp} {r : Addr} {gs : List (List Int)} (h : OrdAt H r gs) : Dp K H (.ref r) (ordD gs) := by
  obtain ⟨rs, h1, h2⟩ := h
  exact .tup (SqT.of h1) h2.dps
theorem OrdAt.same {H H' : Hp} {r : Addr} {gs : List (List Int)} (h : OrdAt H r gs) (e : Same H H') : OrdAt H' r gs := by
  obtain ⟨rs, h1, h2⟩ := h
  exact ⟨rs, e _ _ h1, h2.mono fun r g z => e _ _ z⟩
/-- what stands in the dict after some marks: places, lists of marks -/
structure Stand (f : Int → Int) (ms : List Int) (H : Hp) (d : Addr) (ps : List (Int × Addr)) : Prop where
  dc : H d = some (.dK (ps.map fun p => ((Sum.inl p.1 : Key), V.ref p.2)))
  n1 : (ps.map (·.1)).Nodup
  n2 : (ps.map (·.2)).Nodup
  ls : ∀ p ∈ ps, H p.2 = some (.lst ((grp f ms p.1).map V.int))
  me : ∀ v, v ∈ ps.map (·.1) ↔ v ∈ ms.map f
theorem val_of {ps : List (Int × Addr)} {k : Int} : valV (ps.map fun p => ((Sum.inl p.1 : Key), V.ref p.2)) (Sum.inl k) = (ps.find? fun p => p.1 == k).map fun p => V.ref p.2 := by
  induction ps with
  | nil => rfl
  | cons p ps ih =>
    rw [List.map_cons, List.find?_cons]
    unfold valV at ih ⊢
    by_cases h : p.1 = k
    · simp [h, List.find?_cons]
    · simp only [beq_eq_false_iff_ne.mpr h]
      rw [← ih]
      simp [List.find?_cons, h]
end My
set_option Elab.async false
set_option linter.all false
set_option maxRecDepth 100000
set_option maxHeartbeats 4000000
set_option exponentiation.threshold 2000
namespace My
open PySem PySem.Spec PyProof.Rows L2 Gn Mt
/-! ranks: counting below a top, the first mark between two tops -/
abbrev sIsPart : Stmt := top 10
theorem scIsPart : FnScope ["given"] ["given"] (defScope sIsPart) := ⟨rfl, rfl, rfl, by decide +kernel, rfl, by decide +kernel, by decide +kernel⟩
abbrev sIsLess : Stmt := top 11
theorem scIsLess : FnScope ["one", "other"] ["one", "other"] (defScope sIsLess) := ⟨rfl, rfl, rfl, by decide +kernel, rfl, by decide +kernel, by decide +kernel⟩
abbrev sChArc : Stmt := top 20
theorem scChArc : FnScope ["low", "high"] ["low", "high"] (defScope sChArc) := ⟨rfl, rfl, rfl, by decide +kernel, rfl, by decide +kernel, by decide +kernel⟩
abbrev sBelow : Stmt := top 21
theorem scBelow : FnScope ["step", "count", "most", "top", "bottom"] ["step", "count", "most"] (defScope sBelow) := ⟨rfl, rfl, rfl, by decide +kernel, rfl, by decide +kernel, by decide +kernel⟩
abbrev sSum : Stmt := top 22
theorem scSum : FnScope ["count", "bottom", "slope", "shift", "total"] ["count", "bottom", "slope", "shift"] (defScope sSum) := ⟨rfl, rfl, rfl, by decide +kernel, rfl, by decide +kernel, by decide +kernel⟩
abbrev sLeastTop : Stmt := top 23
theorem scLeastTop : FnScope ["fraction", "bottom"] ["fraction", "bottom"] (defScope sLeastTop) := ⟨rfl, rfl, rfl, by decide +kernel, rfl, by decide +kernel, by decide +kernel⟩
abbrev sFFT : Stmt := top 24
theorem scFFT : FnScope ["step", "least", "most", "slope", "whole", "turns", "mark"] ["step", "least", "most"] (defScope sFFT) := ⟨rfl, rfl, rfl, by decide +kernel, rfl, by decide +kernel, by decide +kernel⟩
abbrev sFF : Stmt := top 25
theorem scFF : FnScope ["slope", "least"] ["slope", "least"] (defScope sFF) := ⟨rfl, rfl, rfl, by decide +kernel, rfl, by decide +kernel, by decide +kernel⟩
theorem fmod_at {k y : Int} (h : 0 < y) : k.fmod y = k % y := Int.fmod_eq_emod_of_nonneg _ (by omega)
/-- a fraction in lowest terms stands at t -/
def FrAt (H : Hp) (t : Addr) (x y : Int) : Prop := H t = some (.tup [.int x, .int y]) ∧ 1 ≤ y ∧ Nat.gcd x.natAbs y.natAbs = 1
def spFr : Sp := fun vs H Q _ => ∃ (t : Addr) (x y : Int), vs = [.ref t] ∧ FrAt H t x y ∧ Q (.bl true) H
def spPart : Sp := fun vs H Q _ => ∃ (t : Addr) (x y : Int), vs = [.ref t] ∧ FrAt H t x y ∧ 0 ≤ x ∧ x ≤ y ∧ Q (.bl true) H
def spLess : Sp := fun vs H Q _ => ∃ (s t : Addr) (a b c d : Int), vs = [.ref s, .ref t] ∧ H s = some (.tup [.int a, .int b]) ∧ H t = some (.tup [.int c, .int d]) ∧ a.natAbs < 2 ^ 200 ∧ b.natAbs < 2 ^ 200 ∧ c.natAbs < 2 ^ 200 ∧ d.natAbs < 2 ^ 200 ∧ Q (.bl (decide (a * d < c * b))) H
def spArc : Sp := fun vs H Q _ => ∃ (s t : Addr) (a b c d : Int), vs = [.ref s, .ref t] ∧ FrAt H s a b ∧ FrAt H t c d ∧ 0 ≤ a ∧ a ≤ b ∧ 0 ≤ c ∧ c ≤ d ∧ b.natAbs < 2 ^ 200 ∧ d.natAbs < 2 ^ 200 ∧ a * d < c * b ∧ Q .non H
def spLeastTop : Sp := fun vs H Q _ => ∃ (t : Addr) (a b n : Int), vs = [.ref t, .int n] ∧ H t = some (.tup [.int a, .int b]) ∧ 0 < b ∧ a.natAbs < 2 ^ 200 ∧ b.natAbs < 2 ^ 200 ∧ n.natAbs < 2 ^ 200 ∧ Q (.int (-(-a * n / b))) H
def spFF : Sp := fun vs H Q _ => ∃ (s a : Int), vs = [.int s, .int a] ∧ 0 < s ∧ s.natAbs < 2 ^ 200 ∧ Q (.int (-(-a / s))) H
def spSum : Sp := fun vs H Q _ => ∃ (n m a b : Int), vs = [.int n, .int m, .int a, .int b] ∧ 0 ≤ n ∧ n < 2 ^ 100 ∧ 0 < m ∧ m < 2 ^ 100 ∧ 0 ≤ a ∧ a < 2 ^ 100 ∧ 0 ≤ b ∧ b < 2 ^ 101 ∧ ∀ H', Same H H' → Q (.int (fsum m a b n.toNat)) H'
def spBelow : Sp := fun vs H Q _ => ∃ (t : Addr) (x y n c : Int), vs = [.ref t, .int n, .int c] ∧ StepAt H t x y ∧ y < 2 ^ 100 ∧ 0 ≤ n ∧ n < 2 ^ 100 ∧ 0 ≤ c ∧ c ≤ y ∧ ∀ H', Same H H' → Q (.int (below x y c n.toNat)) H'
def spFFT : Sp := fun vs H Q _ => ∃ (t : Addr) (x y a b : Int), vs = [.ref t, .int a, .int b] ∧ StepAt H t x y ∧ y < 2 ^ 100 ∧ 0 ≤ a ∧ a ≤ b ∧ b < y ∧ ∀ m H', Same H H' → Fst x y a b m → Q (.int m) H'
theorem nb {z : Int} {n m : Nat} (h0 : 0 ≤ z) (h : z < 2 ^ n) (hm : n ≤ m) : z.natAbs < 2 ^ m := by
  have h1 : (2 : Nat) ^ n ≤ 2 ^ m := Nat.pow_le_pow_right (by decide) hm
  have h2 : ((2 : Int) ^ n) = ((2 ^ n : Nat) : Int) := by push_cast; rfl
  rw [h2] at h
  omega
/-- a first one lies in the first whole -/
theorem fst_lt {s w a b m : Int} (w0 : 0 < w) (F : Fst s w a b m) : 0 ≤ m ∧ m < w := by
  obtain ⟨⟨m0, h1, h2⟩, l⟩ := F
  have := l (m % w) ⟨Int.emod_nonneg _ (by omega), by rw [Int.mul_emod, Int.emod_emod, ← Int.mul_emod]; exact h1, by rw [Int.mul_emod, Int.emod_emod, ← Int.mul_emod]; exact h2⟩
  have := Int.emod_lt_of_pos m w0
  omega
/-- how it came to what is looked for now -/
inductive Ch (s0 w0 a0 b0 : Int) : List (List Int) → Int → Int → Int → Int → Prop
  | nil : 0 ≤ s0 → s0 < w0 → Nat.gcd s0.natAbs w0.natAbs = 1 → 0 ≤ a0 → a0 ≤ b0 → b0 < w0 → Ch s0 w0 a0 b0 [] s0 w0 a0 b0
  | snoc {gs s w a b} : Ch s0 w0 a0 b0 gs s w a b → 0 < a → b < -(-a / s) * s → Ch s0 w0 a0 b0 (gs ++ [[s, w, a]]) (w % s) s (-b % s) (-a % s)
structure Now (s w a b : Int) : Prop where
  s0 : 0 ≤ s
  sw : s < w
  co : Nat.gcd s.natAbs w.natAbs = 1
  a0 : 0 ≤ a
  ab : a ≤ b
  bw : b < w
theorem Now.pos {s w a b : Int} (N : Now s w a b) (h : 0 < a) : 0 < s := by
  rcases Int.lt_or_eq_of_le N.s0 with c | c
  · exact c
  · have co := N.co
    rw [← c, Int.natAbs_zero, Nat.gcd_zero_left] at co
    have := N.ab; have := N.bw
    omega
theorem Now.turn {s w a b : Int} (N : Now s w a b) (h : 0 < a) (g : b < -(-a / s) * s) : Now (w % s) s (-b % s) (-a % s) := by
  have s0 := N.pos h
  obtain ⟨h1, h2⟩ := ceil_at (a := a) s0
  have hab := N.ab
  generalize -(-a / s) = c at *
  have hc : b < s * c := by rw [Int.mul_comm]; exact g
  have ec : s * (c - 1) = s * c - s := by rw [Int.mul_sub, Int.mul_one]
  rw [neg_mod (a := a) (c := c) (d := s * c - a) (by omega) (by omega) (by omega), neg_mod (a := b) (c := c) (d := s * c - b) (by omega) (by omega) (by omega)]
  refine ⟨Int.emod_nonneg _ (by omega), Int.emod_lt_of_pos _ s0, ?_, by omega, by omega, by omega⟩
  have w0 : 0 ≤ w := by have := N.sw; omega
  obtain ⟨u, rfl⟩ := Int.eq_ofNat_of_zero_le w0
  obtain ⟨v, rfl⟩ := Int.eq_ofNat_of_zero_le (show 0 ≤ s by omega)
  have co := N.co
  rw [← Int.natCast_emod, Int.natAbs_natCast, Int.natAbs_natCast] 
  rw [Int.natAbs_natCast, Int.natAbs_natCast, Nat.gcd_rec] at co
  exact co
theorem Ch.now {s0 w0 a0 b0 : Int} {gs : List (List Int)} {s w a b : Int} (C : Ch s0 w0 a0 b0 gs s w a b) : Now s w a b := by
  induction C with
  | nil h1 h2 h3 h4 h5 h6 => exact ⟨h1, h2, h3, h4, h5, h6⟩
  | snoc C h g ih => exact ih.turn h g
theorem Ch.le {s0 w0 a0 b0 : Int} {gs : List (List Int)} {s w a b : Int} (C : Ch s0 w0 a0 b0 gs s w a b) : w ≤ w0 ∧ gs.length + s ≤ s0 := by
  induction C with
  | nil h1 h2 h3 h4 h5 h6 => exact ⟨Int.le_refl _, by simp⟩
  | @snoc gs s w a b C h g ih =>
    have N := C.now
    have s1 := N.pos h
    have := Int.emod_lt_of_pos w s1
    have := N.sw
    rw [List.length_append]
    refine ⟨by omega, by push_cast; show (gs.length : Int) + 1 + w % s ≤ s0; omega⟩
theorem Ch.root {s0 w0 a0 b0 : Int} {gs : List (List Int)} {s w a b : Int} (C : Ch s0 w0 a0 b0 gs s w a b) (e : gs = []) : s = s0 ∧ w = w0 ∧ a = a0 ∧ b = b0 := by
  cases C with
  | nil => exact ⟨rfl, rfl, rfl, rfl⟩
  | snoc => simp at e
/-- few turns: a product halves -/
theorem Ch.half {s0 w0 a0 b0 : Int} {gs : List (List Int)} {s w a b : Int} (C : Ch s0 w0 a0 b0 gs s w a b) : 2 ^ gs.length * (s * w) ≤ s0 * w0 := by
  induction C with
  | nil => simp
  | @snoc gs s w a b C h g ih =>
    have N := C.now
    have sp := N.pos h
    have sw := N.sw
    have r0 := Int.emod_nonneg w (show s ≠ 0 by omega)
    have r1 := Int.emod_lt_of_pos w sp
    have e := Int.emod_add_mul_ediv w s
    have q1 : 1 ≤ w / s := (Int.le_ediv_iff_mul_le sp).mpr (by omega)
    have q2 : s * 1 ≤ s * (w / s) := Int.mul_le_mul_of_nonneg_left q1 (by omega)
    have h2 : 2 * (w % s) ≤ w := by omega
    have h3 : 2 * (w % s) * s ≤ w * s := Int.mul_le_mul_of_nonneg_right h2 (by omega)
    have p0 : (0 : Int) ≤ 2 ^ gs.length := Int.le_of_lt (Int.pow_pos (by decide))
    have h4 : 2 ^ gs.length * (2 * (w % s) * s) ≤ 2 ^ gs.length * (w * s) := Int.mul_le_mul_of_nonneg_left h3 p0
    rw [List.length_append, List.length_singleton, Int.pow_succ]
    have e1 : 2 ^ gs.length * 2 * (w % s * s) = 2 ^ gs.length * (2 * (w % s) * s) := by
      rw [Int.mul_assoc, Int.mul_assoc]
    have e2 : 2 ^ gs.length * (w * s) = 2 ^ gs.length * (s * w) := by rw [Int.mul_comm w s]
    rw [e1]
    omega
theorem Ch.few {s0 w0 a0 b0 : Int} {gs : List (List Int)} {s w a b : Int} (C : Ch s0 w0 a0 b0 gs s w a b) (h : 0 < a) (s1 : 0 ≤ s0 ∧ s0 < w0 ∧ w0 < 2 ^ 100) : gs.length ≤ 900 := by
  have H := C.half
  have N := C.now
  have sp := N.pos h
  have sw := N.sw
  have p1 : (1 : Int) * 1 ≤ s * w := Int.mul_le_mul (by omega) (by omega) (by decide) (by omega)
  have p0 : (0 : Int) ≤ 2 ^ gs.length := Int.le_of_lt (Int.pow_pos (by decide))
  have h1 : 2 ^ gs.length * 1 ≤ 2 ^ gs.length * (s * w) := Int.mul_le_mul_of_nonneg_left (by omega) p0
  have h2 : s0 * w0 ≤ 2 ^ 100 * 2 ^ 100 := Int.mul_le_mul (by omega) (by omega) (by omega) (by decide)
  rcases Nat.lt_or_ge 900 gs.length with c | c
  · have h3 : (2 : Nat) ^ 900 ≤ 2 ^ gs.length := Nat.pow_le_pow_right (by decide) (by omega)
    have h4 : ((2 : Int) ^ gs.length) = ((2 ^ gs.length : Nat) : Int) := by push_cast; rfl
    have h5 : (2 : Nat) ^ 100 * 2 ^ 100 < 2 ^ 900 := by decide
    have h6 : ((2 : Int) ^ 100 * 2 ^ 100) = (((2 : Nat) ^ 100 * 2 ^ 100 : Nat) : Int) := by decide
    rw [h6] at h2
    rw [h4] at h1 H
    omega
  · exact c
theorem tups_get {H : Hp} : ∀ {rs : List Addr} {gs : List (List Int)} {j : Nat} {v : V}, Tups H rs gs → (rs.map V.ref)[j]? = some v → ∃ a g, v = .ref a ∧ gs[j]? = some g ∧ H a = some (.tup (g.map V.int))
  | [], _, j, v, _, h => by simp at h
  | r :: rs, [], j, v, T, _ => T.elim
  | r :: rs, g :: gs, 0, v, T, h => by
    rw [List.map_cons, List.getElem?_cons_zero] at h
    cases h
    exact ⟨r, g, rfl, rfl, T.1⟩
  | r :: rs, g :: gs, j + 1, v, T, h => by
    rw [List.map_cons, List.getElem?_cons_succ] at h
    obtain ⟨a, g', e1, e2, e3⟩ := tups_get T.2 h
    exact ⟨a, g', e1, by rw [List.getElem?_cons_succ]; exact e2, e3⟩
/-- the last one of a row that is not empty -/
theorem Ch.last {s0 w0 a0 b0 : Int} {gs hs : List (List Int)} {g : List Int} {s w a b : Int} (C : Ch s0 w0 a0 b0 gs s w a b) (e : gs = hs ++ [g]) : ∃ s' w' a' b', g = [s', w', a'] ∧ Ch s0 w0 a0 b0 hs s' w' a' b' ∧ 0 < a' ∧ b' < -(-a' / s') * s' ∧ s = w' % s' ∧ w = s' ∧ a = -b' % s' ∧ b = -a' % s' := by
  cases C with
  | nil => cases hs <;> simp at e
  | @snoc gs s w a b C h g' =>
    obtain ⟨e1, e2⟩ := List.append_inj' e rfl
    subst e1
    cases e2
    exact ⟨_, _, _, _, rfl, C, h, g', rfl, rfl, rfl, rfl⟩
section
variable {P : Program} {w : World} {K : PySem.W.Frag} {mg : Str → Option Value} {base : Heap}
theorem ok_fr {f fI : Addr} {fd fdI : FuncData} (F : Fun K "is_fraction" "is_fraction" sIsFr f fd) (B : Bc mg) (D : Df K mg "is_integer" sIsInt ["given"] fI fdI) : FnOk P w K mg base CX0 2 f fd ["given"] spFr := by
  have GI : FnOk P w K mg base CX0 1 fI fdI ["given"] spIsInt := ok_isInt D.F B
  refine F.ok scIsFr (fun vs H Q E h => ?_) (fun cdv A outer s H vs Q E hr h => ?_)
  · obtain ⟨t, x, y, rfl, _⟩ := h
    rfl
  · obtain ⟨t, x, y, rfl, ⟨hT, y1, co⟩, q⟩ := h
    refine ⟨_, pss_cons (ps_if (PW.pt (pw_or (pt_not (pt_val (pe_callB call_isi (by rfl) B.isi (by decide +kernel) (pa_cons (pv 0) (pa_cons (pe_bltn (v := .ty "tuple") (by rfl) B.tuple (by decide +kernel) rfl) pa_nil)))))
        (pw_or1 (pt_cmpR op_ne (pe_callB call_len_seq (by rfl) B.len PySem.boot_len (pa_cons (pv 0) pa_nil)) pe_int (nomark _))))) (pss_one (ps_ret pe_bl)) pss_nil)
      (pss_cons (ps_asg (pv 0) (pg_tup (by rfl) (pgs_cons (pg_name (i := 1) scIsFr.nd rfl (.inl rfl)) (pgs_cons (pg_name (i := 2) scIsFr.nd rfl (.inl rfl)) pgs_nil))))
      (pss_cons (ps_if (PW.pt (pw_or (pt_not (pt_val (pe_call GI hr (by rfl) D.g D.F.kp D.b .nil pass0 (pa_cons (pv 1) pa_nil)))) (pw_or1 (pt_not (pt_val (pe_call GI hr (by rfl) D.g D.F.kp D.b .nil pass0 (pa_cons (pv 2) pa_nil))))))) (pss_one (ps_ret pe_bl)) pss_nil)
      (pss_one (ps_ret (pe_and (pe_cmpR op_ge (pv 2) pe_int (nomark _)) (pe_one (pe_cmpR op_eq (pe_callBfun cr_gcd (by rfl) B.gcd (pa_cons (pv 1) (pa_cons (pv 2) pa_nil))) pe_int (nomark _)))))))), ?_⟩
    refine ⟨_, rfl, .ref t, .ty "tuple", _, _, true, rfl, .ty "tuple", .base (.tup hT), kit_ty (by decide +kernel), true, rfl, iteF ?_⟩
    refine ⟨_, rfl, t, _, rfl, .inr (SqT.of hT), rfl, _, rfl, iteF ?_⟩
    refine ⟨_, rfl, t, _, rfl, SqT.of hT, rfl, _, _, rfl, _, _, rfl, rfl, ?_⟩
    refine ⟨_, rfl, x, rfl, true, rfl, iteF ⟨_, rfl, y, rfl, true, rfl, iteF ?_⟩⟩
    refine ⟨_, rfl, _, _, rfl, rfl, _, rfl, ?_⟩
    rw [decide_eq_true y1]
    refine iteT ⟨_, rfl, _, rfl, x, y, rfl, ?_⟩
    rw [co]
    exact ⟨rfl, q⟩
theorem ok_part {f fI fR : Addr} {fd fdI fdR : FuncData} (F : Fun K "is_part" "is_part" sIsPart f fd) (B : Bc mg) (D : Df K mg "is_integer" sIsInt ["given"] fI fdI) (R : Df K mg "is_fraction" sIsFr ["given"] fR fdR) : FnOk P w K mg base CX0 3 f fd ["given"] spPart := by
  have GR : FnOk P w K mg base CX0 2 fR fdR ["given"] spFr := ok_fr R.F B D
  refine F.ok scIsPart (fun vs H Q E h => ?_) (fun cdv A outer s H vs Q E hr h => ?_)
  · obtain ⟨t, x, y, rfl, _⟩ := h
    rfl
  · obtain ⟨t, x, y, rfl, ⟨hT, fr⟩, x0, xy, q⟩ := h
    refine ⟨_, pss_one (ps_ret (pe_and (pe_call GR hr (by rfl) R.g R.F.kp R.b .nil pass0 (pa_cons (pv 0) pa_nil)) (pe_one (pe_chain op_le op_le pe_int (pe_ix ix_tup (pv 0) pe_int (fun _ _ => rfl)) (pe_ix ix_tup (pv 0) pe_int (fun _ _ => rfl)))))), ?_⟩
    refine ⟨_, rfl, t, x, y, rfl, ⟨hT, fr⟩, true, rfl, iteT ?_⟩
    refine ⟨_, rfl, t, _, 0, .int x, rfl, rfl, SqT.of hT, at_of (j := 0) rfl rfl, _, _, rfl, rfl, _, rfl, ?_⟩
    rw [decide_eq_true x0]
    refine iteT ⟨_, rfl, t, _, 1, .int y, rfl, rfl, SqT.of hT, at_of (j := 1) rfl rfl, _, _, rfl, rfl, ?_⟩
    show Q (.bl (decide (x ≤ y))) H
    rw [decide_eq_true xy]
    exact q
theorem ok_less {f : Addr} {fd : FuncData} (F : Fun K "is_less" "is_less" sIsLess f fd) : FnOk P w K mg base CX0 1 f fd ["one", "other"] spLess := by
  refine F.ok scIsLess (fun vs H Q E h => ?_) (fun cdv A outer s H vs Q E hr h => ?_)
  · obtain ⟨s, t, a, b, c, d, rfl, _⟩ := h
    rfl
  · obtain ⟨s, t, a, b, c, d, rfl, hS, hT, ba, bb, bc, bd, q⟩ := h
    refine ⟨_, pss_one (ps_ret (pe_cmpR op_lt (pe_op op_mulW (pe_ix ix_tup (pv 0) pe_int (fun _ _ => rfl)) (pe_ix ix_tup (pv 1) pe_int (fun _ _ => rfl))) (pe_op op_mulW (pe_ix ix_tup (pv 1) pe_int (fun _ _ => rfl)) (pe_ix ix_tup (pv 0) pe_int (fun _ _ => rfl))) (nomark _))), ?_⟩
    exact ⟨_, rfl, s, _, 0, .int a, rfl, rfl, SqT.of hS, at_of (j := 0) rfl rfl, _, rfl, t, _, 1, .int d, rfl, rfl, SqT.of hT, at_of (j := 1) rfl rfl, _, _, rfl, rfl, wide_mul ba bd (by decide) (by decide) (by decide),
      _, rfl, t, _, 0, .int c, rfl, rfl, SqT.of hT, at_of (j := 0) rfl rfl, _, rfl, s, _, 1, .int b, rfl, rfl, SqT.of hS, at_of (j := 1) rfl rfl, _, _, rfl, rfl, wide_mul bc bb (by decide) (by decide) (by decide), _, _, rfl, rfl, q⟩
theorem ok_arc {f fI fR fP fL : Addr} {fd fdI fdR fdP fdL : FuncData} (F : Fun K "_check_arc" "_check_arc" sChArc f fd) (B : Bc mg) (D : Df K mg "is_integer" sIsInt ["given"] fI fdI) (R : Df K mg "is_fraction" sIsFr ["given"] fR fdR)
    (T : Df K mg "is_part" sIsPart ["given"] fP fdP) (L : Df K mg "is_less" sIsLess ["one", "other"] fL fdL) : FnOk P w K mg base CX0 4 f fd ["low", "high"] spArc := by
  have GP : FnOk P w K mg base CX0 3 fP fdP ["given"] spPart := ok_part T.F B D R
  have GL : FnOk P w K mg base CX0 1 fL fdL ["one", "other"] spLess := ok_less L.F
  refine F.ok scChArc (fun vs H Q E h => ?_) (fun cdv A outer s H vs Q E hr h => ?_)
  · obtain ⟨s, t, a, b, c, d, rfl, _⟩ := h
    rfl
  · obtain ⟨s, t, a, b, c, d, rfl, hS, hT, a0, ab, c0, cd, bb, bd, lt, q⟩ := h
    have hr1 : Room 1 _ := hr.mono (by decide)
    have ba : a.natAbs < 2 ^ 200 := by omega
    have bc : c.natAbs < 2 ^ 200 := by omega
    refine ⟨_, pss_cons (ps_if (pt_not (pt_val (pe_call GP hr (by rfl) T.g T.F.kp T.b .nil pass0 (pa_cons (pv 0) pa_nil)))) (pss_one (ps_never)) pss_nil)
      (pss_one (ps_if (PW.pt (pw_or (pt_not (pt_val (pe_call GP hr (by rfl) T.g T.F.kp T.b .nil pass0 (pa_cons (pv 1) pa_nil)))) (pw_or1 (pt_not (pt_val (pe_call GL hr1 (by rfl) L.g L.F.kp L.b .nil pass0 (pa_cons (pv 0) (pa_cons (pv 1) pa_nil)))))))) (pss_one (ps_never)) pss_nil)), ?_⟩
    refine ⟨_, rfl, s, a, b, rfl, hS, a0, ab, true, rfl, iteF ?_⟩
    refine ⟨_, rfl, t, c, d, rfl, hT, c0, cd, true, rfl, iteF ?_⟩
    refine ⟨_, rfl, _, rfl, s, t, a, b, c, d, rfl, hS.1, hT.1, ba, bb, bc, bd, _, rfl, ?_⟩
    rw [decide_eq_true lt]
    exact iteF q
theorem ok_leastTop {f : Addr} {fd : FuncData} (F : Fun K "_least_top" "_least_top" sLeastTop f fd) : FnOk P w K mg base CX0 1 f fd ["fraction", "bottom"] spLeastTop := by
  refine F.ok scLeastTop (fun vs H Q E h => ?_) (fun cdv A outer s H vs Q E hr h => ?_)
  · obtain ⟨t, a, b, n, rfl, _⟩ := h
    rfl
  · obtain ⟨t, a, b, n, rfl, hT, b0, ba, bb, bn, q⟩ := h
    refine ⟨_, pss_one (ps_ret (pe_un un_neg (pe_op op_fdivW (pe_op op_mulW (pe_un un_neg (pe_ix ix_tup (pv 0) pe_int (fun _ _ => rfl))) (pv 1)) (pe_ix ix_tup (pv 0) pe_int (fun _ _ => rfl))))), ?_⟩
    exact ⟨_, rfl, t, _, 0, .int a, rfl, rfl, SqT.of hT, at_of (j := 0) rfl rfl, _, rfl, _, rfl, _, _, rfl, rfl, wide_mul (i := -a) (a := 200) (by rw [Int.natAbs_neg]; exact ba) bn (by decide) (by decide) (by decide), _, rfl, t, _, 1, .int b, rfl, rfl, SqT.of hT, at_of (j := 1) rfl rfl, _, _, rfl, rfl, wide_div b0 bb (by decide) (by decide), _, rfl, q⟩
theorem ok_ff {f : Addr} {fd : FuncData} (F : Fun K "_first_from" "_first_from" sFF f fd) : FnOk P w K mg base CX0 1 f fd ["slope", "least"] spFF := by
  refine F.ok scFF (fun vs H Q E h => ?_) (fun cdv A outer s H vs Q E hr h => ?_)
  · obtain ⟨s, a, rfl, _⟩ := h
    rfl
  · obtain ⟨s, a, rfl, s0, bs, q⟩ := h
    refine ⟨_, pss_one (ps_ret (pe_un un_neg (pe_op op_fdivW (pe_un un_neg (pv 1)) (pv 0)))), ?_⟩
    exact ⟨_, rfl, _, rfl, _, rfl, _, _, rfl, rfl, wide_div s0 bs (by decide) (by decide), _, rfl, q⟩
theorem ok_sum {f : Addr} {fd : FuncData} (F : Fun K "_sum_of_wholes" "_sum_of_wholes" sSum f fd) (dv : mg "divmod" = none) : FnOk P w K mg base CX0 1 f fd ["count", "bottom", "slope", "shift"] spSum := by
  refine F.ok scSum (fun vs H Q E h => ?_) (fun cdv A outer s H vs Q E hr h => ?_)
  · obtain ⟨n, m, a, b, rfl, _⟩ := h
    rfl
  · obtain ⟨n, m, a, b, rfl, n0, n1, m0, m1, a0, a1, b0, b1, q⟩ := h
    refine ⟨_, pss_cons (ps_set (i := 4) scSum.nd rfl (.inl rfl) pe_int)
      (pss_cons (ps_while PassesOwn.never (pt_truth (pv 0) (by intro _; rfl))
        (pss_cons (ps_aug (i := 4) scSum.nd rfl (.inl rfl) (pe_op op_add (pe_op op_mulW (pe_op op_fdiv (pe_op op_mulW (pv 0) (pe_op op_sub (pv 0) pe_int)) pe_int) (pe_op op_fdivW (pv 2) (pv 1))) (pe_op op_mulW (pv 0) (pe_op op_fdivW (pv 3) (pv 1)))) ip_add)
        (pss_cons (ps_par (i := 2) (j := 3) (by rfl) scSum.nd rfl rfl (by decide) rfl rfl (pa_cons (pe_op op_modN (pv 2) (pv 1)) (pa_cons (pe_op op_modN (pv 3) (pv 1)) pa_nil)) (by rfl))
        (pss_cons (ps_asg (pe_callB call_divmodW (by rfl) dv (by decide +kernel) (pa_cons (pe_op op_add (pe_op op_mulW (pv 2) (pv 0)) (pv 3)) (pa_cons (pv 1) pa_nil))) (pg_tup (by rfl) (pgs_cons (pg_name (i := 0) scSum.nd rfl (.inl rfl)) (pgs_cons (pg_name (i := 3) scSum.nd rfl (.inl rfl)) pgs_nil))))
        (pss_one (ps_par (i := 2) (j := 1) (by rfl) scSum.nd rfl rfl (by decide) rfl rfl (pa_cons (pv 1) (pa_cons (pv 2) pa_nil)) (by rfl)))))))
      (pss_one (ps_ret (pv 4)))), ?_⟩
    dsimp only [tSeq, tAsg, tC, gName]
    refine while_by (fun σ H' => ∃ (n' m' a' b' tot : Int), σ = [some (.int n'), some (.int m'), some (.int a'), some (.int b'), some (.int tot)] ∧ 0 ≤ n' ∧ n' < 2 ^ 100 ∧ 0 ≤ m' ∧ m' < 2 ^ 100 ∧ (n' = 0 ∨ 0 < m') ∧ 0 ≤ a' ∧ a' < 2 ^ 100 ∧ 0 ≤ b' ∧ b' < 2 ^ 101 ∧ tot + fsum m' a' b' n'.toNat = fsum m a b n.toNat ∧ Same H H')
      (fun σ _ => match σ with | [_, some (.int m'), _, _, _] => m'.toNat | _ => 0) ⟨n, m, a, b, 0, rfl, n0, n1, by omega, m1, .inr m0, a0, a1, b0, b1, by rw [Int.zero_add], Same.refl _⟩ ?_ ?_
    · rintro σ H' ⟨n', m', a', b', tot, rfl, n0', n1', m0', m1', hm, a0', a1', b0', b1', inv, s1⟩
      refine ⟨_, rfl, _, rfl, ?_⟩
      refine ite2 (fun hc => ?_) (fun hc => ?_)
      · have nn : n' ≠ 0 := by simpa using hc
        have mp : 0 < m' := by omega
        have r0 := Int.emod_nonneg a' (show m' ≠ 0 by omega)
        have r1 := Int.emod_lt_of_pos a' mp
        have t0 := Int.emod_nonneg b' (show m' ≠ 0 by omega)
        have t1 := Int.emod_lt_of_pos b' mp
        have d0 : 0 ≤ a' / m' := Int.ediv_nonneg a0' (by omega)
        have d1 : a' / m' ≤ a' := Int.ediv_le_self m' a0'
        have e0 : 0 ≤ b' / m' := Int.ediv_nonneg b0' (by omega)
        have e1 : b' / m' ≤ b' := Int.ediv_le_self m' b0'
        have f0 : 0 ≤ n' * (n' - 1) := Int.mul_nonneg n0' (by omega)
        have f1 : (n' * (n' - 1)).natAbs < 2 ^ (100 + 100) := wide_lt (nb n0' n1' (Nat.le_refl _)) (nb (n := 100) (show 0 ≤ n' - 1 by omega) (by omega) (Nat.le_refl _))
        have g0 : 0 ≤ n' * (n' - 1) / 2 := Int.ediv_nonneg f0 (by decide)
        have g1 : n' * (n' - 1) / 2 ≤ n' * (n' - 1) := Int.ediv_le_self 2 f0
        have g2 : (n' * (n' - 1) / 2).natAbs < 2 ^ 200 := Nat.lt_of_le_of_lt (by omega) f1
        refine ⟨_, rfl, ?_⟩
        refine ⟨_, rfl, _, rfl, _, _, rfl, rfl, _, _, rfl, rfl, wide_mul (nb n0' n1' (Nat.le_refl _)) (nb (n := 100) (m := 100) (show 0 ≤ n' - 1 by omega) (by omega) (Nat.le_refl _)) (by decide) (by decide) (by decide), _, _, rfl, rfl, ⟨by decide, by decide⟩, ?_⟩
        refine ⟨_, rfl, _, rfl, _, _, rfl, rfl, wide_div mp (nb m0' m1' (Nat.le_refl _)) (by decide) (by decide), _, _, rfl, rfl, wide_mul g2 (nb (n := 100) (m := 100) d0 (by omega) (Nat.le_refl _)) (by decide) (by decide) (by decide), ?_⟩
        refine ⟨_, rfl, _, rfl, _, rfl, _, _, rfl, rfl, wide_div mp (nb m0' m1' (Nat.le_refl _)) (by decide) (by decide), _, _, rfl, rfl, wide_mul (nb n0' n1' (Nat.le_refl _)) (nb (n := 101) (m := 101) e0 (by omega) (Nat.le_refl _)) (by decide) (by decide) (by decide), _, _, rfl, rfl, _, _, rfl, rfl, ?_⟩
        -- the rests
        refine ⟨_, rfl, _, rfl, _, _, rfl, rfl, (show m' ≠ 0 by omega), _, rfl, _, rfl, _, _, rfl, rfl, (show m' ≠ 0 by omega), _, _, rfl, ?_⟩
        have ea : a'.fmod m' = a' % m' := fmod_at mp
        have eb : b'.fmod m' = b' % m' := fmod_at mp
        rw [← ea] at r0 r1
        rw [← eb] at t0 t1
        -- divmod
        refine ⟨_, rfl, _, rfl, _, _, rfl, rfl, wide_mul (nb (n := 100) (m := 100) r0 (by omega) (Nat.le_refl _)) (nb n0' n1' (Nat.le_refl _)) (by decide) (by decide) (by decide), _, rfl, _, _, rfl, rfl, _, rfl, _, _, rfl, wide_div mp (nb m0' m1' (Nat.le_refl _)) (by decide) (by decide), fun p hp => ?_⟩
        refine ⟨p, _, rfl, SqT.of upd_same, rfl, _, _, rfl, _, _, rfl, rfl, ?_⟩
        refine ⟨_, rfl, _, rfl, _, _, rfl, ?_⟩
        have z0 : 0 ≤ a'.fmod m' * n' + b'.fmod m' := by
          have := Int.mul_nonneg r0 n0'; omega
        have z1 : (a'.fmod m' * n' + b'.fmod m') / m' ≤ n' := by
          have h1 : a'.fmod m' * n' ≤ (m' - 1) * n' := Int.mul_le_mul_of_nonneg_right (by omega) n0'
          have h2 : (m' - 1) * n' = m' * n' - n' := by rw [Int.sub_mul, Int.one_mul]
          have h3 := (Int.ediv_lt_iff_lt_mul mp (a := a'.fmod m' * n' + b'.fmod m') (b := n' + 1)).mpr (by rw [Int.add_mul, Int.one_mul, Int.mul_comm n' m']; omega)
          omega
        have z2 : 0 ≤ (a'.fmod m' * n' + b'.fmod m') / m' := Int.ediv_nonneg z0 m0'
        have z3 := Int.emod_nonneg (a'.fmod m' * n' + b'.fmod m') (show m' ≠ 0 by omega)
        have z4 := Int.emod_lt_of_pos (a'.fmod m' * n' + b'.fmod m') mp
        refine ⟨⟨_, _, _, _, _, rfl, z2, by omega, r0, by omega, ?_, m0', m1', z3, by omega, ?_, s1.trans (same_put hp)⟩, ?_⟩
        · rcases Int.lt_or_eq_of_le r0 with c | c
          · exact .inr c
          · left
            rw [← c, Int.zero_mul, Int.zero_add]
            exact Int.ediv_eq_zero_of_lt t0 t1
        · have st := fsum_step mp a0' b0' n'.toNat
          rw [Int.toNat_of_nonneg n0', ← ea, ← eb] at st
          rw [← inv, st]
          split
          · rename_i c
            rw [c, Int.zero_mul, Int.zero_add, Int.ediv_eq_zero_of_lt t0 t1]
            show tot + (n' * (n' - 1) / 2 * (a' / m') + n' * (b' / m')) + 0 = tot + _
            omega
          · show tot + (n' * (n' - 1) / 2 * (a' / m') + n' * (b' / m')) + _ = tot + _
            omega
        · show (a'.fmod m').toNat < m'.toNat
          omega
      · have nn : n' = 0 := by
          rcases Int.decEq n' 0 with c | c
          · exact absurd (by simpa using c) hc
          · exact c
        subst nn
        refine ⟨_, rfl, ?_⟩
        have e : tot = fsum m a b n.toNat := by
          rw [← inv]
          show tot = tot + 0
          omega
        rw [e]
        exact q _ s1
    · rintro σ H' Q1 Q2 mo ⟨v, e1, k, e2, h⟩
      exact ⟨v, e1, k, e2, mo _ _ h⟩
theorem ok_below {f fS : Addr} {fd fdS : FuncData} (F : Fun K "_how_many_below" "_how_many_below" sBelow f fd) (S : Df K mg "_sum_of_wholes" sSum ["count", "bottom", "slope", "shift"] fS fdS) (dv : mg "divmod" = none) : FnOk P w K mg base CX0 2 f fd ["step", "count", "most"] spBelow := by
  have GS : FnOk P w K mg base CX0 1 fS fdS ["count", "bottom", "slope", "shift"] spSum := ok_sum S.F dv
  refine F.ok scBelow (fun vs H Q E h => ?_) (fun cdv A outer s H vs Q E hr h => ?_)
  · obtain ⟨t, x, y, n, c, rfl, _⟩ := h
    rfl
  · obtain ⟨t, x, y, n, c, rfl, ⟨hT, st⟩, y1, n0, n1, c0, cy, q⟩ := h
    have x0 := st.x0
    have xy := st.xy
    refine ⟨_, pss_cons (ps_asg (pv 0) (pg_tup (by rfl) (pgs_cons (pg_name (i := 3) scBelow.nd rfl (.inl rfl)) (pgs_cons (pg_name (i := 4) scBelow.nd rfl (.inl rfl)) pgs_nil))))
      (pss_one (ps_ret (pe_op op_sub (pe_op op_add (pv 1) (pe_call GS hr (by rfl) S.g S.F.kp S.b .nil pass0 (pa_cons (pv 1) (pa_cons (pv 4) (pa_cons (pv 3) (pa_cons pe_int pa_nil)))))) (pe_call GS hr (by rfl) S.g S.F.kp S.b .nil pass0 (pa_cons (pv 1) (pa_cons (pv 4) (pa_cons (pv 3) (pa_cons (pe_op op_sub (pv 4) (pv 2)) pa_nil)))))))), ?_⟩
    refine ⟨_, rfl, t, _, rfl, SqT.of hT, rfl, _, _, rfl, _, _, rfl, rfl, ?_⟩
    refine ⟨_, rfl, _, rfl, _, rfl, _, rfl, n, y, x, 0, rfl, n0, n1, by omega, y1, x0, by omega, Int.le_refl 0, by decide, fun H1 s1 => ?_⟩
    refine ⟨_, _, rfl, rfl, _, rfl, _, rfl, _, rfl, _, rfl, _, rfl, _, _, rfl, rfl, n, y, x, y - c, rfl, n0, n1, by omega, y1, x0, by omega, by omega, by omega, fun H2 s2 => ?_⟩
    refine ⟨_, _, rfl, rfl, ?_⟩
    have e := below_fsum (x := x) (show 0 < y by omega) c0 cy n.toNat
    rw [Int.toNat_of_nonneg n0] at e
    have z := q _ (s1.trans s2)
    rw [e] at z
    exact z
theorem ok_fft {f fG : Addr} {fd fdG : FuncData} (F : Fun K "_first_from_to" "_first_from_to" sFFT f fd) (G : Df K mg "_first_from" sFF ["slope", "least"] fG fdG) (mr : mg "reversed" = none) : FnOk P w K mg base CX0 2 f fd ["step", "least", "most"] spFFT := by
  have GG : FnOk P w K mg base CX0 1 fG fdG ["slope", "least"] spFF := ok_ff G.F
  refine F.ok scFFT (fun vs H Q E h => ?_) (fun cdv A outer s H vs Q E hr h => ?_)
  · obtain ⟨t, x, y, a, b, rfl, _⟩ := h
    rfl
  · obtain ⟨t, x, y, a, b, rfl, ⟨hT, st⟩, y1, a0, ab, by', q⟩ := h
    have x0 := st.x0
    have xy := st.xy
    refine ⟨_, pss_cons (ps_asg (pv 0) (pg_tup (by rfl) (pgs_cons (pg_name (i := 3) scFFT.nd rfl (.inl rfl)) (pgs_cons (pg_name (i := 4) scFFT.nd rfl (.inl rfl)) pgs_nil))))
      (pss_cons (ps_set (i := 5) scFFT.nd rfl (.inl rfl) (pe_lst pa_nil))
      (pss_cons (ps_while PassesOwn.never (PW.pt (pw_and (pt_cmpR op_gt (pv 1) pe_int (nomark _)) (pw_and1 (pt_cmpR op_gt (pe_op op_mulW (pe_call GG hr (by rfl) G.g G.F.kp G.b .nil pass0 (pa_cons (pv 3) (pa_cons (pv 1) pa_nil))) (pv 3)) (pv 2) (nomark _)))))
        (pss_cons (ps_expr (pe_bm PySem.F.plainAttrs_list PySem.F.slot_list_append PySem.F.type_list_append mt_append (pv 5) (pa_cons (pe_tup (pa_cons (pv 3) (pa_cons (pv 4) (pa_cons (pv 1) pa_nil)))) pa_nil)))
        (pss_one (ps_asg (pe_tup (pa_cons (pe_op op_modN (pv 4) (pv 3)) (pa_cons (pv 3) (pa_cons (pe_op op_modN (pe_un un_neg (pv 2)) (pv 3)) (pa_cons (pe_op op_modN (pe_un un_neg (pv 1)) (pv 3)) pa_nil)))))
          (pg_tup (by rfl) (pgs_cons (pg_name (i := 3) scFFT.nd rfl (.inl rfl)) (pgs_cons (pg_name (i := 4) scFFT.nd rfl (.inl rfl)) (pgs_cons (pg_name (i := 1) scFFT.nd rfl (.inl rfl)) (pgs_cons (pg_name (i := 2) scFFT.nd rfl (.inl rfl)) pgs_nil)))))))))
      (pss_cons (ps_set (i := 6) scFFT.nd rfl (.inl rfl) (pe_ifExp (pt_cmpR op_gt (pv 1) pe_int (nomark _)) (pe_call GG hr (by rfl) G.g G.F.kp G.b .nil pass0 (pa_cons (pv 3) (pa_cons (pv 1) pa_nil))) pe_int))
      (pss_cons (ps_for PassesOwn.never rfl (pi_reversed (by rfl) mr (pa_cons (pv 5) pa_nil)) (pg_tup (by rfl) (pgs_cons (pg_name (i := 3) scFFT.nd rfl (.inl rfl)) (pgs_cons (pg_name (i := 4) scFFT.nd rfl (.inl rfl)) (pgs_cons (pg_name (i := 1) scFFT.nd rfl (.inl rfl)) pgs_nil))))
        (pss_one (ps_set (i := 6) scFFT.nd rfl (.inl rfl) (pe_call GG hr (by rfl) G.g G.F.kp G.b .nil pass0 (pa_cons (pv 3) (pa_cons (pe_op op_add (pv 1) (pe_op op_mulW (pv 4) (pv 6))) pa_nil))))))
      (pss_one (ps_ret (pv 6))))))), ?_⟩
    refine ⟨_, rfl, t, _, rfl, SqT.of hT, rfl, _, _, rfl, _, _, rfl, rfl, ?_⟩
    refine ⟨Nat.zero_le _, fun l hl => ?_⟩
    have s1 : Same H (upd H l (.lst [])) := same_put hl
    refine while_by (fun σ H' => ∃ (rs : List Addr) (gs : List (List Int)) (s' w' a' b' : Int), σ = [some (.ref t), some (.int a'), some (.int b'), some (.int s'), some (.int w'), some (.ref l), none] ∧ Same H H' ∧ H' l = some (.lst (rs.map V.ref)) ∧ Tups H' rs gs ∧ Ch x y a b gs s' w' a' b')
      (fun σ _ => match σ with | [_, _, _, some (.int s'), _, _, _] => s'.toNat | _ => 0) ⟨[], [], x, y, a, b, rfl, s1, upd_same, trivial, .nil x0 xy st.co a0 ab by'⟩ ?_ ?_
    · rintro σ H1 ⟨rs, gs, s', w', a', b', rfl, s2', hL, tu, C⟩
      have N := C.now
      obtain ⟨wl, gl⟩ := C.le
      have ns := N.s0; have nsw := N.sw; have na := N.a0; have nab := N.ab; have nbw := N.bw
      have bs : s'.natAbs < 2 ^ 200 := nb (n := 100) ns (by omega) (by decide)
      refine ⟨_, rfl, _, _, rfl, rfl, _, rfl, and_join (decide (0 < a' ∧ b' < -(-a' / s') * s')) (fun hc R zz => ?_) (fun hc => ?_) ?_⟩
      · have ap : 0 < a' := of_decide_eq_true hc
        have sp := N.pos ap
        obtain ⟨h1, h2⟩ := ceil_at (a := a') sp
        have cb : (-(-a' / s')).natAbs < 2 ^ 200 := by
          have c0 : 0 ≤ -(-a' / s') := by
            rcases Int.lt_or_le (-(-a' / s')) 0 with c | c
            · have := Int.mul_nonpos_of_nonneg_of_nonpos (show 0 ≤ s' by omega) (show -(-a' / s') ≤ 0 by omega); omega
            · exact c
          have c1 : -(-a' / s') ≤ a' := (ceil_le sp).mpr (by
            have := Int.mul_le_mul_of_nonneg_right (show 1 ≤ s' by omega) na; omega)
          exact nb (n := 100) c0 (by omega) (by decide)
        refine ⟨_, rfl, _, rfl, s', a', rfl, sp, bs, _, rfl, _, _, rfl, rfl, wide_mul cb bs (by decide) (by decide) (by decide), _, rfl, _, _, rfl, rfl, _, rfl, ?_⟩
        have e : decide (b' < -(-a' / s') * s') = decide (0 < a' ∧ b' < -(-a' / s') * s') := by
          rw [decide_eq_decide]
          exact ⟨fun y => ⟨ap, y⟩, fun y => y.2⟩
        rw [e]
        exact zz
      · have ap : ¬ 0 < a' := of_decide_eq_false hc
        exact decide_eq_false fun y => ap y.1
      refine ite2 (fun hc => ?_) (fun hc => ?_)
      · obtain ⟨ap, g⟩ := of_decide_eq_true hc
        have sp := N.pos ap
        have few := C.few ap ⟨x0, xy, y1⟩
        refine ⟨_, rfl, .inl ⟨rfl, _, .inl (.inl hL)⟩, _, rfl, _, rfl, _, rfl, (by show 3 ≤ sizeLine; decide), fun p hp => ?_⟩
        have lp : l ≠ p := ne_of_none hL hp
        have s3 : Same H1 (upd H1 p (.tup [.int s', .int w', .int a'])) := same_put hp
        refine ⟨l, _, _, rfl, rfl, s3 _ _ hL, ?_, ?_⟩
        · rw [List.length_map, tu.len]
          exact small1000 (by omega)
        have hL2 : upd (upd H1 p (.tup [.int s', .int w', .int a'])) l (.lst (rs.map V.ref ++ [.ref p])) l = some (.lst ((rs ++ [p]).map V.ref)) := by rw [upd_same, List.map_append]; rfl
        have tu2 : Tups (upd (upd H1 p (.tup [.int s', .int w', .int a'])) l (.lst (rs.map V.ref ++ [.ref p]))) (rs ++ [p]) (gs ++ [[s', w', a']]) := by
          refine Tups.snoc ?_ (tu.mono fun r g e => ?_)
          · rw [upd_ne lp.symm, upd_same]; rfl
          · have n1 : r ≠ l := ne_of e hL (by intro z; cases z)
            rw [upd_ne n1]
            exact s3 _ _ e
        have sH : Same H (upd (upd H1 p (.tup [.int s', .int w', .int a'])) l (.lst (rs.map V.ref ++ [.ref p]))) := fun q1 z1 e1 => by
          rw [upd_ne (ne_of_none e1 hl)]
          exact s3 _ _ (s2' _ _ e1)
        generalize upd (upd H1 p (.tup [.int s', .int w', .int a'])) l (.lst (rs.map V.ref ++ [.ref p])) = H2 at hL2 tu2 sH ⊢
        refine ⟨_, rfl, _, rfl, _, _, rfl, rfl, (show s' ≠ 0 by omega), _, rfl, _, rfl, _, rfl, _, rfl, _, _, rfl, rfl, (show s' ≠ 0 by omega), _, rfl, _, rfl, _, rfl, _, _, rfl, rfl, (show s' ≠ 0 by omega), (by show 4 ≤ sizeLine; decide), fun p2 hp2 => ?_⟩
        refine ⟨p2, _, rfl, SqT.of upd_same, rfl, _, _, rfl, _, _, rfl, _, _, rfl, _, _, rfl, rfl, ?_⟩
        have s4 := same_put (o := HO.tup [.int (w'.fmod s'), .int s', .int ((-b').fmod s'), .int ((-a').fmod s')]) hp2
        have C2 := Ch.snoc C ap g
        rw [← fmod_at (k := w') sp, ← fmod_at (k := -b') sp, ← fmod_at (k := -a') sp] at C2
        refine ⟨⟨_, _, _, _, _, _, rfl, sH.trans s4, s4 _ _ hL2, tu2.mono fun r g e => s4 _ _ e, C2⟩, ?_⟩
        show (w'.fmod s').toNat < s'.toNat
        have := fmod_lt (a := w') sp
        omega
      · have hn : ¬ (0 < a' ∧ b' < -(-a' / s') * s') := fun z => hc (decide_eq_true z)
        refine ⟨_, rfl, _, _, rfl, rfl, _, rfl, tif (.int (-(-a' / s'))) (.int 0) (fun hd R z => ⟨_, rfl, _, rfl, s', a', rfl, N.pos (of_decide_eq_true hd), bs, z⟩) (fun _ R z => z) (fun v e1 e2 => ?_)⟩
        obtain ⟨m, rfl, Fm⟩ : ∃ m, v = V.int m ∧ Fst s' w' a' b' m := by
          by_cases hd : 0 < a'
          · exact ⟨_, e1 (decide_eq_true hd), fst_turn (N.pos hd) nsw hd nbw (by
              rcases Int.lt_or_le b' (-(-a' / s') * s') with c | c
              · exact absurd ⟨hd, c⟩ hn
              · exact c)⟩
          · exact ⟨_, e2 (decide_eq_false hd), fst_zero (by omega) (by omega) (by omega)⟩
        refine ⟨_, rfl, l, _, rfl, SqL.of hL, for_rv (K := K) (a := l) (xs := rs.map V.ref) (fun i σ H2 => ∃ (m s2 w2 a2 b2 a3 s3 w3 : Int), σ = [some (.ref t), some (.int a3), some (.int b'), some (.int s3), some (.int w3), some (.ref l), some (.int m)] ∧ H2 = H1 ∧ Ch x y a b (gs.take (gs.length - i)) s2 w2 a2 b2 ∧ Fst s2 w2 a2 b2 m)
          ⟨m, s', w', a', b', a', s', w', rfl, rfl, by rw [Nat.sub_zero, List.take_length]; exact C, Fm⟩ (fun i σ H2 _ ⟨_, _, _, _, _, _, _, _, _, e, _⟩ => by rw [e]; exact SqL.of hL) ?_ ?_⟩
        · rintro i v σ H2 hi hv ⟨m, s2, w2, a2, b2, a3, s3, w3, rfl, rfl, C2, F2⟩
          rw [List.length_map, tu.len] at hi hv
          obtain ⟨r, g, rfl, hg, hr'⟩ := tups_get tu hv
          have eg : gs.take (gs.length - i) = gs.take (gs.length - (i + 1)) ++ [g] := by
            rw [show gs.length - i = gs.length - (i + 1) + 1 by omega, List.take_add_one, show gs.length - (i + 1) = gs.length - 1 - i by omega, hg]; rfl
          obtain ⟨s4, w4, a4, b4, rfl, C3, ap, g', rfl, rfl, rfl, rfl⟩ := C2.last eg
          have N3 := C3.now
          have sp := N3.pos ap
          have wl3 := C3.le.1
          have fl := fst_lt sp F2
          have nw := N3.sw
          have nb' := N3.bw
          have na' := N3.ab
          refine ⟨r, _, rfl, SqT.of hr', rfl, _, _, rfl, _, _, rfl, _, _, rfl, rfl, ?_⟩
          refine ⟨_, rfl, _, rfl, _, rfl, _, rfl, _, _, rfl, rfl, wide_mul (nb (n := 100) (m := 100) (show 0 ≤ w4 by omega) (by omega) (Nat.le_refl _)) (nb (n := 100) (m := 100) fl.1 (by omega) (Nat.le_refl _)) (by decide) (by decide) (by decide), _, _, rfl, rfl, _, _, rfl, sp, nb (n := 100) (m := 200) (by omega) (by omega) (by decide), ?_⟩
          exact ⟨_, _, _, _, _, _, _, _, rfl, rfl, C3, fst_back sp nw ap na' nb' g' F2⟩
        · rintro σ H2 ⟨m, s2, w2, a2, b2, a3, s3, w3, rfl, rfl, C2, F2⟩
          rw [List.length_map, tu.len, Nat.sub_self, List.take_zero] at C2
          obtain ⟨rfl, rfl, rfl, rfl⟩ := C2.root rfl
          exact ⟨_, rfl, q m _ s2' F2⟩
    · rintro σ H1 Q1 Q2 mo ⟨v1, e1, i1, j1, e2, e3, kk, e4, h7⟩
      refine ⟨v1, e1, i1, j1, e2, e3, kk, e4, ?_⟩
      cases kk with
      | false => exact iteF (mo _ _ (by simpa using h7))
      | true =>
        rw [if_pos rfl] at h7
        obtain ⟨v3, e7, v4, e8, s5, a5, e9, c1, c2, v5, e11, i3, j3, e13, e14, c3, v6, e15, i4, j4, e16, e17, k5, e18, h8⟩ := h7
        exact iteT ⟨v3, e7, v4, e8, s5, a5, e9, c1, c2, v5, e11, i3, j3, e13, e14, c3, v6, e15, i4, j4, e16, e17, k5, e18, mo _ _ h8⟩
end
end My
set_option Elab.async false
set_option linter.all false
set_option maxRecDepth 100000
set_option maxHeartbeats 4000000
set_option exponentiation.threshold 2000
namespace My
open PySem PySem.Spec PyProof.Rows L2 Gn Mt
abbrev sHowMany : Stmt := top 17
abbrev sWithin : Stmt := top 18
abbrev sChCount : Stmt := top 19
abbrev sUnder : Stmt := top 33
abbrev sSpot : Stmt := top 35
abbrev sArc : Stmt := top 36
abbrev sLies : Stmt := top 37
theorem scHowMany : FnScope ["step", "count", "low", "high", "below_high"] ["step", "count", "low", "high"] (defScope sHowMany) := ⟨rfl, rfl, rfl, by decide +kernel, rfl, by decide +kernel, by decide +kernel⟩
theorem scWithin : FnScope ["step", "low", "high", "least", "most"] ["step", "low", "high"] (defScope sWithin) := ⟨rfl, rfl, rfl, by decide +kernel, rfl, by decide +kernel, by decide +kernel⟩
theorem scChCount : FnScope ["step", "count"] ["step", "count"] (defScope sChCount) := ⟨rfl, rfl, rfl, by decide +kernel, rfl, by decide +kernel, by decide +kernel⟩
theorem scUnder : FnScope ["_law_one", "_law_two"] ["_law_one", "_law_two"] (defScope sUnder) := ⟨rfl, rfl, rfl, by decide +kernel, rfl, by decide +kernel, by decide +kernel⟩
theorem scSpot : FnScope ["_law_x", "_law_k"] ["_law_x", "_law_k"] (defScope sSpot) := ⟨rfl, rfl, rfl, by decide +kernel, rfl, by decide +kernel, by decide +kernel⟩
theorem scArc : FnScope ["_law_tin_here", "_law_most", "_law_bottom", "_law_low_here", "_law_high"] ["_law_tin_here", "_law_most"] (defScope sArc) := ⟨rfl, rfl, rfl, by decide +kernel, rfl, by decide +kernel, by decide +kernel⟩
theorem scLies : FnScope ["_law_x", "_law_k", "_law_low_here", "_law_high", "_law_spot_here"] ["_law_x", "_law_k", "_law_low_here", "_law_high"] (defScope sLies) := ⟨rfl, rfl, rfl, by decide +kernel, rfl, by decide +kernel, by decide +kernel⟩
/-- an arc stands at s and u -/
structure ArcAt (H : Hp) (s u : Addr) (a b c d : Int) : Prop where
  s : FrAt H s a b
  u : FrAt H u c d
  a0 : 0 ≤ a
  ab : a ≤ b
  c0 : 0 ≤ c
  cd : c ≤ d
  b1 : b.natAbs < 2 ^ 150
  d1 : d.natAbs < 2 ^ 150
  lt : a * d < c * b
theorem ArcAt.same {H H' : Hp} {s u : Addr} {a b c d : Int} (A : ArcAt H s u a b c d) (e : Same H H') : ArcAt H' s u a b c d := ⟨⟨e _ _ A.s.1, A.s.2⟩, ⟨e _ _ A.u.1, A.u.2⟩, A.a0, A.ab, A.c0, A.cd, A.b1, A.d1, A.lt⟩
def spChCount : Sp := fun vs H Q _ => ∃ (t : Addr) (x y n : Int), vs = [.ref t, .int n] ∧ StepAt H t x y ∧ 1 ≤ n ∧ n ≤ 10 ^ 30 ∧ Q .non H
def spHowMany : Sp := fun vs H Q _ => ∃ (t s u : Addr) (x y n a b c d : Int), vs = [.ref t, .int n, .ref s, .ref u] ∧ StepAt H t x y ∧ y < 2 ^ 100 ∧ 1 ≤ n ∧ n ≤ 10 ^ 30 ∧ ArcAt H s u a b c d ∧
  ∀ H', Same H H' → Q (.int (below x y (ltop c d y) n.toNat - below x y (ltop a b y) n.toNat)) H'
def spWithin : Sp := fun vs H Q _ => ∃ (t s u : Addr) (x y a b c d : Int), vs = [.ref t, .ref s, .ref u] ∧ StepAt H t x y ∧ y < 2 ^ 100 ∧ ArcAt H s u a b c d ∧
  ∀ v H', Same H H' → (ltop c d y ≤ ltop a b y ∧ v = .non) ∨ (ltop a b y < ltop c d y ∧ ∃ m, v = .int m ∧ Fst x y (ltop a b y) (ltop c d y - 1) m) → Q v H'
def spSpot : Sp := fun vs H Q _ => ∃ (t : Addr) (x y k : Int), vs = [.ref t, .int k] ∧ H t = some (.tup [.int x, .int y]) ∧ 0 < y ∧ x.natAbs < 2 ^ 200 ∧ k.natAbs < 2 ^ 200 ∧ Q (.int ((k * x).fmod y)) H
def spLies : Sp := fun vs H Q _ => ∃ (t s u : Addr) (x y k a b c d : Int), vs = [.ref t, .int k, .ref s, .ref u] ∧ StepAt H t x y ∧ y < 2 ^ 100 ∧ k.natAbs < 2 ^ 200 ∧ ArcAt H s u a b c d ∧ ∀ H', Same H H' → Q (.bl (inA x y (ltop a b y) (ltop c d y) k)) H'
def spArcL : Sp := fun vs H Q _ => ∃ (t : Addr) (n : Int), vs = [.ref t, .int n] ∧ Tin H t ∧ 1 ≤ n ∧ n < 2 ^ 90 ∧
  ∀ a b c d s u p H', ArcAt H' s u a b c d → H' p = some (.lst [.ref s, .ref u]) → Sipped H H' t → Q (.ref p) H'
/-- what the counting functions ask of the module -/
structure Cn (K : PySem.W.Frag) (mg : Str → Option Value) where
  c : Bc mg
  dv : mg "divmod" = none
  rv : mg "reversed" = none
  mc : ∃ tk, mg "MOST_COUNT" = some (.int (10 ^ 30) tk)
  fi : Addr × FuncData
  fr : Addr × FuncData
  fs : Addr × FuncData
  fc : Addr × FuncData
  fm : Addr × FuncData
  fn : Addr × FuncData
  fp : Addr × FuncData
  fl : Addr × FuncData
  gc : Addr × FuncData
  ga : Addr × FuncData
  gb : Addr × FuncData
  gs : Addr × FuncData
  gt : Addr × FuncData
  gf : Addr × FuncData
  gg : Addr × FuncData
  di : Df K mg "is_integer" sIsInt ["given"] fi.1 fi.2
  dr : Df K mg "is_fraction" sIsFr ["given"] fr.1 fr.2
  ds : Df K mg "is_step" sIsStep ["given"] fs.1 fs.2
  dc : Df K mg "check_step" sChStep ["given"] fc.1 fc.2
  dm : Df K mg "is_number" sIsNum ["given", "least", "most"] fm.1 fm.2
  dn : Df K mg "check_number" sChNum ["given", "least", "most"] fn.1 fn.2
  dp : Df K mg "is_part" sIsPart ["given"] fp.1 fp.2
  dl : Df K mg "is_less" sIsLess ["one", "other"] fl.1 fl.2
  ec : Df K mg "_check_count" sChCount ["step", "count"] gc.1 gc.2
  ea : Df K mg "_check_arc" sChArc ["low", "high"] ga.1 ga.2
  eb : Df K mg "_how_many_below" sBelow ["step", "count", "most"] gb.1 gb.2
  es : Df K mg "_sum_of_wholes" sSum ["count", "bottom", "slope", "shift"] gs.1 gs.2
  et : Df K mg "_least_top" sLeastTop ["fraction", "bottom"] gt.1 gt.2
  ef : Df K mg "_first_from_to" sFFT ["step", "least", "most"] gf.1 gf.2
  eg : Df K mg "_first_from" sFF ["slope", "least"] gg.1 gg.2
theorem w100 {z : Int} (h : z.natAbs < 2 ^ 100) : z.natAbs < 2 ^ 150 := Nat.lt_of_lt_of_le h (Nat.pow_le_pow_right (by decide) (by decide))
theorem w150 {z : Int} {m : Nat} (h : z.natAbs < 2 ^ 150) (hm : 150 ≤ m) : z.natAbs < 2 ^ m := Nat.lt_of_lt_of_le h (Nat.pow_le_pow_right (by decide) hm)
section
variable {P : Program} {w : World} {K : PySem.W.Frag} {mg : Str → Option Value} {base : Heap}
theorem ok_chCount {f : Addr} {fd : FuncData} (F : Fun K "_check_count" "_check_count" sChCount f fd) (M : Cn K mg) : FnOk P w K mg base CX0 5 f fd ["step", "count"] spChCount := by
  have GC : FnOk P w K mg base CX0 4 M.fc.1 M.fc.2 ["given"] (spIsSt .non) := ok_chStep M.dc.F M.c M.di M.dr M.ds
  have GN : FnOk P w K mg base CX0 3 M.fn.1 M.fn.2 ["given", "least", "most"] spChNum := ok_chNum M.dn.F M.c M.di M.dm
  refine F.ok scChCount (fun vs H Q E h => ?_) (fun cdv A outer s H vs Q E hr h => ?_)
  · obtain ⟨t, x, y, n, rfl, _⟩ := h
    rfl
  · obtain ⟨t, x, y, n, rfl, st, n1, n2, q⟩ := h
    obtain ⟨tk, hmc⟩ := M.mc
    have hr3 : Room 3 _ := hr.mono (by decide)
    refine ⟨_, pss_cons (ps_expr (pe_call GC hr (by rfl) M.dc.g M.dc.F.kp M.dc.b .nil pass0 (pa_cons (pv 0) pa_nil)))
      (pss_one (ps_expr (pe_call GN hr3 (by rfl) M.dn.g M.dn.F.kp M.dn.b .nil pass0 (pa_cons (pv 1) (pa_cons pe_int (pa_cons (pe_glob (v := .int (10 ^ 30)) rfl hmc ⟨_, rfl⟩) pa_nil)))))), ?_⟩
    exact ⟨_, rfl, t, x, y, rfl, st, _, rfl, n, 1, 10 ^ 30, rfl, n1, n2, q⟩
theorem ok_howMany {f : Addr} {fd : FuncData} (F : Fun K "how_many" "how_many" sHowMany f fd) (M : Cn K mg) : FnOk P w K mg base CX0 6 f fd ["step", "count", "low", "high"] spHowMany := by
  have GC : FnOk P w K mg base CX0 5 M.gc.1 M.gc.2 ["step", "count"] spChCount := ok_chCount M.ec.F M
  have GA : FnOk P w K mg base CX0 4 M.ga.1 M.ga.2 ["low", "high"] spArc := ok_arc M.ea.F M.c M.di M.dr M.dp M.dl
  have GB : FnOk P w K mg base CX0 2 M.gb.1 M.gb.2 ["step", "count", "most"] spBelow := ok_below M.eb.F M.es M.dv
  have GT : FnOk P w K mg base CX0 1 M.gt.1 M.gt.2 ["fraction", "bottom"] spLeastTop := ok_leastTop M.et.F
  refine F.ok scHowMany (fun vs H Q E h => ?_) (fun cdv A outer s0 H vs Q E hr h => ?_)
  · obtain ⟨t, s, u, x, y, n, a, b, c, d, rfl, _⟩ := h
    rfl
  · obtain ⟨t, s, u, x, y, n, a, b, c, d, rfl, ⟨hT, st⟩, y1, n1, n2, A, q⟩ := h
    have x0 := st.x0
    have xy := st.xy
    have hr4 : Room 4 _ := hr.mono (by decide)
    have hr2 : Room 2 _ := hr.mono (by decide)
    have hr1 : Room 1 _ := hr.mono (by decide)
    have b0 := A.s.2.1
    have d0 := A.u.2.1
    have a0 := A.a0; have ab := A.ab; have c0 := A.c0; have cd := A.cd
    have yb : y.natAbs < 2 ^ 200 := nb (n := 100) (by omega) y1 (by decide)
    have hb := w150 A.b1 (m := 200) (by decide)
    have hd := w150 A.d1 (m := 200) (by decide)
    have ha : a.natAbs < 2 ^ 200 := Nat.lt_of_le_of_lt (by omega) hb
    have hc : c.natAbs < 2 ^ 200 := Nat.lt_of_le_of_lt (by omega) hd
    refine ⟨_, pss_cons (ps_expr (pe_call GC hr (by rfl) M.ec.g M.ec.F.kp M.ec.b .nil pass0 (pa_cons (pv 0) (pa_cons (pv 1) pa_nil))))
      (pss_cons (ps_expr (pe_call GA hr4 (by rfl) M.ea.g M.ea.F.kp M.ea.b .nil pass0 (pa_cons (pv 2) (pa_cons (pv 3) pa_nil))))
      (pss_cons (ps_set (i := 4) scHowMany.nd rfl (.inl rfl) (pe_call GB hr2 (by rfl) M.eb.g M.eb.F.kp M.eb.b .nil pass0 (pa_cons (pv 0) (pa_cons (pv 1) (pa_cons (pe_call GT hr1 (by rfl) M.et.g M.et.F.kp M.et.b .nil pass0 (pa_cons (pv 3) (pa_cons (pe_ix ix_tup (pv 0) pe_int (fun _ _ => rfl)) pa_nil))) pa_nil)))))
      (pss_one (ps_ret (pe_op op_sub (pv 4) (pe_call GB hr2 (by rfl) M.eb.g M.eb.F.kp M.eb.b .nil pass0 (pa_cons (pv 0) (pa_cons (pv 1) (pa_cons (pe_call GT hr1 (by rfl) M.et.g M.et.F.kp M.et.b .nil pass0 (pa_cons (pv 2) (pa_cons (pe_ix ix_tup (pv 0) pe_int (fun _ _ => rfl)) pa_nil))) pa_nil))))))))), ?_⟩
    refine ⟨_, rfl, _, rfl, t, x, y, n, rfl, ⟨hT, st⟩, n1, n2, ?_⟩
    refine ⟨_, rfl, _, rfl, s, u, a, b, c, d, rfl, A.s, A.u, a0, ab, c0, cd, hb, hd, A.lt, ?_⟩
    refine ⟨_, rfl, _, rfl, _, rfl, _, rfl, t, _, 1, .int y, rfl, rfl, SqT.of hT, at_of (j := 1) rfl rfl, u, c, d, y, rfl, A.u.1, by omega, hc, hd, yb, ?_⟩
    refine ⟨t, x, y, n, ltop c d y, rfl, ⟨hT, st⟩, y1, by omega, by omega, ltop_0 (by omega) c0 (by omega), ltop_n (by omega) cd (by omega), fun H1 s1 => ?_⟩
    refine ⟨_, rfl, _, rfl, _, rfl, _, rfl, _, rfl, t, _, 1, .int y, rfl, rfl, SqT.of (s1 _ _ hT), at_of (j := 1) rfl rfl, s, a, b, y, rfl, s1 _ _ A.s.1, by omega, ha, hb, yb, ?_⟩
    refine ⟨t, x, y, n, ltop a b y, rfl, ⟨s1 _ _ hT, st⟩, y1, by omega, by omega, ltop_0 (by omega) a0 (by omega), ltop_n (by omega) ab (by omega), fun H2 s2 => ?_⟩
    exact ⟨_, _, rfl, rfl, q _ (s1.trans s2)⟩
theorem ok_within {f : Addr} {fd : FuncData} (F : Fun K "first_within" "first_within" sWithin f fd) (M : Cn K mg) : FnOk P w K mg base CX0 5 f fd ["step", "low", "high"] spWithin := by
  have GC : FnOk P w K mg base CX0 4 M.fc.1 M.fc.2 ["given"] (spIsSt .non) := ok_chStep M.dc.F M.c M.di M.dr M.ds
  have GA : FnOk P w K mg base CX0 4 M.ga.1 M.ga.2 ["low", "high"] spArc := ok_arc M.ea.F M.c M.di M.dr M.dp M.dl
  have GF : FnOk P w K mg base CX0 2 M.gf.1 M.gf.2 ["step", "least", "most"] spFFT := ok_fft M.ef.F M.eg M.rv
  have GT : FnOk P w K mg base CX0 1 M.gt.1 M.gt.2 ["fraction", "bottom"] spLeastTop := ok_leastTop M.et.F
  refine F.ok scWithin (fun vs H Q E h => ?_) (fun cdv A outer s0 H vs Q E hr h => ?_)
  · obtain ⟨t, s, u, x, y, a, b, c, d, rfl, _⟩ := h
    rfl
  · obtain ⟨t, s, u, x, y, a, b, c, d, rfl, ⟨hT, st⟩, y1, A, q⟩ := h
    have x0 := st.x0
    have xy := st.xy
    have hr2 : Room 2 _ := hr.mono (by decide)
    have hr1 : Room 1 _ := hr.mono (by decide)
    have b0 := A.s.2.1
    have d0 := A.u.2.1
    have a0 := A.a0; have ab := A.ab; have c0 := A.c0; have cd := A.cd
    have yb : y.natAbs < 2 ^ 200 := nb (n := 100) (by omega) y1 (by decide)
    have hb := w150 A.b1 (m := 200) (by decide)
    have hd := w150 A.d1 (m := 200) (by decide)
    have ha : a.natAbs < 2 ^ 200 := Nat.lt_of_le_of_lt (by omega) hb
    have hc : c.natAbs < 2 ^ 200 := Nat.lt_of_le_of_lt (by omega) hd
    refine ⟨_, pss_cons (ps_expr (pe_call GC hr (by rfl) M.dc.g M.dc.F.kp M.dc.b .nil pass0 (pa_cons (pv 0) pa_nil)))
      (pss_cons (ps_expr (pe_call GA hr (by rfl) M.ea.g M.ea.F.kp M.ea.b .nil pass0 (pa_cons (pv 1) (pa_cons (pv 2) pa_nil))))
      (pss_cons (ps_par (i := 3) (j := 4) (by rfl) scWithin.nd rfl rfl (by decide) rfl rfl (pa_cons (pe_call GT hr1 (by rfl) M.et.g M.et.F.kp M.et.b .nil pass0 (pa_cons (pv 1) (pa_cons (pe_ix ix_tup (pv 0) pe_int (fun _ _ => rfl)) pa_nil))) (pa_cons (pe_op op_sub (pe_call GT hr1 (by rfl) M.et.g M.et.F.kp M.et.b .nil pass0 (pa_cons (pv 2) (pa_cons (pe_ix ix_tup (pv 0) pe_int (fun _ _ => rfl)) pa_nil))) pe_int) pa_nil)) (by rfl))
      (pss_cons (ps_if (pt_cmpR op_gt (pv 3) (pv 4) (nomark _)) (pss_one (ps_ret pe_non)) pss_nil)
      (pss_one (ps_ret (pe_call GF hr2 (by rfl) M.ef.g M.ef.F.kp M.ef.b .nil pass0 (pa_cons (pv 0) (pa_cons (pv 3) (pa_cons (pv 4) pa_nil))))))))), ?_⟩
    refine ⟨_, rfl, t, x, y, rfl, ⟨hT, st⟩, ?_⟩
    refine ⟨_, rfl, _, rfl, s, u, a, b, c, d, rfl, A.s, A.u, a0, ab, c0, cd, hb, hd, A.lt, ?_⟩
    refine ⟨_, rfl, _, rfl, t, _, 1, .int y, rfl, rfl, SqT.of hT, at_of (j := 1) rfl rfl, s, a, b, y, rfl, A.s.1, by omega, ha, hb, yb, ?_⟩
    refine ⟨_, rfl, _, rfl, t, _, 1, .int y, rfl, rfl, SqT.of hT, at_of (j := 1) rfl rfl, u, c, d, y, rfl, A.u.1, by omega, hc, hd, yb, ?_⟩
    refine ⟨_, _, rfl, rfl, _, _, rfl, ?_⟩
    refine ⟨_, rfl, _, rfl, _, _, rfl, rfl, _, rfl, ?_⟩
    refine ite2 (fun hc' => ?_) (fun hc' => ?_)
    · have z : ltop c d y - 1 < ltop a b y := of_decide_eq_true hc'
      exact q _ _ (Same.refl _) (.inl ⟨by omega, rfl⟩)
    · have z : ¬ ltop c d y - 1 < ltop a b y := fun z => hc' (decide_eq_true z)
      have z1 := ltop_n (b := d) (n := y) (by omega) cd (by omega)
      have z2 := ltop_0 (n := y) (show 0 < b by omega) a0 (by omega)
      refine ⟨_, rfl, _, rfl, _, rfl, t, x, y, ltop a b y, ltop c d y - 1, rfl, ⟨hT, st⟩, y1, z2, by omega, by omega, fun m H' s' Fm => ?_⟩
      exact q _ _ s' (.inr ⟨by omega, m, rfl, Fm⟩)
theorem ok_under {f : Addr} {fd : FuncData} (F : Fun K "_law_under" "_law_under" sUnder f fd) : FnOk P w K mg base CX0 1 f fd ["_law_one", "_law_two"] spLess := by
  refine F.ok scUnder (fun vs H Q E h => ?_) (fun cdv A outer s H vs Q E hr h => ?_)
  · obtain ⟨s, t, a, b, c, d, rfl, _⟩ := h
    rfl
  · obtain ⟨s, t, a, b, c, d, rfl, hS, hT, ba, bb, bc, bd, q⟩ := h
    refine ⟨_, pss_one (ps_ret (pe_cmpR op_lt (pe_op op_mulW (pe_ix ix_tup (pv 0) pe_int (fun _ _ => rfl)) (pe_ix ix_tup (pv 1) pe_int (fun _ _ => rfl))) (pe_op op_mulW (pe_ix ix_tup (pv 1) pe_int (fun _ _ => rfl)) (pe_ix ix_tup (pv 0) pe_int (fun _ _ => rfl))) (nomark _))), ?_⟩
    exact ⟨_, rfl, s, _, 0, .int a, rfl, rfl, SqT.of hS, at_of (j := 0) rfl rfl, _, rfl, t, _, 1, .int d, rfl, rfl, SqT.of hT, at_of (j := 1) rfl rfl, _, _, rfl, rfl, wide_mul ba bd (by decide) (by decide) (by decide),
      _, rfl, t, _, 0, .int c, rfl, rfl, SqT.of hT, at_of (j := 0) rfl rfl, _, rfl, s, _, 1, .int b, rfl, rfl, SqT.of hS, at_of (j := 1) rfl rfl, _, _, rfl, rfl, wide_mul bc bb (by decide) (by decide) (by decide), _, _, rfl, rfl, q⟩
theorem ok_spot {f : Addr} {fd : FuncData} (F : Fun K "_law_spot" "_law_spot" sSpot f fd) (B : Bl mg) : FnOk P w K mg base CX0 1 f fd ["_law_x", "_law_k"] spSpot := by
  refine F.ok scSpot (fun vs H Q E h => ?_) (fun cdv A outer s H vs Q E hr h => ?_)
  · obtain ⟨t, x, y, k, rfl, _⟩ := h
    rfl
  · obtain ⟨t, x, y, k, rfl, hT, y0, xb, kb, q⟩ := h
    refine ⟨_, pss_one (ps_ret (pe_op op_modN (pe_callTy call_int1 (by rfl) B.int (by decide +kernel) (pa_cons (pe_op op_mulW (pv 1) (pe_ix ix_tup (pv 0) pe_int (fun _ _ => rfl))) pa_nil)) (pe_ix ix_tup (pv 0) pe_int (fun _ _ => rfl)))), ?_⟩
    exact ⟨_, rfl, _, rfl, t, _, 0, .int x, rfl, rfl, SqT.of hT, at_of (j := 0) rfl rfl, _, _, rfl, rfl, wide_mul kb xb (by decide) (by decide) (by decide), .inl ⟨_, rfl, _, rfl, t, _, 1, .int y, rfl, rfl, SqT.of hT, at_of (j := 1) rfl rfl, _, _, rfl, rfl, (show y ≠ 0 by omega), q⟩⟩
theorem ok_lies {f fU fK : Addr} {fd fdU fdK : FuncData} (F : Fun K "_law_lies_in" "_law_lies_in" sLies f fd) (B : Bl mg) (U : Df K mg "_law_under" sUnder ["_law_one", "_law_two"] fU fdU) (S : Df K mg "_law_spot" sSpot ["_law_x", "_law_k"] fK fdK) : FnOk P w K mg base CX0 2 f fd ["_law_x", "_law_k", "_law_low_here", "_law_high"] spLies := by
  have GU : FnOk P w K mg base CX0 1 fU fdU ["_law_one", "_law_two"] spLess := ok_under U.F
  have GS : FnOk P w K mg base CX0 1 fK fdK ["_law_x", "_law_k"] spSpot := ok_spot S.F B
  refine F.ok scLies (fun vs H Q E h => ?_) (fun cdv A outer s0 H vs Q E hr h => ?_)
  · obtain ⟨t, s, u, x, y, k, a, b, c, d, rfl, _⟩ := h
    rfl
  · obtain ⟨t, s, u, x, y, k, a, b, c, d, rfl, ⟨hT, st⟩, y1, kb, A, q⟩ := h
    have x0 := st.x0
    have xy := st.xy
    have y0 : 0 < y := by omega
    have b0 := A.s.2.1
    have d0 := A.u.2.1
    have a0 := A.a0; have ab := A.ab; have c0 := A.c0; have cd := A.cd
    have yb : y.natAbs < 2 ^ 200 := nb (n := 100) (by omega) y1 (by decide)
    have xb : x.natAbs < 2 ^ 200 := nb (n := 100) (by omega) (by omega) (by decide)
    have hb := w150 A.b1 (m := 200) (by decide)
    have hd := w150 A.d1 (m := 200) (by decide)
    have ha : a.natAbs < 2 ^ 200 := Nat.lt_of_le_of_lt (by omega) hb
    have hc : c.natAbs < 2 ^ 200 := Nat.lt_of_le_of_lt (by omega) hd
    refine ⟨_, pss_cons (ps_set (i := 4) scLies.nd rfl (.inl rfl) (pe_tup (pa_cons (pe_call GS hr (by rfl) S.g S.F.kp S.b .nil pass0 (pa_cons (pv 0) (pa_cons (pv 1) pa_nil))) (pa_cons (pe_ix ix_tup (pv 0) pe_int (fun _ _ => rfl)) pa_nil))))
      (pss_one (ps_ret (pe_and (pe_not (pe_call GU hr (by rfl) U.g U.F.kp U.b .nil pass0 (pa_cons (pv 4) (pa_cons (pv 2) pa_nil)))) (pe_one (pe_call GU hr (by rfl) U.g U.F.kp U.b .nil pass0 (pa_cons (pv 4) (pa_cons (pv 3) pa_nil))))))), ?_⟩
    refine ⟨_, rfl, _, rfl, t, x, y, k, rfl, hT, y0, xb, kb, _, rfl, t, _, 1, .int y, rfl, rfl, SqT.of hT, at_of (j := 1) rfl rfl, (by show 2 ≤ sizeLine; decide), fun p hp => ?_⟩
    have eg : (k * x).fmod y = x * k % y := by rw [fmod_at y0, Int.mul_comm]
    have g0 := fmod_ge (a := k * x) y0
    have g1 := fmod_lt (a := k * x) y0
    have gb : ((k * x).fmod y).natAbs < 2 ^ 200 := nb (n := 100) g0 (by omega) (by decide)
    have s1 := same_put (o := HO.tup [.int ((k * x).fmod y), .int y]) hp
    have q1 := q _ s1
    unfold inA at q1
    rw [← eg] at q1
    have e1 : decide (ltop a b y ≤ (k * x).fmod y) = !decide ((k * x).fmod y * b < a * y) := by
      rw [← decide_not, decide_eq_decide, ltop_le (by omega)]; omega
    have e2 : decide ((k * x).fmod y < ltop c d y) = decide ((k * x).fmod y * d < c * y) := by
      rw [decide_eq_decide]
      have := ltop_le (a := c) (n := y) (g := (k * x).fmod y) (show 0 < d by omega)
      omega
    rw [e1, e2] at q1
    refine ⟨_, rfl, _, rfl, p, s, _, y, a, b, rfl, upd_same, s1 _ _ A.s.1, gb, yb, ha, hb, _, rfl, _, rfl, ?_⟩
    refine ite2 (fun hh => ?_) (fun hh => ?_)
    · rw [hh, Bool.true_and] at q1
      exact ⟨_, rfl, _, rfl, p, u, _, y, c, d, rfl, upd_same, s1 _ _ A.u.1, gb, yb, hc, hd, q1⟩
    · rw [Bool.eq_false_iff.mpr hh, Bool.false_and] at q1
      exact q1
theorem ok_arcL {f fA fL : Addr} {fd fdA fdL : FuncData} {fS fP fG : Addr} {fdS fdP fdG : FuncData} (F : Fun K "_law_arc" "_law_arc" sArc f fd) (B : Bl mg) (S : Df K mg "_law_sip" sSip ["_law_tin_here", "_law_top"] fS fdS) (Pk : Df K mg "_law_pick" sPick ["_law_tin_here", "_law_menu"] fP fdP)
    (G : Df K mg "_law_gcd" sGcd ["_law_one", "_law_two"] fG fdG) (Fa : Df K mg "_law_far" sFar ["_law_tin_here", "_law_most"] fA fdA) (Lo : Df K mg "_law_low" sLow ["_law_top", "_law_bottom"] fL fdL) : FnOk P w K mg base CX0 4 f fd ["_law_tin_here", "_law_most"] spArcL := by
  have GA : FnOk P w K mg base CX0 3 fA fdA ["_law_tin_here", "_law_most"] spFar := ok_far Fa.F B S Pk
  have GL : FnOk P w K mg base CX0 2 fL fdL ["_law_top", "_law_bottom"] spLow := ok_low Lo.F B G
  refine F.ok scArc (fun vs H Q E h => ?_) (fun cdv A outer s H vs Q E hr h => ?_)
  · obtain ⟨t, n, rfl, _⟩ := h
    rfl
  · obtain ⟨t, n, rfl, T, n1, n2, q⟩ := h
    have hr2 : Room 2 _ := hr.mono (by decide)
    refine ⟨_, pss_cons (ps_set (i := 2) scArc.nd rfl (.inl rfl) (pe_op op_add pe_int (pe_call GA hr (by rfl) Fa.g Fa.F.kp Fa.b .nil pass0 (pa_cons (pv 0) (pa_cons (pv 1) pa_nil)))))
      (pss_cons (ps_set (i := 3) scArc.nd rfl (.inl rfl) (pe_op op_sub (pe_call GA hr (by rfl) Fa.g Fa.F.kp Fa.b .nil pass0 (pa_cons (pv 0) (pa_cons (pv 2) pa_nil))) pe_int))
      (pss_cons (ps_set (i := 4) scArc.nd rfl (.inl rfl) (pe_op op_add (pv 3) (pe_call GA hr (by rfl) Fa.g Fa.F.kp Fa.b .nil pass0 (pa_cons (pv 0) (pa_cons (pe_op op_sub (pv 2) (pv 3)) pa_nil)))))
      (pss_one (ps_ret (pe_lst (pa_cons (pe_call GL hr2 (by rfl) Lo.g Lo.F.kp Lo.b .nil pass0 (pa_cons (pv 3) (pa_cons (pv 2) pa_nil))) (pa_cons (pe_call GL hr2 (by rfl) Lo.g Lo.F.kp Lo.b .nil pass0 (pa_cons (pv 4) (pa_cons (pv 2) pa_nil))) pa_nil))))))), ?_⟩
    have nb1 : ∀ z : Int, 0 ≤ z → z ≤ n + 1 → z.natAbs < 2 ^ 100 := fun z h0 h1 => by omega
    refine ⟨_, rfl, _, rfl, t, n, rfl, T, n1, nb1 n (by omega) (by omega), fun e H1 e0 e1 s1 => ?_⟩
    refine ⟨_, _, rfl, rfl, ?_⟩
    refine ⟨_, rfl, _, rfl, t, 1 + e, rfl, s1.1, by omega, nb1 _ (by omega) (by omega), fun g H2 g0 g1 s2 => ?_⟩
    refine ⟨_, _, rfl, rfl, ?_⟩
    refine ⟨_, rfl, _, rfl, _, rfl, _, rfl, _, _, rfl, rfl, t, 1 + e - (g - 1), rfl, s2.1, by omega, nb1 _ (by omega) (by omega), fun h H3 h0 h1 s3 => ?_⟩
    refine ⟨_, _, rfl, rfl, ?_⟩
    have S3 := (s1.trans s2).trans s3
    refine ⟨_, rfl, _, rfl, g - 1, 1 + e, rfl, by omega, by omega, nb1 _ (by omega) (by omega), fun p1 hp1 => ?_⟩
    refine ⟨_, rfl, _, rfl, g - 1 + h, 1 + e, rfl, by omega, by omega, nb1 _ (by omega) (by omega), fun p2 hp2 => ?_⟩
    refine ⟨(by show 2 ≤ sizeLine; decide), fun l hl => ?_⟩
    obtain ⟨u1, u2, u3, u4, u5, u6, u7, u8⟩ := low_part (a := g - 1) (b := 1 + e) (by omega) (by omega) (by omega)
    obtain ⟨v1, v2, v3, v4, v5, v6, v7, v8⟩ := low_part (a := g - 1 + h) (b := 1 + e) (by omega) (by omega) (by omega)
    have cr := cross_low u6 u7 v6 v7 u8 v8 (show 0 < 1 + e by omega) (show g - 1 < g - 1 + h by omega)
    generalize ((Nat.gcd (g - 1).natAbs (1 + e).natAbs : Nat) : Int) = G1 at *
    generalize ((Nat.gcd (g - 1 + h).natAbs (1 + e).natAbs : Nat) : Int) = G2 at *
    have c1 := same_put (o := HO.tup [.int ((g - 1) / G1), .int ((1 + e) / G1)]) hp1
    have c2 := same_put (o := HO.tup [.int ((g - 1 + h) / G2), .int ((1 + e) / G2)]) hp2
    have c3 := same_put (o := HO.lst [.ref p1, .ref p2]) hl
    refine q ((g - 1) / G1) ((1 + e) / G1) ((g - 1 + h) / G2) ((1 + e) / G2) p1 p2 l _ ⟨⟨c3 _ _ (c2 _ _ upd_same), u1, u2⟩, ⟨c3 _ _ upd_same, v1, v2⟩, u3, u4, v3, v4, w100 (nb1 _ (by omega) (by omega)), w100 (nb1 _ (by omega) (by omega)), cr⟩ upd_same (S3.trans (Sipped.ofSame S3.1 ((c1.trans c2).trans c3)))
end
end My
set_option Elab.async false
set_option linter.all false
set_option maxRecDepth 100000
set_option maxHeartbeats 16000000
set_option exponentiation.threshold 2000
namespace My
open PySem PySem.Spec PyProof.Rows L2 Gn Mt
abbrev sRight : Stmt := top 38
theorem scRight : FnScope ["_law_tin_here", "_law_turn", "_law_x", "_law_many", "_law_low_here", "_law_high", "_law_k", "_law_here", "_law_first", "_law_parts_here"] ["_law_tin_here"] (defScope sRight) := ⟨rfl, rfl, rfl, by decide +kernel, rfl, by decide +kernel, by decide +kernel⟩
def spRight : Sp := fun vs H Q _ => ∃ (t : Addr), vs = [.ref t] ∧ Tin H t ∧ ∀ H', Sipped H H' t → Q (.bl true) H'
structure All (K : PySem.W.Frag) (mg : Str → Option Value) where
  cn : Cn K mg
  bl : Bl mg
  range : mg "range" = none
  rp : mg "repr" = none
  sm : mg "sum" = none
  fh : Addr × FuncData
  fw : Addr × FuncData
  gt : Addr × FuncData
  gs : Addr × FuncData
  gp : Addr × FuncData
  gf : Addr × FuncData
  gg : Addr × FuncData
  gl : Addr × FuncData
  gu : Addr × FuncData
  ge : Addr × FuncData
  gk : Addr × FuncData
  ga : Addr × FuncData
  gi : Addr × FuncData
  dh : Df K mg "how_many" sHowMany ["step", "count", "low", "high"] fh.1 fh.2
  hk : KBinds K fh.2 ["step", "count", "low", "high"] ["high", "low", "count", "step"] kwR kwR
  dw : Df K mg "first_within" sWithin ["step", "low", "high"] fw.1 fw.2
  wk : KBinds K fw.2 ["step", "low", "high"] ["high", "low", "step"] kwR kwR
  lt : Df K mg "_law_tin" sTin ["_law_script", "_law_turn"] gt.1 gt.2
  ls : Df K mg "_law_sip" sSip ["_law_tin_here", "_law_top"] gs.1 gs.2
  lp : Df K mg "_law_pick" sPick ["_law_tin_here", "_law_menu"] gp.1 gp.2
  lf : Df K mg "_law_far" sFar ["_law_tin_here", "_law_most"] gf.1 gf.2
  lg : Df K mg "_law_gcd" sGcd ["_law_one", "_law_two"] gg.1 gg.2
  ll : Df K mg "_law_low" sLow ["_law_top", "_law_bottom"] gl.1 gl.2
  lu : Df K mg "_law_under" sUnder ["_law_one", "_law_two"] gu.1 gu.2
  le : Df K mg "_law_step" sStep ["_law_tin_here", "_law_most"] ge.1 ge.2
  lk : Df K mg "_law_spot" sSpot ["_law_x", "_law_k"] gk.1 gk.2
  la : Df K mg "_law_arc" sArc ["_law_tin_here", "_law_most"] ga.1 ga.2
  li : Df K mg "_law_lies_in" sLies ["_law_x", "_law_k", "_law_low_here", "_law_high"] gi.1 gi.2
theorem sm_two {d : PyData} (s : Sm 1921 0 d) : Sm 8000 1 (.list [d, d]) := by
  have two := Sm.lst (n := 2) (ds := [d, d]) (fun e he => by
    have : e = d := by
      rcases List.mem_cons.mp he with rfl | he
      · rfl
      · exact List.mem_singleton.mp he
    rw [this]; exact s) (Nat.le_refl _)
  exact ⟨two.sh, Nat.le_trans two.ln (by decide), two.dp, two.cl⟩
theorem sm_non : Sm 1921 0 .none := ⟨rfl, by decide +kernel, by decide +kernel, rfl⟩
theorem n1000 {z : Int} (h : z.natAbs < 2 ^ 200) : z.natAbs < 2 ^ 1000 := Nat.lt_of_lt_of_le h (Nat.pow_le_pow_right (by decide) (by decide))
/-- the first of the marks of a round, as data -/
theorem first_d {x y A C : Int} {v : V} (y0 : 0 < y) (y1 : y < 2 ^ 100) (n : Nat) (hn : (n : Int) = y) (h : (C ≤ A ∧ v = .non) ∨ (A < C ∧ ∃ m, v = .int m ∧ Fst x y A (C - 1) m)) :
    (((iota n).filter (inA x y A C)).map V.int ++ [V.non])[0]? = some v ∧ ∃ d : PyData, Sm 1921 0 d ∧ ∀ (K : PySem.W.Frag) (H : Hp), Dp K H v d := by
  rcases h with ⟨h, rfl⟩ | ⟨h, m, rfl, F⟩
  · refine ⟨by rw [arc_nil h]; rfl, .none, sm_non, fun K H => .non⟩
  · have lt := fst_lt y0 F
    have e := arc_head (n := n) F (by omega)
    refine ⟨?_, .int m, Sm.int (n1000 (nb (n := 100) lt.1 (by omega) (by decide))), fun K H => .int m⟩
    rw [List.getElem?_append_left]
    · rw [List.getElem?_map, e]; rfl
    · rw [List.length_map]
      obtain ⟨h1, _⟩ := List.getElem?_eq_some_iff.mp e
      exact h1
/-- one turn of the list of marks in an arc -/
theorem comp_turn {H0 H1 H2 : Hp} {D : Addr} {x y A C : Int} {j : Nat} {σ : L2.St} (hσ : (σ.set 6 (some (.int (j : Int))))[6]? = some (some (.int (j : Int)))) (hD : H0 D = none) (hj : j ≤ 900) (g1 : H1 D = some (.lst (((iota j).filter (inA x y A C)).map V.int))) (g2 : Same H0 H1) (s : Same H1 H2) :
    if inA x y A C (j : Int) = true then tVar 6 (σ.set 6 (some (.int (j : Int)))) H2 (fun y' H4 => ∃ acc, H4 D = some (.lst acc) ∧ acc.length < sizeLine ∧ ((upd H4 D (.lst (acc ++ [y']))) D = some (.lst (((iota (j + 1)).filter (inA x y A C)).map V.int)) ∧ Same H0 (upd H4 D (.lst (acc ++ [y']))))) else H2 D = some (.lst (((iota (j + 1)).filter (inA x y A C)).map V.int)) ∧ Same H0 H2 := by
  refine ite2 (fun hc => ?_) (fun hc => ?_)
  · refine ⟨_, hσ, _, s _ _ g1, ?_, ?_, fun b o e => ?_⟩
    · rw [List.length_map]
      have := List.length_filter_le (inA x y A C) (iota j)
      rw [iota_len] at this
      exact small1000 (by omega)
    · rw [upd_same, iota_succ, List.filter_append, List.map_append, List.filter_cons_of_pos hc]; rfl
    · rw [upd_ne (ne_of_none e hD)]
      exact s _ _ (g2 _ _ e)
  · refine ⟨?_, g2.trans s⟩
    rw [iota_succ, List.filter_append, List.filter_cons_of_neg hc, List.filter_nil, List.append_nil]
    exact s _ _ g1
section
variable {P : Program} {w : World} {K : PySem.W.Frag} {mg : Str → Option Value} {base : Heap}
theorem ok_right {f : Addr} {fd : FuncData} (F : Fun K "_law_right" "_law_right" sRight f fd) (M : All K mg) : FnG P w K mg base CX0 7 f fd ["_law_tin_here"] spRight := by
  have GH : FnOk P w K mg base CX0 6 M.fh.1 M.fh.2 ["step", "count", "low", "high"] spHowMany := ok_howMany M.dh.F M.cn
  have GW : FnOk P w K mg base CX0 5 M.fw.1 M.fw.2 ["step", "low", "high"] spWithin := ok_within M.dw.F M.cn
  have LS : FnOk P w K mg base CX0 1 M.gs.1 M.gs.2 ["_law_tin_here", "_law_top"] spSip := ok_sip M.ls.F M.bl
  have LF : FnOk P w K mg base CX0 3 M.gf.1 M.gf.2 ["_law_tin_here", "_law_most"] spFar := ok_far M.lf.F M.bl M.ls M.lp
  have LE : FnOk P w K mg base CX0 4 M.ge.1 M.ge.2 ["_law_tin_here", "_law_most"] spStep := ok_step M.le.F M.bl M.ls M.lp M.lg M.lf M.ll
  have LA : FnOk P w K mg base CX0 4 M.ga.1 M.ga.2 ["_law_tin_here", "_law_most"] spArcL := ok_arcL M.la.F M.bl M.ls M.lp M.lg M.lf M.ll
  have LI : FnOk P w K mg base CX0 2 M.gi.1 M.gi.2 ["_law_x", "_law_k", "_law_low_here", "_law_high"] spLies := ok_lies M.li.F M.bl M.lu M.lk
  refine funG0 F scRight (fun vs H Q E h => ?_) (fun cdv A outer s H vs Q E hg hr h => ?_)
  · obtain ⟨t, rfl, _⟩ := h
    rfl
  · obtain ⟨t, rfl, T0, q⟩ := h
    have hr1 : Room 1 _ := hr.mono (by decide)
    have hr2 : Room 2 _ := hr.mono (by decide)
    have hr3 : Room 3 _ := hr.mono (by decide)
    have hr4 : Room 4 _ := hr.mono (by decide)
    have hr5 : Room 5 _ := hr.mono (by decide)
    have hu := hr.units
    refine ⟨_, pss_cons (ps_for PassesOwn.never rfl (pi_range1 rfl M.range (pa_cons pe_int pa_nil)) (pg_name (i := 1) scRight.nd rfl (.inl rfl))
      -- x, many
      (pss_cons (ps_asg (pe_tup (pa_cons (pe_call LE hr4 (by rfl) M.le.g M.le.F.kp M.le.b .nil pass0 (pa_cons (pv 0) (pa_cons pe_int pa_nil))) (pa_cons (pe_op op_add pe_int (pe_call LS hr1 (by rfl) M.ls.g M.ls.F.kp M.ls.b .nil pass0 (pa_cons (pv 0) (pa_cons pe_int pa_nil)))) pa_nil)))
        (pg_tup (by rfl) (pgs_cons (pg_name (i := 2) scRight.nd rfl (.inr rfl)) (pgs_cons (pg_name (i := 3) scRight.nd rfl (.inl rfl)) pgs_nil))))
      -- low, high
      (pss_cons (ps_asg (pe_call LA hr4 (by rfl) M.la.g M.la.F.kp M.la.b .nil pass0 (pa_cons (pv 0) (pa_cons pe_int pa_nil))) (pg_lst (by rfl) (pgs_cons (pg_name (i := 4) scRight.nd rfl (.inr rfl)) (pgs_cons (pg_name (i := 5) scRight.nd rfl (.inr rfl)) pgs_nil))))
      -- here
      (pss_cons (ps_setLc (i := 7) (te := tVar 6) (own := [("_law_k", 6)]) (g := gName 6) rfl scRight.nd rfl rfl (sw_true rfl rfl rfl (by decide +kernel)) (pi_range1 rfl M.range (pa_cons (pv 3) pa_nil))
          (blkOk_by (N := ["_law_tin_here", "_law_turn", "_law_x", "_law_many", "_law_low_here", "_law_high", "_law_k", "_law_here", "_law_first", "_law_parts_here"]) (sc := defScope sRight) (by decide +kernel)) (fun _ _ _ _ _ => pg_name (i := 6) scRight.nd rfl (.inl rfl))
          (fun _ _ _ _ _ => pts_one (pt_val (pe_call LI hr2 (by rfl) M.li.g M.li.F.kp M.li.b .nil pass0 (pa_cons (pv 2) (pa_cons (pv 6) (pa_cons (pv 4) (pa_cons (pv 5) pa_nil)))))))
          (fun _ _ _ _ _ => pv 6))
      (pss_cons (ps_if (pt_cmpR op_ne (pe_callB (cr_repr hg hu) (by rfl) M.rp (by decide +kernel) (pa_cons (pe_lst (pa_cons (pe_call GH hr (by rfl) M.dh.g M.dh.F.kp M.dh.b .nil pass0 (pa_cons (pv 2) (pa_cons (pv 3) (pa_cons (pv 4) (pa_cons (pv 5) pa_nil)))))
            (pa_cons (pe_callK0 GH hr (by rfl) M.dh.g M.dh.F.kp M.hk pass0 (pk_cons (pv 5) (pk_cons (pv 4) (pk_cons (pv 3) (pk_cons (pv 2) pk_nil))))) pa_nil))) pa_nil))
          (pe_callB (cr_repr hg hu) (by rfl) M.rp (by decide +kernel) (pa_cons (pe_op op_rep (pe_lst (pa_cons (pe_callB call_len_seq (by rfl) M.bl.len PySem.boot_len (pa_cons (pv 7) pa_nil)) pa_nil)) pe_int) pa_nil)) (nomark _)) (pss_one (ps_ret pe_bl)) pss_nil)
      -- first
      (pss_cons (ps_set (i := 8) scRight.nd rfl (.inl rfl) (pe_op op_cat (pe_lc (te := tVar 6) (own := [("_law_k", 6)]) (g := gName 6) rfl scRight.nd (pi_range1 rfl M.range (pa_cons (pe_ix ix_tup (pv 2) pe_int (fun _ _ => rfl)) pa_nil))
          (blkOk_by (N := ["_law_tin_here", "_law_turn", "_law_x", "_law_many", "_law_low_here", "_law_high", "_law_k", "_law_here", "_law_first", "_law_parts_here"]) (sc := defScope sRight) (by decide +kernel)) (fun _ _ _ _ _ => pg_name (i := 6) scRight.nd rfl (.inl rfl))
          (fun _ _ _ _ _ => pts_one (pt_val (pe_call LI hr2 (by rfl) M.li.g M.li.F.kp M.li.b .nil pass0 (pa_cons (pv 2) (pa_cons (pv 6) (pa_cons (pv 4) (pa_cons (pv 5) pa_nil)))))))
          (fun _ _ _ _ _ => pv 6)) (pe_lst (pa_cons pe_non pa_nil))))
      (pss_cons (ps_if (pt_cmpR op_ne (pe_callB (cr_repr hg hu) (by rfl) M.rp (by decide +kernel) (pa_cons (pe_lst (pa_cons (pe_call GW hr5 (by rfl) M.dw.g M.dw.F.kp M.dw.b .nil pass0 (pa_cons (pv 2) (pa_cons (pv 4) (pa_cons (pv 5) pa_nil))))
            (pa_cons (pe_callK0 GW hr5 (by rfl) M.dw.g M.dw.F.kp M.wk pass0 (pk_cons (pv 5) (pk_cons (pv 4) (pk_cons (pv 2) pk_nil)))) pa_nil))) pa_nil))
          (pe_callB (cr_repr hg hu) (by rfl) M.rp (by decide +kernel) (pa_cons (pe_op op_rep (pe_lst (pa_cons (pe_ix ix_list (pv 8) pe_int (fun _ _ => rfl)) pa_nil)) pe_int) pa_nil)) (nomark _)) (pss_one (ps_ret pe_bl)) pss_nil)
      -- great ones
      (pss_cons (ps_asg (pe_tup (pa_cons (pe_call LE hr4 (by rfl) M.le.g M.le.F.kp M.le.b .nil pass0 (pa_cons (pv 0) (pa_cons (pe_op op_pow pe_int pe_int) pa_nil))) (pa_cons (pe_call LF hr3 (by rfl) M.lf.g M.lf.F.kp M.lf.b .nil pass0 (pa_cons (pv 0) (pa_cons (pe_op op_pow pe_int pe_int) pa_nil))) pa_nil)))
        (pg_tup (by rfl) (pgs_cons (pg_name (i := 2) scRight.nd rfl (.inr rfl)) (pgs_cons (pg_name (i := 3) scRight.nd rfl (.inl rfl)) pgs_nil))))
      (pss_cons (ps_asg (pe_call LA hr4 (by rfl) M.la.g M.la.F.kp M.la.b .nil pass0 (pa_cons (pv 0) (pa_cons (pe_op op_pow pe_int pe_int) pa_nil))) (pg_lst (by rfl) (pgs_cons (pg_name (i := 4) scRight.nd rfl (.inr rfl)) (pgs_cons (pg_name (i := 5) scRight.nd rfl (.inr rfl)) pgs_nil))))
      (pss_cons (ps_set (i := 9) scRight.nd rfl (.inl rfl) (pe_lst (pa_cons (pe_call GH hr (by rfl) M.dh.g M.dh.F.kp M.dh.b .nil pass0 (pa_cons (pv 2) (pa_cons (pv 3) (pa_cons (pv 4) (pa_cons (pv 5) pa_nil))))) pa_nil)))
      (pss_cons (ps_set (i := 9) scRight.nd rfl (.inl rfl) (pe_ifExp (pt_cmpR (op_neD hu) (pv 4) (pe_tup (pa_cons pe_int (pa_cons pe_int pa_nil))) (nomark _))
          (pe_op op_cat (pv 9) (pe_lst (pa_cons (pe_call GH hr (by rfl) M.dh.g M.dh.F.kp M.dh.b .nil pass0 (pa_cons (pv 2) (pa_cons (pv 3) (pa_cons (pe_tup (pa_cons pe_int (pa_cons pe_int pa_nil))) (pa_cons (pv 4) pa_nil))))) pa_nil))) (pv 9)))
      (pss_cons (ps_set (i := 9) scRight.nd rfl (.inl rfl) (pe_ifExp (pt_cmpR (op_neD hu) (pv 5) (pe_tup (pa_cons pe_int (pa_cons pe_int pa_nil))) (nomark _))
          (pe_op op_cat (pv 9) (pe_lst (pa_cons (pe_call GH hr (by rfl) M.dh.g M.dh.F.kp M.dh.b .nil pass0 (pa_cons (pv 2) (pa_cons (pv 3) (pa_cons (pv 5) (pa_cons (pe_tup (pa_cons pe_int (pa_cons pe_int pa_nil))) pa_nil))))) pa_nil))) (pv 9)))
      (pss_cons (ps_if (pt_cmpR op_ne (pe_callB (cr_sum rfl) (by rfl) M.sm (by decide +kernel) (pa_cons (pv 9) pa_nil)) (pv 3) (nomark _)) (pss_one (ps_ret pe_bl)) pss_nil)
      (pss_cons (ps_set (i := 6) scRight.nd rfl (.inl rfl) (pe_call GW hr5 (by rfl) M.dw.g M.dw.F.kp M.dw.b .nil pass0 (pa_cons (pv 2) (pa_cons (pv 4) (pa_cons (pv 5) pa_nil)))))
      (pss_cons (ps_if (pt_cmpR op_ne (pe_cmpR op_isN (pv 6) pe_non (nomark _)) (pe_cmpR op_eq (pe_call GH hr (by rfl) M.dh.g M.dh.F.kp M.dh.b .nil pass0 (pa_cons (pv 2) (pa_cons (pe_ix ix_tup (pv 2) pe_int (fun _ _ => rfl)) (pa_cons (pv 4) (pa_cons (pv 5) pa_nil))))) pe_int (nomark _)) (nomark _)) (pss_one (ps_ret pe_bl)) pss_nil)
      (pss_one (ps_if (PW.pt (pw_and (pt_cmpR op_notN (pv 6) pe_non (nomark _)) (pw_and1 (PW.pt (pw_or (pt_not (pt_val (pe_call LI hr2 (by rfl) M.li.g M.li.F.kp M.li.b .nil pass0 (pa_cons (pv 2) (pa_cons (pv 6) (pa_cons (pv 4) (pa_cons (pv 5) pa_nil)))))))
          (pw_or1 (PW.pt (pw_and (pt_cmpR op_gt (pv 6) pe_int (nomark _)) (pw_and1 (pt_cmpR op_ne (pe_call GH hr (by rfl) M.dh.g M.dh.F.kp M.dh.b .nil pass0 (pa_cons (pv 2) (pa_cons (pv 6) (pa_cons (pv 4) (pa_cons (pv 5) pa_nil))))) pe_int (nomark _))))))))))) (pss_one (ps_ret pe_bl)) pss_nil)))))))))))))))))
      (pss_one (ps_ret pe_bl)), ?_⟩
    refine ⟨4, rfl, by decide, by decide, for_range (lo := 0) (n := 4) (fun i σ H' => ∃ a b c d e f g h k, σ = [some (.ref t), a, b, c, d, e, f, g, h, k] ∧ Sipped H H' t) ⟨none, none, none, none, none, none, none, none, none, rfl, T0, fun _ _ e _ => e⟩ ?_ ?_⟩
    · rintro i σ H1 _ ⟨w1, w2, w3, w4, w5, w6, w7, w8, w9, rfl, S1⟩
      -- x, many
      refine ⟨_, rfl, t, 50, rfl, S1.1, by decide, by decide, fun x y p H2 st le S2 hp h2 => ?_⟩
      have x0 := st.x0
      have xy := st.xy
      have y0 : 0 < y := by omega
      have y1 : y < 2 ^ 100 := by omega
      have hpt : p ≠ t := S1.1.not hp
      refine ⟨_, rfl, t, 120, rfl, S2.1, by decide, by decide, fun d0 H3 d1 d2 S3 => ?_⟩
      refine ⟨_, _, rfl, rfl, (by show 2 ≤ sizeLine; decide), fun tp htp => ?_⟩
      have a1 := same_put (o := HO.tup [.ref p, .int (1 + d0)]) htp
      refine ⟨tp, _, rfl, SqT.of upd_same, rfl, _, _, rfl, _, _, rfl, rfl, ?_⟩
      -- low, high
      have S3' := Sipped.ofSame S3.1 a1
      refine ⟨_, rfl, t, 30, rfl, S3'.1, by decide, by decide, fun a b c d s u pl H4 A4 hl S4 => ?_⟩
      refine ⟨pl, _, rfl, SqL.of hl, rfl, _, _, rfl, _, _, rfl, rfl, ?_⟩
      have SA : Sipped H H4 t := (((S1.trans S2).trans S3).trans S3').trans S4
      have h4 : H4 p = some (.tup [.int x, .int y]) := S4.2 _ _ (a1 _ _ (S3.2 _ _ h2 hpt)) hpt
      have N1 : 1 ≤ 1 + d0 := by omega
      have N2 : 1 + d0 ≤ 120 := by omega
      have b0 := A4.s.2.1
      have e0 := A4.u.2.1
      have AC : ltop a b y ≤ ltop c d y := ltop_mono (by omega) (by omega) (by omega) (Int.le_of_lt A4.lt)
      -- here
      refine ⟨_, rfl, (1 + d0), rfl, by omega, by omega, fun D hD => ?_⟩
      have a2 := same_put (o := HO.lst []) hD
      refine lc_range (lo := 0) (n := (1 + d0).toNat) (fun j H' => H' D = some (.lst (((iota j).filter (inA x y (ltop a b y) (ltop c d y))).map V.int)) ∧ Same H4 H') ⟨upd_same, a2⟩ ?_ ?_
      · rintro j H5 hj ⟨g1, g2⟩
        rw [Int.zero_add]
        refine ⟨rfl, _, rfl, _, rfl, _, rfl, _, rfl, p, s, u, x, y, (j : Int), a, b, c, d, rfl, ⟨g2 _ _ h4, st⟩, y1, by omega, A4.same g2, fun H6 s6 => ⟨_, rfl, ?_⟩⟩
        exact comp_turn rfl hD (by omega) g1 g2 s6
      rintro H5 ⟨g1, g2⟩
      have h5 := g2 _ _ h4
      have A5 := A4.same g2
      -- repr of how many
      refine ⟨_, rfl, _, rfl, _, rfl, _, rfl, p, s, u, x, y, (1 + d0), a, b, c, d, rfl, ⟨h5, st⟩, y1, by omega, by omega, A5, fun H6 s6 => ?_⟩
      refine ⟨_, rfl, _, rfl, _, rfl, _, rfl, p, s, u, x, y, (1 + d0), a, b, c, d, rfl, ⟨s6 _ _ h5, st⟩, y1, by omega, by omega, A5.same s6, fun H7 s7 => ?_⟩
      have eW := below_arc (x := x) (y := y) AC (1 + d0).toNat
      have fl := List.length_filter_le (inA x y (ltop a b y) (ltop c d y)) (iota (1 + d0).toNat)
      rw [iota_len] at fl
      have eL : (((((iota (1 + d0).toNat).filter (inA x y (ltop a b y) (ltop c d y))).map V.int).length : Nat) : Int) = below x y (ltop c d y) (1 + d0).toNat - below x y (ltop a b y) (1 + d0).toNat := by rw [List.length_map, eW]
      generalize below x y (ltop c d y) (1 + d0).toNat - below x y (ltop a b y) (1 + d0).toNat = W at *
      have smW := sm_two (Sm.int (n1000 (nb (z := W) (n := 100) (m := 200) (by omega) (by omega) (by decide))))
      refine ⟨(by show 2 ≤ sizeLine; decide), fun l1 hl1 => ?_⟩
      have s8 := same_put (o := HO.lst [.int W, .int W]) hl1
      refine ⟨l1, .list [.int W, .int W], rfl, .lst (SqL.of upd_same) (.cons (.int W) (.cons (.int W) .nil)), smW.sh, Nat.lt_of_le_of_lt smW.dp (by decide), Nat.le_trans smW.ln (by decide), ?_⟩
      refine ⟨_, rfl, D, _, rfl, .inl (SqL.of (s8 _ _ (s7 _ _ (s6 _ _ g1)))), ?_⟩
      rw [eL]
      refine ⟨(by show 1 ≤ sizeLine; decide), fun l2 hl2 => ?_⟩
      have s9 := same_put (o := HO.lst [.int W]) hl2
      refine ⟨l2, 2, [.int W], rfl, rfl, upd_same, by decide, by decide, (by show 1 * 2 ≤ sizeLine; decide), fun l3 hl3 => ?_⟩
      have s10 := same_put (o := HO.lst (List.replicate (2 : Int).toNat [.int W]).flatten) hl3
      refine ⟨l3, .list [.int W, .int W], rfl, .lst (SqL.of upd_same) (.cons (.int W) (.cons (.int W) .nil)), smW.sh, Nat.lt_of_le_of_lt smW.dp (by decide), Nat.le_trans smW.ln (by decide), ?_⟩
      refine ⟨rfl, _, rfl, iteNS rfl ?_⟩
      have sB := (((s6.trans s7).trans s8).trans s9).trans s10
      have SB : Sipped H _ t := SA.trans (Sipped.ofSame SA.1 (g2.trans sB))
      have hB := sB _ _ h5
      have AB := A5.same sB
      generalize upd (upd (upd H7 l1 _) l2 _) l3 _ = H8 at SB hB AB ⊢
      clear s10 s9 s8 sB
      -- first
      refine ⟨_, rfl, p, _, 1, .int y, rfl, rfl, SqT.of hB, at_of (j := 1) rfl rfl, y, rfl, by omega, by omega, fun D2 hD2 => ?_⟩
      have a3 := same_put (o := HO.lst []) hD2
      refine lc_range (lo := 0) (n := y.toNat) (fun j H' => H' D2 = some (.lst (((iota j).filter (inA x y (ltop a b y) (ltop c d y))).map V.int)) ∧ Same H8 H') ⟨upd_same, a3⟩ ?_ ?_
      · rintro j H9 hj ⟨g3, g4⟩
        rw [Int.zero_add]
        refine ⟨rfl, _, rfl, _, rfl, _, rfl, _, rfl, p, s, u, x, y, (j : Int), a, b, c, d, rfl, ⟨g4 _ _ hB, st⟩, y1, by omega, AB.same g4, fun H10 s11 => ⟨_, rfl, ?_⟩⟩
        exact comp_turn rfl hD2 (by omega) g3 g4 s11
      rintro H9 ⟨g3, g4⟩
      have fl2 := List.length_filter_le (inA x y (ltop a b y) (ltop c d y)) (iota y.toNat)
      rw [iota_len] at fl2
      refine ⟨(by show 1 ≤ sizeLine; decide), fun l4 hl4 => ?_⟩
      have s12 := same_put (o := HO.lst [.non]) hl4
      refine ⟨D2, l4, _, _, rfl, rfl, s12 _ _ g3, upd_same, ?_, fun p8 hp8 => ?_⟩
      · rw [List.length_map]
        exact Nat.le_of_lt (small1000 (show _ + 1 ≤ 1000 by omega))
      have s13 := same_put (o := HO.lst (((iota y.toNat).filter (inA x y (ltop a b y) (ltop c d y))).map V.int ++ [.non])) hp8
      have sC := g4.trans (s12.trans s13)
      have SC : Sipped H _ t := SB.trans (Sipped.ofSame SB.1 sC)
      have hC := sC _ _ hB
      have AC' := AB.same sC
      have hP8 : upd (upd H9 l4 (.lst [.non])) p8 (.lst (((iota y.toNat).filter (inA x y (ltop a b y) (ltop c d y))).map V.int ++ [.non])) p8 = some (.lst (((iota y.toNat).filter (inA x y (ltop a b y) (ltop c d y))).map V.int ++ [.non])) := upd_same
      generalize upd (upd H9 l4 (.lst [.non])) p8 _ = H10 at SC hC AC' hP8 ⊢
      clear s12 s13 sC
      -- repr of the first one
      refine ⟨_, rfl, _, rfl, _, rfl, p, s, u, x, y, a, b, c, d, rfl, ⟨hC, st⟩, y1, AC', fun v1 H11 s14 z1 => ?_⟩
      refine ⟨_, rfl, _, rfl, _, rfl, p, s, u, x, y, a, b, c, d, rfl, ⟨s14 _ _ hC, st⟩, y1, AC'.same s14, fun v2 H12 s15 z2 => ?_⟩
      obtain ⟨k1, dv, smv, dpv⟩ := first_d y0 y1 y.toNat (by omega) z1
      obtain ⟨k2, _, _, _⟩ := first_d y0 y1 y.toNat (by omega) z2
      obtain rfl : v1 = v2 := Option.some.inj (k1.symm.trans k2)
      have sm2 := sm_two smv
      refine ⟨(by show 2 ≤ sizeLine; decide), fun l5 hl5 => ?_⟩
      have s16 := same_put (o := HO.lst [v1, v1]) hl5
      refine ⟨l5, .list [dv, dv], rfl, .lst (SqL.of upd_same) (.cons (dpv _ _) (.cons (dpv _ _) .nil)), sm2.sh, Nat.lt_of_le_of_lt sm2.dp (by decide), Nat.le_trans sm2.ln (by decide), ?_⟩
      refine ⟨_, rfl, p8, _, 0, v1, rfl, rfl, SqL.of (s16 _ _ (s15 _ _ (s14 _ _ hP8))), at_of (j := 0) rfl k1, ?_⟩
      refine ⟨(by show 1 ≤ sizeLine; decide), fun l6 hl6 => ?_⟩
      have s17 := same_put (o := HO.lst [v1]) hl6
      refine ⟨l6, 2, [v1], rfl, rfl, upd_same, by decide, by decide, (by show 1 * 2 ≤ sizeLine; decide), fun l7 hl7 => ?_⟩
      have s18 := same_put (o := HO.lst (List.replicate (2 : Int).toNat [v1]).flatten) hl7
      refine ⟨l7, .list [dv, dv], rfl, .lst (SqL.of upd_same) (.cons (dpv _ _) (.cons (dpv _ _) .nil)), sm2.sh, Nat.lt_of_le_of_lt sm2.dp (by decide), Nat.le_trans sm2.ln (by decide), ?_⟩
      refine ⟨rfl, _, rfl, iteNS rfl ?_⟩
      have SD : Sipped H _ t := SC.trans (Sipped.ofSame SC.1 ((((s14.trans s15).trans s16).trans s17).trans s18))
      generalize upd (upd (upd H12 l5 _) l6 _) l7 _ = H13 at SD ⊢
      clear s16 s17 s18
      -- great ones
      refine ⟨_, rfl, _, _, rfl, rfl, ⟨by decide, by decide, by decide⟩, t, 10 ^ 30, rfl, SD.1, by decide, by decide, fun X Y P2 H14 ST LE2 S5 hP2 h14 => ?_⟩
      have X0 := ST.x0
      have XY := ST.xy
      have Y0 : 0 < Y := by omega
      have Y1 : Y < 2 ^ 100 := Int.lt_of_le_of_lt LE2 (by decide)
      have hPt : P2 ≠ t := SD.1.not hP2
      refine ⟨_, rfl, _, _, rfl, rfl, ⟨by decide, by decide, by decide⟩, t, 10 ^ 30, rfl, S5.1, by decide, by decide, fun N H15 N1 N2 S6 => ?_⟩
      refine ⟨(by show 2 ≤ sizeLine; decide), fun tq htq => ?_⟩
      have a4 := same_put (o := HO.tup [.ref P2, .int N]) htq
      refine ⟨tq, _, rfl, SqT.of upd_same, rfl, _, _, rfl, _, _, rfl, rfl, ?_⟩
      have S6' := Sipped.ofSame S6.1 a4
      refine ⟨_, rfl, _, _, rfl, rfl, ⟨by decide, by decide, by decide⟩, t, 10 ^ 20, rfl, S6'.1, by decide, by decide, fun a b c d s u pl H16 A6 hl S7 => ?_⟩
      refine ⟨pl, _, rfl, SqL.of hl, rfl, _, _, rfl, _, _, rfl, rfl, ?_⟩
      have SE : Sipped H H16 t := (((SD.trans S5).trans S6).trans S6').trans S7
      have h16 : H16 P2 = some (.tup [.int X, .int Y]) := S7.2 _ _ (a4 _ _ (S6.2 _ _ h14 hPt)) hPt
      clear S1 S2 S3 S4 S5 S6 S7 SA SB SC SD
      have b0 := A6.s.2.1
      have e0 := A6.u.2.1
      have A0 := A6.a0
      have AC : ltop a b Y ≤ ltop c d Y := ltop_mono (by omega) (by omega) (by omega) (Int.le_of_lt A6.lt)
      have N30 : N ≤ 10 ^ 30 := N2
      -- parts
      refine ⟨_, rfl, _, rfl, _, rfl, _, rfl, P2, s, u, X, Y, N, a, b, c, d, rfl, ⟨h16, ST⟩, Y1, N1, N30, A6, fun H17 t1 => ?_⟩
      refine ⟨(by show 1 ≤ sizeLine; decide), fun m1 hm1 => ?_⟩
      have t2 := same_put (o := HO.lst [.int (below X Y (ltop c d Y) N.toNat - below X Y (ltop a b Y) N.toNat)]) hm1
      have t12 := t1.trans t2
      have hM1 : upd H17 m1 (.lst [.int (below X Y (ltop c d Y) N.toNat - below X Y (ltop a b Y) N.toNat)]) m1 = some (.lst [.int (below X Y (ltop c d Y) N.toNat - below X Y (ltop a b Y) N.toNat)]) := upd_same
      generalize upd H17 m1 _ = H18 at t12 hM1 ⊢
      have h18 := t12 _ _ h16
      have A18 := A6.same t12
      have hba : a.natAbs < 2 ^ 1000 ∧ b.natAbs < 2 ^ 1000 := ⟨n1000 (Nat.lt_of_le_of_lt (show a.natAbs ≤ b.natAbs by have := A6.ab; omega) (w150 A6.b1 (by decide))), n1000 (w150 A6.b1 (by decide))⟩
      have hbc : c.natAbs < 2 ^ 1000 ∧ d.natAbs < 2 ^ 1000 := ⟨n1000 (Nat.lt_of_le_of_lt (show c.natAbs ≤ d.natAbs by have := A6.c0; have := A6.cd; omega) (w150 A6.d1 (by decide))), n1000 (w150 A6.d1 (by decide))⟩
      have smp : ∀ {u v : Int}, u.natAbs < 2 ^ 1000 → v.natAbs < 2 ^ 1000 → SeqAt.shaped (.tuple [.int u, .int v]) = true := fun {u v} h1 h2 => (Sm.ints (n := 2) (ns := [u, v]) (fun i hi => by
        rcases List.mem_cons.mp hi with rfl | hi
        · exact h1
        · obtain rfl := List.mem_singleton.mp hi
          exact h2) (Nat.le_refl _)).shaped (by decide)
      have z01 : ltop 0 1 Y = 0 := by unfold ltop; simp
      have z11 : ltop 1 1 Y = Y := by unfold ltop; simp
      dsimp only [gName, tSeq, tAsg]
      refine tIf_same (fun v H' => Same H18 H' ∧ ∃ (pa : Addr) (ws : List Int), v = V.ref pa ∧ H' pa = some (.lst (ws.map V.int)) ∧ ws.sum = below X Y (ltop c d Y) N.toNat ∧ ws.length ≤ 2) (!decide (a = 0 ∧ b = 1)) (fun R z => ?_) (fun hc H' t3 R z => ?_) (fun hc H' t3 R z => ?_) (fun v1 H19 ⟨t4, pa, ws, ev, hpa, sm1, ln1⟩ => ?_)
      · refine ⟨_, rfl, (by show 2 ≤ sizeLine; decide), fun q1 hq1 => ?_⟩
        have t5 := same_put (o := HO.tup [.int 0, .int 1]) hq1
        refine ⟨.tuple [.int a, .int b], .tuple [.int 0, .int 1], .tup (SqT.of (t5 _ _ A18.s.1)) (dp_ints [a, b]), .tup (SqT.of upd_same) (dp_ints [0, 1]), smp hba.1 hba.2, smp (by decide) (by decide), _, rfl, ?_⟩
        rw [pair_eqv]
        exact z _ t5
      · have hne : ¬ (a = 0 ∧ b = 1) := fun h => by rw [decide_eq_true h] at hc; cases hc
        have ap : 0 < a := by
          rcases Int.lt_or_eq_of_le A0 with h | h
          · exact h
          · have g := A6.s.2.2
            rw [← h, Int.natAbs_zero, Nat.gcd_zero_left] at g
            exact absurd ⟨h.symm, by omega⟩ hne
        refine ⟨_, rfl, _, rfl, _, rfl, (by show 2 ≤ sizeLine; decide), fun q2 hq2 => ?_⟩
        have t5 := same_put (o := HO.tup [.int 0, .int 1]) hq2
        refine ⟨_, rfl, P2, q2, s, X, Y, N, 0, 1, a, b, rfl, ⟨t5 _ _ (t3 _ _ h18), ST⟩, Y1, N1, N30, ⟨⟨upd_same, by decide, by decide⟩, ⟨t5 _ _ (t3 _ _ A18.s.1), A18.s.2⟩, by decide, by decide, A0, A6.ab, by decide, A6.b1, by omega⟩, fun H19 t6 => ?_⟩
        refine ⟨(by show 1 ≤ sizeLine; decide), fun m2 hm2 => ?_⟩
        have t7 := same_put (o := HO.lst [.int (below X Y (ltop a b Y) N.toNat - below X Y (ltop 0 1 Y) N.toNat)]) hm2
        refine ⟨m1, m2, _, _, rfl, rfl, t7 _ _ (t6 _ _ (t5 _ _ (t3 _ _ hM1))), upd_same, (by show 1 + 1 ≤ sizeLine; decide), fun m3 hm3 => ?_⟩
        have t8 := same_put (o := HO.lst ([.int (below X Y (ltop c d Y) N.toNat - below X Y (ltop a b Y) N.toNat)] ++ [.int (below X Y (ltop a b Y) N.toNat - below X Y (ltop 0 1 Y) N.toNat)])) hm3
        refine z _ _ ⟨(((t3.trans t5).trans t6).trans t7).trans t8, m3, [below X Y (ltop c d Y) N.toNat - below X Y (ltop a b Y) N.toNat, below X Y (ltop a b Y) N.toNat - below X Y (ltop 0 1 Y) N.toNat], rfl, upd_same, ?_, Nat.le_refl _⟩
        rw [z01, below_none Y0 (Int.le_refl 0)]
        simp only [List.sum_cons, List.sum_nil]
        omega
      · have he : a = 0 ∧ b = 1 := by simpa using hc
        refine ⟨_, rfl, z _ _ ⟨t3, m1, [below X Y (ltop c d Y) N.toNat - below X Y (ltop a b Y) N.toNat], rfl, t3 _ _ hM1, ?_, (by show 1 ≤ 2; decide)⟩⟩
        rw [he.1, he.2, z01, below_none Y0 (Int.le_refl 0)]
        simp only [List.sum_cons, List.sum_nil]
        omega
      subst ev
      have h19 := t4 _ _ h18
      have A19 := A18.same t4
      refine tIf_same (fun v H' => Same H19 H' ∧ ∃ (pa : Addr) (ws : List Int), v = V.ref pa ∧ H' pa = some (.lst (ws.map V.int)) ∧ ws.sum = N) (!decide (c = 1 ∧ d = 1)) (fun R z => ?_) (fun hc H' t3 R z => ?_) (fun hc H' t3 R z => ?_) (fun v2 H20 ⟨t9, pb, ws2, ev2, hpb, sm2'⟩ => ?_)
      · refine ⟨_, rfl, (by show 2 ≤ sizeLine; decide), fun q1 hq1 => ?_⟩
        have t5 := same_put (o := HO.tup [.int 1, .int 1]) hq1
        refine ⟨.tuple [.int c, .int d], .tuple [.int 1, .int 1], .tup (SqT.of (t5 _ _ A19.u.1)) (dp_ints [c, d]), .tup (SqT.of upd_same) (dp_ints [1, 1]), smp hbc.1 hbc.2, smp (by decide) (by decide), _, rfl, ?_⟩
        rw [pair_eqv]
        exact z _ t5
      · have hne : ¬ (c = 1 ∧ d = 1) := fun h => by rw [decide_eq_true h] at hc; cases hc
        have cl : c < d := by
          rcases Int.lt_or_eq_of_le A6.cd with h | h
          · exact h
          · have g := A6.u.2.2
            rw [h, Nat.gcd_self] at g
            exact absurd ⟨by omega, by omega⟩ hne
        refine ⟨_, rfl, _, rfl, _, rfl, _, rfl, (by show 2 ≤ sizeLine; decide), fun q2 hq2 => ?_⟩
        have t5 := same_put (o := HO.tup [.int 1, .int 1]) hq2
        refine ⟨P2, u, q2, X, Y, N, c, d, 1, 1, rfl, ⟨t5 _ _ (t3 _ _ h19), ST⟩, Y1, N1, N30, ⟨⟨t5 _ _ (t3 _ _ A19.u.1), A19.u.2⟩, ⟨upd_same, by decide, by decide⟩, A6.c0, A6.cd, by decide, by decide, A6.d1, by decide, by omega⟩, fun H20 t6 => ?_⟩
        refine ⟨(by show 1 ≤ sizeLine; decide), fun m2 hm2 => ?_⟩
        have t7 := same_put (o := HO.lst [.int (below X Y (ltop 1 1 Y) N.toNat - below X Y (ltop c d Y) N.toNat)]) hm2
        refine ⟨pa, m2, _, _, rfl, rfl, t7 _ _ (t6 _ _ (t5 _ _ (t3 _ _ hpa))), upd_same, ?_, fun m3 hm3 => ?_⟩
        · rw [List.length_map]
          exact Nat.le_of_lt (small1000 (show ws.length + 1 ≤ 1000 by omega))
        have t8 := same_put (o := HO.lst (ws.map V.int ++ [.int (below X Y (ltop 1 1 Y) N.toNat - below X Y (ltop c d Y) N.toNat)])) hm3
        refine z _ _ ⟨(((t3.trans t5).trans t6).trans t7).trans t8, m3, ws ++ [below X Y (ltop 1 1 Y) N.toNat - below X Y (ltop c d Y) N.toNat], rfl, by rw [upd_same, List.map_append]; rfl, ?_⟩
        rw [List.sum_append, sm1, z11, below_all Y0 (Int.le_refl _)]
        simp only [List.sum_cons, List.sum_nil]
        omega
      · have he : c = 1 ∧ d = 1 := by simpa using hc
        refine ⟨_, rfl, z _ _ ⟨t3, pa, ws, rfl, t3 _ _ hpa, ?_⟩⟩
        rw [sm1, he.1, he.2, z11, below_all Y0 (Int.le_refl _)]
        omega
      subst ev2
      have h20 := t9 _ _ h19
      have A20 := A19.same t9
      -- sum(parts) != many
      refine ⟨_, rfl, pb, ws2, rfl, SqL.of hpb, _, rfl, rfl, _, rfl, iteNS (by rw [sm2']) ?_⟩
      -- the first one within
      refine ⟨_, rfl, _, rfl, _, rfl, P2, s, u, X, Y, a, b, c, d, rfl, ⟨h20, ST⟩, Y1, A20, fun v H21 t10 zv => ?_⟩
      have h21 := t10 _ _ h20
      have A21 := A20.same t10
      have YY : ((Y.toNat : Nat) : Int) = Y := Int.toNat_of_nonneg (by omega)
      refine ⟨_, rfl, rfl, _, rfl, _, rfl, P2, _, 1, .int Y, rfl, rfl, SqT.of h21, at_of (j := 1) rfl rfl, _, rfl, _, rfl, P2, s, u, X, Y, Y, a, b, c, d, rfl, ⟨h21, ST⟩, Y1, by omega, LE2, A21, fun H22 t11 => ?_⟩
      have h22 := t11 _ _ h21
      have A22 := A21.same t11
      have SF : Sipped H H22 t := SE.trans (Sipped.ofSame SE.1 ((((t12.trans t4).trans t9).trans t10).trans t11))
      rcases zv with ⟨hz, rfl⟩ | ⟨hz, m, rfl, Fm⟩
      · have e0 : below X Y (ltop c d Y) Y.toNat - below X Y (ltop a b Y) Y.toNat = 0 := by
          rw [show ltop c d Y = ltop a b Y by omega]; omega
        refine ⟨rfl, rfl, _, rfl, iteNS (by rw [e0]; rfl) ?_⟩
        refine ⟨_, rfl, rfl, _, rfl, iteF (iteF ?_)⟩
        exact ⟨_, _, _, _, _, _, _, _, _, rfl, SF⟩
      · have fl := fst_lt Y0 Fm
        obtain ⟨⟨f1, f2, f3⟩, least⟩ := Fm
        have e0 := arc_pos (x := X) (y := Y) AC (n := Y.toNat) fl.1 (by omega) ⟨f2, by omega⟩
        refine ⟨rfl, rfl, _, rfl, iteNS (by
          rw [decide_eq_false (show ¬ V.int m = V.non from fun z => by cases z), decide_eq_false (fun z => e0 (V.int.inj z))]) ?_⟩
        refine ⟨_, rfl, rfl, _, rfl, iteT ?_⟩
        have hin : inA X Y (ltop a b Y) (ltop c d Y) m = true := inA_iff.mpr ⟨f2, by omega⟩
        refine ⟨_, rfl, _, rfl, _, rfl, _, rfl, P2, s, u, X, Y, m, a, b, c, d, rfl, ⟨h22, ST⟩, Y1, nb (n := 100) (by omega) (by omega) (by decide), A22, fun H23 t13 => ?_⟩
        rw [hin]
        have h23 := t13 _ _ h22
        have A23 := A22.same t13
        have SG := SF.trans (Sipped.ofSame SF.1 t13)
        refine ⟨true, rfl, iteF ⟨_, rfl, _, _, rfl, rfl, _, rfl, ?_⟩⟩
        refine ite2 (fun hc => ?_) (fun hc => iteF ⟨_, _, _, _, _, _, _, _, _, rfl, SG⟩)
        have mp : 0 < m := of_decide_eq_true hc
        refine ⟨_, rfl, _, rfl, _, rfl, _, rfl, P2, s, u, X, Y, m, a, b, c, d, rfl, ⟨h23, ST⟩, Y1, by omega, by omega, A23, fun H24 t14 => ?_⟩
        have ez := arc_zero (x := X) (y := Y) AC (n := m.toNat) fun k k0 k1 hk => by
          have := least k ⟨k0, hk.1, by omega⟩
          omega
        refine ⟨rfl, _, rfl, ?_⟩
        rw [ez]
        exact iteF ⟨_, _, _, _, _, _, _, _, _, rfl, SG.trans (Sipped.ofSame SG.1 t14)⟩
    · rintro σ H1 ⟨a, b, c, d, e, f, g, h, k, rfl, S1⟩
      exact q _ S1
end
end My
set_option Elab.async false
set_option linter.all false
set_option maxRecDepth 100000
set_option maxHeartbeats 8000000
set_option exponentiation.threshold 2000
namespace My
open PySem PySem.Spec PyProof.Rows L2 Gn Mt
abbrev sLaw : Stmt := top 39
theorem scLaw : FnScope ["_law_script", "_law_turn"] ["_law_script"] (defScope sLaw) := ⟨rfl, rfl, rfl, by decide +kernel, rfl, by decide +kernel, by decide +kernel⟩
def spLaw (K : PySem.W.Frag) : Sp := fun vs H Q _ => ∃ (a : Addr) (ns : List Int), vs = [.ref a] ∧ SqL K H a (ns.map V.int) ∧ ns.length ≤ 63 ∧ ∀ H', Q (.bl true) H'
structure Bw (mg : Str → Option Value) : Prop where
  all : mg "all" = none
  max : mg "max" = none
  min : mg "min" = none
theorem st38 : IsStep 3 8 := ⟨by decide, by decide, by decide⟩
theorem st13 : IsStep 1 3 := ⟨by decide, by decide, by decide⟩
theorem arc_new {H : Hp} {s u : Addr} {a b c d : Int} (hs : H s = some (.tup [.int a, .int b])) (hu : H u = some (.tup [.int c, .int d])) (h : (1 ≤ b ∧ Nat.gcd a.natAbs b.natAbs = 1) ∧ (1 ≤ d ∧ Nat.gcd c.natAbs d.natAbs = 1) ∧ 0 ≤ a ∧ a ≤ b ∧ 0 ≤ c ∧ c ≤ d ∧ b.natAbs < 2 ^ 150 ∧ d.natAbs < 2 ^ 150 ∧ a * d < c * b) : ArcAt H s u a b c d := by
  obtain ⟨h1, h2, h3, h4, h5, h6, h7, h8, h9⟩ := h
  exact ⟨⟨hs, h1⟩, ⟨hu, h2⟩, h3, h4, h5, h6, h7, h8, h9⟩
section
variable {P : Program} {w : World} {K : PySem.W.Frag} {mg : Str → Option Value} {base : Heap}
theorem ok_law {f fR : Addr} {fd fdR : FuncData} (F : Fun K "law" "law" sLaw f fd) (M : All K mg) (W : Bw mg) (R : Df K mg "_law_right" sRight ["_law_tin_here"] fR fdR) : FnG P w K mg base CX0 8 f fd ["_law_script"] (spLaw K) := by
  have GH : FnOk P w K mg base CX0 6 M.fh.1 M.fh.2 ["step", "count", "low", "high"] spHowMany := ok_howMany M.dh.F M.cn
  have GW : FnOk P w K mg base CX0 5 M.fw.1 M.fw.2 ["step", "low", "high"] spWithin := ok_within M.dw.F M.cn
  have LT : FnOk P w K mg base CX0 1 M.gt.1 M.gt.2 ["_law_script", "_law_turn"] (spTin K) := ok_tin M.lt.F M.bl
  have GR : FnG P w K mg base CX0 7 fR fdR ["_law_tin_here"] spRight := ok_right R.F M
  refine funG0 F scLaw (fun vs H Q E h => ?_) (fun cdv A outer s0 H vs Q E hg hr h => ?_)
  · obtain ⟨a, ns, rfl, _⟩ := h
    rfl
  · obtain ⟨a, ns, rfl, hS, hlen, q⟩ := h
    have hr1 : Room 1 _ := hr.mono (by decide)
    have hr5 : Room 5 _ := hr.mono (by decide)
    have hr6 : Room 6 _ := hr.mono (by decide)
    have hu := hr.units
    refine ⟨_, pss_cons (ps_if (pt_cmpR (op_neD hu)
        (pe_lst (pa_cons (pe_call GH hr6 (by rfl) M.dh.g M.dh.F.kp M.dh.b .nil pass0 (pa_cons (pe_tup (pa_cons pe_int (pa_cons pe_int pa_nil))) (pa_cons pe_int (pa_cons (pe_tup (pa_cons pe_int (pa_cons pe_int pa_nil))) (pa_cons (pe_tup (pa_cons pe_int (pa_cons pe_int pa_nil))) pa_nil)))))
          (pa_cons (pe_call GW hr5 (by rfl) M.dw.g M.dw.F.kp M.dw.b .nil pass0 (pa_cons (pe_tup (pa_cons pe_int (pa_cons pe_int pa_nil))) (pa_cons (pe_tup (pa_cons pe_int (pa_cons pe_int pa_nil))) (pa_cons (pe_tup (pa_cons pe_int (pa_cons pe_int pa_nil))) pa_nil))))
          (pa_cons (pe_call GW hr5 (by rfl) M.dw.g M.dw.F.kp M.dw.b .nil pass0 (pa_cons (pe_tup (pa_cons pe_int (pa_cons pe_int pa_nil))) (pa_cons (pe_tup (pa_cons pe_int (pa_cons pe_int pa_nil))) (pa_cons (pe_tup (pa_cons pe_int (pa_cons pe_int pa_nil))) pa_nil)))) pa_nil))))
        (pe_lst (pa_cons pe_int (pa_cons pe_int (pa_cons pe_non pa_nil)))) (nomark _)) (pss_one (ps_ret pe_bl)) pss_nil)
      (pss_one (ps_ret (pe_callB (cr_all rfl) (by rfl) W.all (by decide +kernel) (pa_cons
        (pe_lc (te := tCall spRight [] E0 (tCons (tCall (spTin K) [] E0 (tCons (tVar 0) (tCons (tVar 1) tNil))) tNil)) (own := [("_law_turn", 1)]) (g := gName 1) (tt := tYes) rfl scLaw.nd
          (pi_range1 rfl M.range (pa_cons (pe_callB (call_max2 rfl) (by rfl) W.max (by decide +kernel) (pa_cons pe_int (pa_cons (pe_callB (call_min2 rfl) (by rfl) W.min (by decide +kernel) (pa_cons (pe_callB call_len_seq (by rfl) M.bl.len PySem.boot_len (pa_cons (pv 0) pa_nil)) (pa_cons pe_int pa_nil))) pa_nil))) pa_nil))
          (blkOk_by (N := ["_law_script", "_law_turn"]) (sc := defScope sLaw) (by decide +kernel)) (fun _ _ _ _ _ => pg_name (i := 1) scLaw.nd rfl (.inl rfl)) (fun _ _ _ _ _ => pts_nil)
          (fun _ _ _ _ _ => pe_callG GR hg hr (by rfl) R.g R.F.kp R.b .nil pass0 (pa_cons (pe_call LT hr1 (by rfl) M.lt.g M.lt.F.kp M.lt.b .nil pass0 (pa_cons (pv 0) (pa_cons (pv 1) pa_nil))) pa_nil))) pa_nil)))), ?_⟩
    -- how_many((3, 8), 4, (1, 8), (1, 2))
    refine ⟨(by show 2 ≤ sizeLine; decide), fun t1 ht1 => ⟨(by show 2 ≤ sizeLine; decide), fun t2 ht2 => ⟨(by show 2 ≤ sizeLine; decide), fun t3 ht3 => ?_⟩⟩⟩
    have a1 := same_put (o := HO.tup [.int 3, .int 8]) ht1
    have a2 := same_put (o := HO.tup [.int 1, .int 8]) ht2
    have a3 := same_put (o := HO.tup [.int 1, .int 2]) ht3
    refine ⟨t1, t2, t3, 3, 8, 4, 1, 8, 1, 2, rfl, ⟨a3 _ _ (a2 _ _ upd_same), st38⟩, by decide, by decide, by decide, arc_new (a3 _ _ upd_same) upd_same (by decide), fun H4 a4 => ?_⟩
    rw [show below 3 8 (ltop 1 2 8) (4 : Int).toNat - below 3 8 (ltop 1 8 8) (4 : Int).toNat = 2 by decide]
    -- first_within((3, 8), (1, 2), (3, 4))
    refine ⟨(by show 2 ≤ sizeLine; decide), fun t5 ht5 => ⟨(by show 2 ≤ sizeLine; decide), fun t6 ht6 => ⟨(by show 2 ≤ sizeLine; decide), fun t7 ht7 => ?_⟩⟩⟩
    have a5 := same_put (o := HO.tup [.int 3, .int 8]) ht5
    have a6 := same_put (o := HO.tup [.int 1, .int 2]) ht6
    have a7 := same_put (o := HO.tup [.int 3, .int 4]) ht7
    refine ⟨t5, t6, t7, 3, 8, 1, 2, 3, 4, rfl, ⟨a7 _ _ (a6 _ _ upd_same), st38⟩, by decide, arc_new (a7 _ _ upd_same) upd_same (by decide), fun v1 H8 a8 z1 => ?_⟩
    obtain rfl : v1 = .int 4 := by
      rcases z1 with ⟨h, _⟩ | ⟨_, m, rfl, ⟨m0, h1, h2⟩, least⟩
      · exact absurd h (by decide)
      · have le := least 4 ⟨by decide, by decide, by decide⟩
        have : m = 0 ∨ m = 1 ∨ m = 2 ∨ m = 3 ∨ m = 4 := by omega
        rcases this with rfl | rfl | rfl | rfl | rfl
        · exact absurd h1 (by decide)
        · exact absurd h1 (by decide)
        · exact absurd h2 (by decide)
        · exact absurd h1 (by decide)
        · rfl
    -- first_within((1, 3), (1, 2), (3, 5))
    refine ⟨(by show 2 ≤ sizeLine; decide), fun t8 ht8 => ⟨(by show 2 ≤ sizeLine; decide), fun t9 ht9 => ⟨(by show 2 ≤ sizeLine; decide), fun t10 ht10 => ?_⟩⟩⟩
    have a9 := same_put (o := HO.tup [.int 1, .int 3]) ht8
    have a10 := same_put (o := HO.tup [.int 1, .int 2]) ht9
    have a11 := same_put (o := HO.tup [.int 3, .int 5]) ht10
    refine ⟨t8, t9, t10, 1, 3, 1, 2, 3, 5, rfl, ⟨a11 _ _ (a10 _ _ upd_same), st13⟩, by decide, arc_new (a11 _ _ upd_same) upd_same (by decide), fun v2 H12 a12 z2 => ?_⟩
    obtain rfl : v2 = .non := by
      rcases z2 with ⟨_, h⟩ | ⟨h, _⟩
      · exact h
      · exact absurd h (by decide)
    refine ⟨(by show 3 ≤ sizeLine; decide), fun l1 hl1 => ⟨(by show 3 ≤ sizeLine; decide), fun l2 hl2 => ?_⟩⟩
    have a13 := same_put (o := HO.lst [.int 2, .int 4, .non]) hl1
    have a14 := same_put (o := HO.lst [.int 2, .int 4, .non]) hl2
    refine ⟨.list [.int 2, .int 4, .none], .list [.int 2, .int 4, .none], .lst (SqL.of (a14 _ _ upd_same)) (.cons (.int 2) (.cons (.int 4) (.cons .non .nil))), .lst (SqL.of upd_same) (.cons (.int 2) (.cons (.int 4) (.cons .non .nil))), by decide +kernel, by decide +kernel, _, rfl, ?_⟩
    rw [SeqAt.eqv_refl _ (by decide +kernel)]
    refine iteF ?_
    have aZ := (((((((((((((a1.trans a2).trans a3).trans a4).trans a5).trans a6).trans a7).trans a8).trans a9).trans a10).trans a11).trans a12).trans a13).trans a14)
    have hS2 := aZ.seq hS
    refine ⟨_, rfl, a, _, rfl, .inl hS2, _, _, rfl, _, _, rfl, ?_⟩
    have hN : ∀ L : Int, 0 ≤ (if (if (5 : Int) < L then 5 else L) > 2 then (if (5 : Int) < L then 5 else L) else 2) ∧ (if (if (5 : Int) < L then 5 else L) > 2 then (if (5 : Int) < L then 5 else L) else 2) ≤ 5 := fun L => by
      split <;> split <;> omega
    have hN' := hN (((ns.map V.int).length : Nat) : Int)
    generalize (if (if (5 : Int) < (((ns.map V.int).length : Nat) : Int) then 5 else (((ns.map V.int).length : Nat) : Int)) > 2 then (if (5 : Int) < (((ns.map V.int).length : Nat) : Int) then 5 else (((ns.map V.int).length : Nat) : Int)) else 2) = N at hN' ⊢
    refine ⟨N, rfl, by omega, by omega, fun D hD => ?_⟩
    have s0 := same_put (o := HO.lst []) hD
    refine lc_range (lo := 0) (n := N.toNat) (fun i H2 => H2 D = some (.lst ((List.replicate i true).map V.bl)) ∧ Same _ H2) ⟨upd_same, s0⟩ ?_ ?_
    · rintro i H2 hi ⟨g1, g2⟩
      rw [Int.zero_add]
      refine ⟨rfl, _, rfl, _, rfl, a, ns, _, rfl, g2.seq hS2, by omega, by omega, fun p H3 s3 hp T => ⟨p, rfl, T, fun H4 s4 => ?_⟩⟩
      have nDp : D ≠ p := ne_of_none g1 hp
      refine ⟨_, s4.2 _ _ (s3 _ _ g1) nDp, ?_, ?_, fun b z e => ?_⟩
      · rw [List.length_map, List.length_replicate]
        exact small1000 (by omega)
      · rw [upd_same, List.replicate_succ', List.map_append]; rfl
      · rw [upd_ne (ne_of_none e hD)]
        have z2 := g2 _ _ e
        exact s4.2 _ _ (s3 _ _ z2) (ne_of_none z2 hp)
    · rintro H2 ⟨g1, g2⟩
      refine ⟨D, List.replicate N.toNat true, rfl, SqL.of g1, ?_⟩
      have e : (List.replicate N.toNat true).all id = true := by
        rw [List.all_eq_true]
        intro b hb
        exact (List.mem_replicate.mp hb).2
      rw [e]
      exact q _
end
end My
set_option Elab.async false
set_option linter.all false
set_option maxRecDepth 100000
set_option maxHeartbeats 8000000
namespace My
open PySem PySem.Spec PyProof.Rows L2 Gn Mt
theorem all_mk {l : PySem.W.OpenLaw} {w : World} {K : PySem.W.Frag} {h : Heap} {mg : Str → Option Value} {fa : Addr} (X : K.In h) (G : h.Ns mainGlobals mg) (hfa : mg "law" = some (.ref fa))
    {f0 : Addr} {od0 an0 : Option Addr} {sl0 : Array (Option Value)} {oc0 kV0 dc0 pm0 cd0 ct0 : Value} {f1 : Addr} {od1 an1 : Option Addr} {sl1 : Array (Option Value)} {oc1 kV1 dc1 pm1 cd1 ct1 : Value} {f2 : Addr} {od2 an2 : Option Addr} {sl2 : Array (Option Value)} {oc2 kV2 dc2 pm2 cd2 ct2 : Value} {f3 : Addr} {od3 an3 : Option Addr} {sl3 : Array (Option Value)} {oc3 kV3 dc3 pm3 cd3 ct3 : Value} {f4 : Addr} {od4 an4 : Option Addr} {sl4 : Array (Option Value)} {oc4 kV4 dc4 pm4 cd4 ct4 : Value} {f5 : Addr} {od5 an5 : Option Addr} {sl5 : Array (Option Value)} {oc5 kV5 dc5 pm5 cd5 ct5 : Value} {f6 : Addr} {od6 an6 : Option Addr} {sl6 : Array (Option Value)} {oc6 kV6 dc6 pm6 cd6 ct6 : Value} {f7 : Addr} {od7 an7 : Option Addr} {sl7 : Array (Option Value)} {oc7 kV7 dc7 pm7 cd7 ct7 : Value} {f8 : Addr} {od8 an8 : Option Addr} {sl8 : Array (Option Value)} {oc8 kV8 dc8 pm8 cd8 ct8 : Value} {f9 : Addr} {od9 an9 : Option Addr} {sl9 : Array (Option Value)} {oc9 kV9 dc9 pm9 cd9 ct9 : Value} {f10 : Addr} {od10 an10 : Option Addr} {sl10 : Array (Option Value)} {oc10 kV10 dc10 pm10 cd10 ct10 : Value} {f11 : Addr} {od11 an11 : Option Addr} {sl11 : Array (Option Value)} {oc11 kV11 dc11 pm11 cd11 ct11 : Value} {f12 : Addr} {od12 an12 : Option Addr} {sl12 : Array (Option Value)} {oc12 kV12 dc12 pm12 cd12 ct12 : Value} {f13 : Addr} {od13 an13 : Option Addr} {sl13 : Array (Option Value)} {oc13 kV13 dc13 pm13 cd13 ct13 : Value} {f14 : Addr} {od14 an14 : Option Addr} {sl14 : Array (Option Value)} {oc14 kV14 dc14 pm14 cd14 ct14 : Value} {f15 : Addr} {od15 an15 : Option Addr} {sl15 : Array (Option Value)} {oc15 kV15 dc15 pm15 cd15 ct15 : Value} {f16 : Addr} {od16 an16 : Option Addr} {sl16 : Array (Option Value)} {oc16 kV16 dc16 pm16 cd16 ct16 : Value} {f17 : Addr} {od17 an17 : Option Addr} {sl17 : Array (Option Value)} {oc17 kV17 dc17 pm17 cd17 ct17 : Value} {f18 : Addr} {od18 an18 : Option Addr} {sl18 : Array (Option Value)} {oc18 kV18 dc18 pm18 cd18 ct18 : Value} {f19 : Addr} {od19 an19 : Option Addr} {sl19 : Array (Option Value)} {oc19 kV19 dc19 pm19 cd19 ct19 : Value} {f20 : Addr} {od20 an20 : Option Addr} {sl20 : Array (Option Value)} {oc20 kV20 dc20 pm20 cd20 ct20 : Value} {f21 : Addr} {od21 an21 : Option Addr} {sl21 : Array (Option Value)} {oc21 kV21 dc21 pm21 cd21 ct21 : Value} {f22 : Addr} {od22 an22 : Option Addr} {sl22 : Array (Option Value)} {oc22 kV22 dc22 pm22 cd22 ct22 : Value} {f23 : Addr} {od23 an23 : Option Addr} {sl23 : Array (Option Value)} {oc23 kV23 dc23 pm23 cd23 ct23 : Value} {f24 : Addr} {od24 an24 : Option Addr} {sl24 : Array (Option Value)} {oc24 kV24 dc24 pm24 cd24 ct24 : Value} {f25 : Addr} {od25 an25 : Option Addr} {sl25 : Array (Option Value)} {oc25 kV25 dc25 pm25 cd25 ct25 : Value} {f26 : Addr} {od26 an26 : Option Addr} {sl26 : Array (Option Value)} {oc26 kV26 dc26 pm26 cd26 ct26 : Value} {f27 : Addr} {od27 an27 : Option Addr} {sl27 : Array (Option Value)} {oc27 kV27 dc27 pm27 cd27 ct27 : Value} {f28 : Addr} {od28 an28 : Option Addr} {sl28 : Array (Option Value)} {oc28 kV28 dc28 pm28 cd28 ct28 : Value} {f29 : Addr} {od29 an29 : Option Addr} {sl29 : Array (Option Value)} {oc29 kV29 dc29 pm29 cd29 ct29 : Value} {tk1 : Tok}
    (a0 : PySem.W.nsIn K mainGlobals "is_integer" = some (some (.ref f0))) (l0 : K.lookup f0 = some ⟨oc0, od0, .func (PySem.W.fnOf "is_integer" "is_integer" (defArgs sIsInt) (defBody sIsInt) (defScope sIsInt) .none kV0 dc0 pm0 an0 cd0 ct0), sl0⟩) (c0 : PySem.W.codeIn K cd0 "is_integer" = true) (k0 : PySem.W.keepIn K (.ref f0) = true)
    (a1 : PySem.W.nsIn K mainGlobals "is_fraction" = some (some (.ref f1))) (l1 : K.lookup f1 = some ⟨oc1, od1, .func (PySem.W.fnOf "is_fraction" "is_fraction" (defArgs sIsFr) (defBody sIsFr) (defScope sIsFr) .none kV1 dc1 pm1 an1 cd1 ct1), sl1⟩) (c1 : PySem.W.codeIn K cd1 "is_fraction" = true) (k1 : PySem.W.keepIn K (.ref f1) = true)
    (a2 : PySem.W.nsIn K mainGlobals "is_step" = some (some (.ref f2))) (l2 : K.lookup f2 = some ⟨oc2, od2, .func (PySem.W.fnOf "is_step" "is_step" (defArgs sIsStep) (defBody sIsStep) (defScope sIsStep) .none kV2 dc2 pm2 an2 cd2 ct2), sl2⟩) (c2 : PySem.W.codeIn K cd2 "is_step" = true) (k2 : PySem.W.keepIn K (.ref f2) = true)
    (a3 : PySem.W.nsIn K mainGlobals "is_part" = some (some (.ref f3))) (l3 : K.lookup f3 = some ⟨oc3, od3, .func (PySem.W.fnOf "is_part" "is_part" (defArgs sIsPart) (defBody sIsPart) (defScope sIsPart) .none kV3 dc3 pm3 an3 cd3 ct3), sl3⟩) (c3 : PySem.W.codeIn K cd3 "is_part" = true) (k3 : PySem.W.keepIn K (.ref f3) = true)
    (a4 : PySem.W.nsIn K mainGlobals "is_less" = some (some (.ref f4))) (l4 : K.lookup f4 = some ⟨oc4, od4, .func (PySem.W.fnOf "is_less" "is_less" (defArgs sIsLess) (defBody sIsLess) (defScope sIsLess) .none kV4 dc4 pm4 an4 cd4 ct4), sl4⟩) (c4 : PySem.W.codeIn K cd4 "is_less" = true) (k4 : PySem.W.keepIn K (.ref f4) = true)
    (a5 : PySem.W.nsIn K mainGlobals "is_number" = some (some (.ref f5))) (l5 : K.lookup f5 = some ⟨oc5, od5, .func (PySem.W.fnOf "is_number" "is_number" (defArgs sIsNum) (defBody sIsNum) (defScope sIsNum) .none kV5 dc5 pm5 an5 cd5 ct5), sl5⟩) (c5 : PySem.W.codeIn K cd5 "is_number" = true) (k5 : PySem.W.keepIn K (.ref f5) = true)
    (a6 : PySem.W.nsIn K mainGlobals "check_step" = some (some (.ref f6))) (l6 : K.lookup f6 = some ⟨oc6, od6, .func (PySem.W.fnOf "check_step" "check_step" (defArgs sChStep) (defBody sChStep) (defScope sChStep) .none kV6 dc6 pm6 an6 cd6 ct6), sl6⟩) (c6 : PySem.W.codeIn K cd6 "check_step" = true) (k6 : PySem.W.keepIn K (.ref f6) = true)
    (a7 : PySem.W.nsIn K mainGlobals "check_number" = some (some (.ref f7))) (l7 : K.lookup f7 = some ⟨oc7, od7, .func (PySem.W.fnOf "check_number" "check_number" (defArgs sChNum) (defBody sChNum) (defScope sChNum) .none kV7 dc7 pm7 an7 cd7 ct7), sl7⟩) (c7 : PySem.W.codeIn K cd7 "check_number" = true) (k7 : PySem.W.keepIn K (.ref f7) = true)
    (a8 : PySem.W.nsIn K mainGlobals "how_many" = some (some (.ref f8))) (l8 : K.lookup f8 = some ⟨oc8, od8, .func (PySem.W.fnOf "how_many" "how_many" (defArgs sHowMany) (defBody sHowMany) (defScope sHowMany) .none kV8 dc8 pm8 an8 cd8 ct8), sl8⟩) (c8 : PySem.W.codeIn K cd8 "how_many" = true) (k8 : PySem.W.keepIn K (.ref f8) = true)
    (a9 : PySem.W.nsIn K mainGlobals "first_within" = some (some (.ref f9))) (l9 : K.lookup f9 = some ⟨oc9, od9, .func (PySem.W.fnOf "first_within" "first_within" (defArgs sWithin) (defBody sWithin) (defScope sWithin) .none kV9 dc9 pm9 an9 cd9 ct9), sl9⟩) (c9 : PySem.W.codeIn K cd9 "first_within" = true) (k9 : PySem.W.keepIn K (.ref f9) = true)
    (a10 : PySem.W.nsIn K mainGlobals "_check_count" = some (some (.ref f10))) (l10 : K.lookup f10 = some ⟨oc10, od10, .func (PySem.W.fnOf "_check_count" "_check_count" (defArgs sChCount) (defBody sChCount) (defScope sChCount) .none kV10 dc10 pm10 an10 cd10 ct10), sl10⟩) (c10 : PySem.W.codeIn K cd10 "_check_count" = true) (k10 : PySem.W.keepIn K (.ref f10) = true)
    (a11 : PySem.W.nsIn K mainGlobals "_check_arc" = some (some (.ref f11))) (l11 : K.lookup f11 = some ⟨oc11, od11, .func (PySem.W.fnOf "_check_arc" "_check_arc" (defArgs sChArc) (defBody sChArc) (defScope sChArc) .none kV11 dc11 pm11 an11 cd11 ct11), sl11⟩) (c11 : PySem.W.codeIn K cd11 "_check_arc" = true) (k11 : PySem.W.keepIn K (.ref f11) = true)
    (a12 : PySem.W.nsIn K mainGlobals "_how_many_below" = some (some (.ref f12))) (l12 : K.lookup f12 = some ⟨oc12, od12, .func (PySem.W.fnOf "_how_many_below" "_how_many_below" (defArgs sBelow) (defBody sBelow) (defScope sBelow) .none kV12 dc12 pm12 an12 cd12 ct12), sl12⟩) (c12 : PySem.W.codeIn K cd12 "_how_many_below" = true) (k12 : PySem.W.keepIn K (.ref f12) = true)
    (a13 : PySem.W.nsIn K mainGlobals "_sum_of_wholes" = some (some (.ref f13))) (l13 : K.lookup f13 = some ⟨oc13, od13, .func (PySem.W.fnOf "_sum_of_wholes" "_sum_of_wholes" (defArgs sSum) (defBody sSum) (defScope sSum) .none kV13 dc13 pm13 an13 cd13 ct13), sl13⟩) (c13 : PySem.W.codeIn K cd13 "_sum_of_wholes" = true) (k13 : PySem.W.keepIn K (.ref f13) = true)
    (a14 : PySem.W.nsIn K mainGlobals "_least_top" = some (some (.ref f14))) (l14 : K.lookup f14 = some ⟨oc14, od14, .func (PySem.W.fnOf "_least_top" "_least_top" (defArgs sLeastTop) (defBody sLeastTop) (defScope sLeastTop) .none kV14 dc14 pm14 an14 cd14 ct14), sl14⟩) (c14 : PySem.W.codeIn K cd14 "_least_top" = true) (k14 : PySem.W.keepIn K (.ref f14) = true)
    (a15 : PySem.W.nsIn K mainGlobals "_first_from_to" = some (some (.ref f15))) (l15 : K.lookup f15 = some ⟨oc15, od15, .func (PySem.W.fnOf "_first_from_to" "_first_from_to" (defArgs sFFT) (defBody sFFT) (defScope sFFT) .none kV15 dc15 pm15 an15 cd15 ct15), sl15⟩) (c15 : PySem.W.codeIn K cd15 "_first_from_to" = true) (k15 : PySem.W.keepIn K (.ref f15) = true)
    (a16 : PySem.W.nsIn K mainGlobals "_first_from" = some (some (.ref f16))) (l16 : K.lookup f16 = some ⟨oc16, od16, .func (PySem.W.fnOf "_first_from" "_first_from" (defArgs sFF) (defBody sFF) (defScope sFF) .none kV16 dc16 pm16 an16 cd16 ct16), sl16⟩) (c16 : PySem.W.codeIn K cd16 "_first_from" = true) (k16 : PySem.W.keepIn K (.ref f16) = true)
    (a17 : PySem.W.nsIn K mainGlobals "_law_tin" = some (some (.ref f17))) (l17 : K.lookup f17 = some ⟨oc17, od17, .func (PySem.W.fnOf "_law_tin" "_law_tin" (defArgs sTin) (defBody sTin) (defScope sTin) .none kV17 dc17 pm17 an17 cd17 ct17), sl17⟩) (c17 : PySem.W.codeIn K cd17 "_law_tin" = true) (k17 : PySem.W.keepIn K (.ref f17) = true)
    (a18 : PySem.W.nsIn K mainGlobals "_law_sip" = some (some (.ref f18))) (l18 : K.lookup f18 = some ⟨oc18, od18, .func (PySem.W.fnOf "_law_sip" "_law_sip" (defArgs sSip) (defBody sSip) (defScope sSip) .none kV18 dc18 pm18 an18 cd18 ct18), sl18⟩) (c18 : PySem.W.codeIn K cd18 "_law_sip" = true) (k18 : PySem.W.keepIn K (.ref f18) = true)
    (a19 : PySem.W.nsIn K mainGlobals "_law_pick" = some (some (.ref f19))) (l19 : K.lookup f19 = some ⟨oc19, od19, .func (PySem.W.fnOf "_law_pick" "_law_pick" (defArgs sPick) (defBody sPick) (defScope sPick) .none kV19 dc19 pm19 an19 cd19 ct19), sl19⟩) (c19 : PySem.W.codeIn K cd19 "_law_pick" = true) (k19 : PySem.W.keepIn K (.ref f19) = true)
    (a20 : PySem.W.nsIn K mainGlobals "_law_far" = some (some (.ref f20))) (l20 : K.lookup f20 = some ⟨oc20, od20, .func (PySem.W.fnOf "_law_far" "_law_far" (defArgs sFar) (defBody sFar) (defScope sFar) .none kV20 dc20 pm20 an20 cd20 ct20), sl20⟩) (c20 : PySem.W.codeIn K cd20 "_law_far" = true) (k20 : PySem.W.keepIn K (.ref f20) = true)
    (a21 : PySem.W.nsIn K mainGlobals "_law_gcd" = some (some (.ref f21))) (l21 : K.lookup f21 = some ⟨oc21, od21, .func (PySem.W.fnOf "_law_gcd" "_law_gcd" (defArgs sGcd) (defBody sGcd) (defScope sGcd) .none kV21 dc21 pm21 an21 cd21 ct21), sl21⟩) (c21 : PySem.W.codeIn K cd21 "_law_gcd" = true) (k21 : PySem.W.keepIn K (.ref f21) = true)
    (a22 : PySem.W.nsIn K mainGlobals "_law_low" = some (some (.ref f22))) (l22 : K.lookup f22 = some ⟨oc22, od22, .func (PySem.W.fnOf "_law_low" "_law_low" (defArgs sLow) (defBody sLow) (defScope sLow) .none kV22 dc22 pm22 an22 cd22 ct22), sl22⟩) (c22 : PySem.W.codeIn K cd22 "_law_low" = true) (k22 : PySem.W.keepIn K (.ref f22) = true)
    (a23 : PySem.W.nsIn K mainGlobals "_law_under" = some (some (.ref f23))) (l23 : K.lookup f23 = some ⟨oc23, od23, .func (PySem.W.fnOf "_law_under" "_law_under" (defArgs sUnder) (defBody sUnder) (defScope sUnder) .none kV23 dc23 pm23 an23 cd23 ct23), sl23⟩) (c23 : PySem.W.codeIn K cd23 "_law_under" = true) (k23 : PySem.W.keepIn K (.ref f23) = true)
    (a24 : PySem.W.nsIn K mainGlobals "_law_step" = some (some (.ref f24))) (l24 : K.lookup f24 = some ⟨oc24, od24, .func (PySem.W.fnOf "_law_step" "_law_step" (defArgs sStep) (defBody sStep) (defScope sStep) .none kV24 dc24 pm24 an24 cd24 ct24), sl24⟩) (c24 : PySem.W.codeIn K cd24 "_law_step" = true) (k24 : PySem.W.keepIn K (.ref f24) = true)
    (a25 : PySem.W.nsIn K mainGlobals "_law_spot" = some (some (.ref f25))) (l25 : K.lookup f25 = some ⟨oc25, od25, .func (PySem.W.fnOf "_law_spot" "_law_spot" (defArgs sSpot) (defBody sSpot) (defScope sSpot) .none kV25 dc25 pm25 an25 cd25 ct25), sl25⟩) (c25 : PySem.W.codeIn K cd25 "_law_spot" = true) (k25 : PySem.W.keepIn K (.ref f25) = true)
    (a26 : PySem.W.nsIn K mainGlobals "_law_arc" = some (some (.ref f26))) (l26 : K.lookup f26 = some ⟨oc26, od26, .func (PySem.W.fnOf "_law_arc" "_law_arc" (defArgs sArc) (defBody sArc) (defScope sArc) .none kV26 dc26 pm26 an26 cd26 ct26), sl26⟩) (c26 : PySem.W.codeIn K cd26 "_law_arc" = true) (k26 : PySem.W.keepIn K (.ref f26) = true)
    (a27 : PySem.W.nsIn K mainGlobals "_law_lies_in" = some (some (.ref f27))) (l27 : K.lookup f27 = some ⟨oc27, od27, .func (PySem.W.fnOf "_law_lies_in" "_law_lies_in" (defArgs sLies) (defBody sLies) (defScope sLies) .none kV27 dc27 pm27 an27 cd27 ct27), sl27⟩) (c27 : PySem.W.codeIn K cd27 "_law_lies_in" = true) (k27 : PySem.W.keepIn K (.ref f27) = true)
    (a28 : PySem.W.nsIn K mainGlobals "_law_right" = some (some (.ref f28))) (l28 : K.lookup f28 = some ⟨oc28, od28, .func (PySem.W.fnOf "_law_right" "_law_right" (defArgs sRight) (defBody sRight) (defScope sRight) .none kV28 dc28 pm28 an28 cd28 ct28), sl28⟩) (c28 : PySem.W.codeIn K cd28 "_law_right" = true) (k28 : PySem.W.keepIn K (.ref f28) = true)
    (a29 : PySem.W.nsIn K mainGlobals "law" = some (some (.ref f29))) (l29 : K.lookup f29 = some ⟨oc29, od29, .func (PySem.W.fnOf "law" "law" (defArgs sLaw) (defBody sLaw) (defScope sLaw) .none kV29 dc29 pm29 an29 cd29 ct29), sl29⟩) (c29 : PySem.W.codeIn K cd29 "law" = true) (k29 : PySem.W.keepIn K (.ref f29) = true)
    (z0 : PySem.W.nsIn K mainGlobals "len" = some none)
    (z1 : PySem.W.nsIn K mainGlobals "int" = some none)
    (z2 : PySem.W.nsIn K mainGlobals "abs" = some none)
    (z3 : PySem.W.nsIn K mainGlobals "isinstance" = some none)
    (z4 : PySem.W.nsIn K mainGlobals "bool" = some none)
    (z5 : PySem.W.nsIn K mainGlobals "tuple" = some none)
    (z6 : PySem.W.nsIn K mainGlobals "range" = some none)
    (z7 : PySem.W.nsIn K mainGlobals "divmod" = some none)
    (z8 : PySem.W.nsIn K mainGlobals "reversed" = some none)
    (z9 : PySem.W.nsIn K mainGlobals "repr" = some none)
    (z10 : PySem.W.nsIn K mainGlobals "sum" = some none)
    (z11 : PySem.W.nsIn K mainGlobals "min" = some none)
    (z12 : PySem.W.nsIn K mainGlobals "max" = some none)
    (z13 : PySem.W.nsIn K mainGlobals "all" = some none)
    (m0 : PySem.W.nsIn K mainGlobals "gcd" = some (some (.builtin "math.gcd")))
    (m1 : PySem.W.nsIn K mainGlobals "MOST_COUNT" = some (some (.int (10 ^ 30) tk1)))
    : ∃ fd : FuncData, (∀ (s : Shared) (v : Value), BindsTo s fd ⟨[v], []⟩ [("_law_script", v)]) ∧ ∀ base : Heap, K.In base → base.Ns mainGlobals mg → FnG l.prog w K mg base CX0 8 fa fd ["_law_script"] (spLaw K) := by
  cases hfa.symm.trans (PySem.W.mg_of X G a29)
  have F0 := fun_mk (st := sIsInt) l0 c0 k0
  have d0 : Df K mg "is_integer" sIsInt ["given"] f0 _ := ⟨F0, PySem.W.mg_of X G a0, F0.binds fun _ _ _ _ _ _ us hl => match us, hl with | [_], _ => rfl⟩
  have F1 := fun_mk (st := sIsFr) l1 c1 k1
  have d1 : Df K mg "is_fraction" sIsFr ["given"] f1 _ := ⟨F1, PySem.W.mg_of X G a1, F1.binds fun _ _ _ _ _ _ us hl => match us, hl with | [_], _ => rfl⟩
  have F2 := fun_mk (st := sIsStep) l2 c2 k2
  have d2 : Df K mg "is_step" sIsStep ["given"] f2 _ := ⟨F2, PySem.W.mg_of X G a2, F2.binds fun _ _ _ _ _ _ us hl => match us, hl with | [_], _ => rfl⟩
  have F3 := fun_mk (st := sIsPart) l3 c3 k3
  have d3 : Df K mg "is_part" sIsPart ["given"] f3 _ := ⟨F3, PySem.W.mg_of X G a3, F3.binds fun _ _ _ _ _ _ us hl => match us, hl with | [_], _ => rfl⟩
  have F4 := fun_mk (st := sIsLess) l4 c4 k4
  have d4 : Df K mg "is_less" sIsLess ["one", "other"] f4 _ := ⟨F4, PySem.W.mg_of X G a4, F4.binds fun _ _ _ _ _ _ us hl => match us, hl with | [_, _], _ => rfl⟩
  have F5 := fun_mk (st := sIsNum) l5 c5 k5
  have d5 : Df K mg "is_number" sIsNum ["given", "least", "most"] f5 _ := ⟨F5, PySem.W.mg_of X G a5, F5.binds fun _ _ _ _ _ _ us hl => match us, hl with | [_, _, _], _ => rfl⟩
  have F6 := fun_mk (st := sChStep) l6 c6 k6
  have d6 : Df K mg "check_step" sChStep ["given"] f6 _ := ⟨F6, PySem.W.mg_of X G a6, F6.binds fun _ _ _ _ _ _ us hl => match us, hl with | [_], _ => rfl⟩
  have F7 := fun_mk (st := sChNum) l7 c7 k7
  have d7 : Df K mg "check_number" sChNum ["given", "least", "most"] f7 _ := ⟨F7, PySem.W.mg_of X G a7, F7.binds fun _ _ _ _ _ _ us hl => match us, hl with | [_, _, _], _ => rfl⟩
  have F8 := fun_mk (st := sHowMany) l8 c8 k8
  have d8 : Df K mg "how_many" sHowMany ["step", "count", "low", "high"] f8 _ := ⟨F8, PySem.W.mg_of X G a8, F8.binds fun _ _ _ _ _ _ us hl => match us, hl with | [_, _, _, _], _ => rfl⟩
  have F9 := fun_mk (st := sWithin) l9 c9 k9
  have d9 : Df K mg "first_within" sWithin ["step", "low", "high"] f9 _ := ⟨F9, PySem.W.mg_of X G a9, F9.binds fun _ _ _ _ _ _ us hl => match us, hl with | [_, _, _], _ => rfl⟩
  have F10 := fun_mk (st := sChCount) l10 c10 k10
  have d10 : Df K mg "_check_count" sChCount ["step", "count"] f10 _ := ⟨F10, PySem.W.mg_of X G a10, F10.binds fun _ _ _ _ _ _ us hl => match us, hl with | [_, _], _ => rfl⟩
  have F11 := fun_mk (st := sChArc) l11 c11 k11
  have d11 : Df K mg "_check_arc" sChArc ["low", "high"] f11 _ := ⟨F11, PySem.W.mg_of X G a11, F11.binds fun _ _ _ _ _ _ us hl => match us, hl with | [_, _], _ => rfl⟩
  have F12 := fun_mk (st := sBelow) l12 c12 k12
  have d12 : Df K mg "_how_many_below" sBelow ["step", "count", "most"] f12 _ := ⟨F12, PySem.W.mg_of X G a12, F12.binds fun _ _ _ _ _ _ us hl => match us, hl with | [_, _, _], _ => rfl⟩
  have F13 := fun_mk (st := sSum) l13 c13 k13
  have d13 : Df K mg "_sum_of_wholes" sSum ["count", "bottom", "slope", "shift"] f13 _ := ⟨F13, PySem.W.mg_of X G a13, F13.binds fun _ _ _ _ _ _ us hl => match us, hl with | [_, _, _, _], _ => rfl⟩
  have F14 := fun_mk (st := sLeastTop) l14 c14 k14
  have d14 : Df K mg "_least_top" sLeastTop ["fraction", "bottom"] f14 _ := ⟨F14, PySem.W.mg_of X G a14, F14.binds fun _ _ _ _ _ _ us hl => match us, hl with | [_, _], _ => rfl⟩
  have F15 := fun_mk (st := sFFT) l15 c15 k15
  have d15 : Df K mg "_first_from_to" sFFT ["step", "least", "most"] f15 _ := ⟨F15, PySem.W.mg_of X G a15, F15.binds fun _ _ _ _ _ _ us hl => match us, hl with | [_, _, _], _ => rfl⟩
  have F16 := fun_mk (st := sFF) l16 c16 k16
  have d16 : Df K mg "_first_from" sFF ["slope", "least"] f16 _ := ⟨F16, PySem.W.mg_of X G a16, F16.binds fun _ _ _ _ _ _ us hl => match us, hl with | [_, _], _ => rfl⟩
  have F17 := fun_mk (st := sTin) l17 c17 k17
  have d17 : Df K mg "_law_tin" sTin ["_law_script", "_law_turn"] f17 _ := ⟨F17, PySem.W.mg_of X G a17, F17.binds fun _ _ _ _ _ _ us hl => match us, hl with | [_, _], _ => rfl⟩
  have F18 := fun_mk (st := sSip) l18 c18 k18
  have d18 : Df K mg "_law_sip" sSip ["_law_tin_here", "_law_top"] f18 _ := ⟨F18, PySem.W.mg_of X G a18, F18.binds fun _ _ _ _ _ _ us hl => match us, hl with | [_, _], _ => rfl⟩
  have F19 := fun_mk (st := sPick) l19 c19 k19
  have d19 : Df K mg "_law_pick" sPick ["_law_tin_here", "_law_menu"] f19 _ := ⟨F19, PySem.W.mg_of X G a19, F19.binds fun _ _ _ _ _ _ us hl => match us, hl with | [_, _], _ => rfl⟩
  have F20 := fun_mk (st := sFar) l20 c20 k20
  have d20 : Df K mg "_law_far" sFar ["_law_tin_here", "_law_most"] f20 _ := ⟨F20, PySem.W.mg_of X G a20, F20.binds fun _ _ _ _ _ _ us hl => match us, hl with | [_, _], _ => rfl⟩
  have F21 := fun_mk (st := sGcd) l21 c21 k21
  have d21 : Df K mg "_law_gcd" sGcd ["_law_one", "_law_two"] f21 _ := ⟨F21, PySem.W.mg_of X G a21, F21.binds fun _ _ _ _ _ _ us hl => match us, hl with | [_, _], _ => rfl⟩
  have F22 := fun_mk (st := sLow) l22 c22 k22
  have d22 : Df K mg "_law_low" sLow ["_law_top", "_law_bottom"] f22 _ := ⟨F22, PySem.W.mg_of X G a22, F22.binds fun _ _ _ _ _ _ us hl => match us, hl with | [_, _], _ => rfl⟩
  have F23 := fun_mk (st := sUnder) l23 c23 k23
  have d23 : Df K mg "_law_under" sUnder ["_law_one", "_law_two"] f23 _ := ⟨F23, PySem.W.mg_of X G a23, F23.binds fun _ _ _ _ _ _ us hl => match us, hl with | [_, _], _ => rfl⟩
  have F24 := fun_mk (st := sStep) l24 c24 k24
  have d24 : Df K mg "_law_step" sStep ["_law_tin_here", "_law_most"] f24 _ := ⟨F24, PySem.W.mg_of X G a24, F24.binds fun _ _ _ _ _ _ us hl => match us, hl with | [_, _], _ => rfl⟩
  have F25 := fun_mk (st := sSpot) l25 c25 k25
  have d25 : Df K mg "_law_spot" sSpot ["_law_x", "_law_k"] f25 _ := ⟨F25, PySem.W.mg_of X G a25, F25.binds fun _ _ _ _ _ _ us hl => match us, hl with | [_, _], _ => rfl⟩
  have F26 := fun_mk (st := sArc) l26 c26 k26
  have d26 : Df K mg "_law_arc" sArc ["_law_tin_here", "_law_most"] f26 _ := ⟨F26, PySem.W.mg_of X G a26, F26.binds fun _ _ _ _ _ _ us hl => match us, hl with | [_, _], _ => rfl⟩
  have F27 := fun_mk (st := sLies) l27 c27 k27
  have d27 : Df K mg "_law_lies_in" sLies ["_law_x", "_law_k", "_law_low_here", "_law_high"] f27 _ := ⟨F27, PySem.W.mg_of X G a27, F27.binds fun _ _ _ _ _ _ us hl => match us, hl with | [_, _, _, _], _ => rfl⟩
  have F28 := fun_mk (st := sRight) l28 c28 k28
  have d28 : Df K mg "_law_right" sRight ["_law_tin_here"] f28 _ := ⟨F28, PySem.W.mg_of X G a28, F28.binds fun _ _ _ _ _ _ us hl => match us, hl with | [_], _ => rfl⟩
  have F29 := fun_mk (st := sLaw) l29 c29 k29
  have n0 := PySem.W.mg_none_of X G z0
  have n1 := PySem.W.mg_none_of X G z1
  have n2 := PySem.W.mg_none_of X G z2
  have n3 := PySem.W.mg_none_of X G z3
  have n4 := PySem.W.mg_none_of X G z4
  have n5 := PySem.W.mg_none_of X G z5
  have n6 := PySem.W.mg_none_of X G z6
  have n7 := PySem.W.mg_none_of X G z7
  have n8 := PySem.W.mg_none_of X G z8
  have n9 := PySem.W.mg_none_of X G z9
  have n10 := PySem.W.mg_none_of X G z10
  have n11 := PySem.W.mg_none_of X G z11
  have n12 := PySem.W.mg_none_of X G z12
  have n13 := PySem.W.mg_none_of X G z13
  have v0 := PySem.W.mg_of X G m0
  have v1 := PySem.W.mg_of X G m1
  have bl : Bl mg := ⟨n0, n1, n2⟩
  have bc : Bc mg := ⟨n3, n1, n4, n5, n0, v0⟩
  have cn : Cn K mg := { c := bc, dv := n7, rv := n8, mc := ⟨_, v1⟩, fi := ⟨f0, _⟩, di := d0, fr := ⟨f1, _⟩, dr := d1, fs := ⟨f2, _⟩, ds := d2, fc := ⟨f6, _⟩, dc := d6, fm := ⟨f5, _⟩, dm := d5, fn := ⟨f7, _⟩, dn := d7, fp := ⟨f3, _⟩, dp := d3, fl := ⟨f4, _⟩, dl := d4, gc := ⟨f10, _⟩, ec := d10, ga := ⟨f11, _⟩, ea := d11, gb := ⟨f12, _⟩, eb := d12, gs := ⟨f13, _⟩, es := d13, gt := ⟨f14, _⟩, et := d14, gf := ⟨f15, _⟩, ef := d15, gg := ⟨f16, _⟩, eg := d16 }
  have M : All K mg := { cn := cn, bl := bl, range := n6, rp := n9, sm := n10, fh := ⟨f8, _⟩, dh := d8, fw := ⟨f9, _⟩, dw := d9, gt := ⟨f17, _⟩, lt := d17, gs := ⟨f18, _⟩, ls := d18, gp := ⟨f19, _⟩, lp := d19, gf := ⟨f20, _⟩, lf := d20, gg := ⟨f21, _⟩, lg := d21, gl := ⟨f22, _⟩, ll := d22, gu := ⟨f23, _⟩, lu := d23, ge := ⟨f24, _⟩, le := d24, gk := ⟨f25, _⟩, lk := d25, ga := ⟨f26, _⟩, la := d26, gi := ⟨f27, _⟩, li := d27, hk := kwOfR F8 rfl (by decide) fun _ _ _ _ _ _ ws hl => match ws, hl with | [_, _, _, _], _ => rfl, wk := kwOfR F9 rfl (by decide) fun _ _ _ _ _ _ ws hl => match ws, hl with | [_, _, _], _ => rfl }
  exact ⟨_, fun s v => .of_eq rfl, fun base _ _ => ok_law F29 M ⟨n13, n12, n11⟩ d28⟩
theorem walk {l : PySem.W.OpenLaw} {q : Program} {loose : List Str} {XP : (Str → Option Value) → Heap → Prop} {YP : World → Heap → Prop} {d : DefRec} {K : Params → PySem.W.Frag} (hn : l.most = some 63) (hdf : d.params.defaults = [])
    (hY : ∀ (w : World) (h : Heap), YP w h → (K w.params).In h) (F : ∀ (w : World) (mg : Str → Option Value) (fa : Addr) (h : Heap), (K w.params).In h → h.Ns mainGlobals mg → mg d.name = some (.ref fa) →
      ∃ fd : FuncData, (∀ (s : Shared) (u : Value), BindsTo s fd ⟨[u], []⟩ [("_law_script", u)]) ∧ ∀ base : Heap, (K w.params).In base → base.Ns mainGlobals mg → FnG l.prog w (K w.params) mg base CX0 8 fa fd ["_law_script"] (spLaw (K w.params))) :
    PySem.W.WalkO q loose XP YP l.row.toRowW d [] (fun f vs => PySem.call f vs) :=
  walkG (n := 63) (k := 8) (x := "_law_script") (CX := fun _ => CX0) (sp := fun w => spLaw (K w.params)) hn (by decide) hdf ⟨rfl, by decide, by decide⟩ hY F (fun _ _ a ns hl _ hS => ⟨a, ns, rfl, hS, hl, fun _ => rfl⟩) fun _ _ _ _ _ z => z
end My
open PySem PySem.W PyProof.Rows
set_option maxRecDepth 100000 in
set_option maxHeartbeats 0 in
theorem PySem.Challenge.cw_rimorders_k07_whole_marks_in_arcs_holds : PySem.Challenge.rw_rimorders_k07_whole_marks_in_arcs.Holds := by
  w_on; o_law; k_head; (case hw => w_witness2)
  k_fill
  refine My.walk (l := PySem.Challenge.rw_rimorders_k07_whole_marks_in_arcs) rfl rfl (fun w h Y => PySem.W.kIn_of Y) ?F
  case F =>
    intro w mg fa h KX G hmg
    refine' My.all_mk KX G hmg ?a0 ?l0 ?c0 ?k0 ?a1 ?l1 ?c1 ?k1 ?a2 ?l2 ?c2 ?k2 ?a3 ?l3 ?c3 ?k3 ?a4 ?l4 ?c4 ?k4 ?a5 ?l5 ?c5 ?k5 ?a6 ?l6 ?c6 ?k6 ?a7 ?l7 ?c7 ?k7 ?a8 ?l8 ?c8 ?k8 ?a9 ?l9 ?c9 ?k9 ?a10 ?l10 ?c10 ?k10 ?a11 ?l11 ?c11 ?k11 ?a12 ?l12 ?c12 ?k12 ?a13 ?l13 ?c13 ?k13 ?a14 ?l14 ?c14 ?k14 ?a15 ?l15 ?c15 ?k15 ?a16 ?l16 ?c16 ?k16 ?a17 ?l17 ?c17 ?k17 ?a18 ?l18 ?c18 ?k18 ?a19 ?l19 ?c19 ?k19 ?a20 ?l20 ?c20 ?k20 ?a21 ?l21 ?c21 ?k21 ?a22 ?l22 ?c22 ?k22 ?a23 ?l23 ?c23 ?k23 ?a24 ?l24 ?c24 ?k24 ?a25 ?l25 ?c25 ?k25 ?a26 ?l26 ?c26 ?k26 ?a27 ?l27 ?c27 ?k27 ?a28 ?l28 ?c28 ?k28 ?a29 ?l29 ?c29 ?k29 ?z0 ?z1 ?z2 ?z3 ?z4 ?z5 ?z6 ?z7 ?z8 ?z9 ?z10 ?z11 ?z12 ?z13 ?m0 ?m1
    (case a0 => k_is)
    (case l0 => k_is)
    (case c0 => k_is)
    (case k0 => k_is)
    (case a1 => k_is)
    (case l1 => k_is)
    (case c1 => k_is)
    (case k1 => k_is)
    (case a2 => k_is)
    (case l2 => k_is)
    (case c2 => k_is)
    (case k2 => k_is)
    (case a3 => k_is)
    (case l3 => k_is)
    (case c3 => k_is)
    (case k3 => k_is)
    (case a4 => k_is)
    (case l4 => k_is)
    (case c4 => k_is)
    (case k4 => k_is)
    (case a5 => k_is)
    (case l5 => k_is)
    (case c5 => k_is)
    (case k5 => k_is)
    (case a6 => k_is)
    (case l6 => k_is)
    (case c6 => k_is)
    (case k6 => k_is)
    (case a7 => k_is)
    (case l7 => k_is)
    (case c7 => k_is)
    (case k7 => k_is)
    (case a8 => k_is)
    (case l8 => k_is)
    (case c8 => k_is)
    (case k8 => k_is)
    (case a9 => k_is)
    (case l9 => k_is)
    (case c9 => k_is)
    (case k9 => k_is)
    (case a10 => k_is)
    (case l10 => k_is)
    (case c10 => k_is)
    (case k10 => k_is)
    (case a11 => k_is)
    (case l11 => k_is)
    (case c11 => k_is)
    (case k11 => k_is)
    (case a12 => k_is)
    (case l12 => k_is)
    (case c12 => k_is)
    (case k12 => k_is)
    (case a13 => k_is)
    (case l13 => k_is)
    (case c13 => k_is)
    (case k13 => k_is)
    (case a14 => k_is)
    (case l14 => k_is)
    (case c14 => k_is)
    (case k14 => k_is)
    (case a15 => k_is)
    (case l15 => k_is)
    (case c15 => k_is)
    (case k15 => k_is)
    (case a16 => k_is)
    (case l16 => k_is)
    (case c16 => k_is)
    (case k16 => k_is)
    (case a17 => k_is)
    (case l17 => k_is)
    (case c17 => k_is)
    (case k17 => k_is)
    (case a18 => k_is)
    (case l18 => k_is)
    (case c18 => k_is)
    (case k18 => k_is)
    (case a19 => k_is)
    (case l19 => k_is)
    (case c19 => k_is)
    (case k19 => k_is)
    (case a20 => k_is)
    (case l20 => k_is)
    (case c20 => k_is)
    (case k20 => k_is)
    (case a21 => k_is)
    (case l21 => k_is)
    (case c21 => k_is)
    (case k21 => k_is)
    (case a22 => k_is)
    (case l22 => k_is)
    (case c22 => k_is)
    (case k22 => k_is)
    (case a23 => k_is)
    (case l23 => k_is)
    (case c23 => k_is)
    (case k23 => k_is)
    (case a24 => k_is)
    (case l24 => k_is)
    (case c24 => k_is)
    (case k24 => k_is)
    (case a25 => k_is)
    (case l25 => k_is)
    (case c25 => k_is)
    (case k25 => k_is)
    (case a26 => k_is)
    (case l26 => k_is)
    (case c26 => k_is)
    (case k26 => k_is)
    (case a27 => k_is)
    (case l27 => k_is)
    (case c27 => k_is)
    (case k27 => k_is)
    (case a28 => k_is)
    (case l28 => k_is)
    (case c28 => k_is)
    (case k28 => k_is)
    (case a29 => k_is)
    (case l29 => k_is)
    (case c29 => k_is)
    (case k29 => k_is)
    (case z0 => k_is)
    (case z1 => k_is)
    (case z2 => k_is)
    (case z3 => k_is)
    (case z4 => k_is)
    (case z5 => k_is)
    (case z6 => k_is)
    (case z7 => k_is)
    (case z8 => k_is)
    (case z9 => k_is)
    (case z10 => k_is)
    (case z11 => k_is)
    (case z12 => k_is)
    (case z13 => k_is)
    (case m0 => k_is)
    (case m1 => k_is)
