import PyProof.Rows.All
import Wide.All
import OpenK.AllK
import Wide.FinOn
import HandS.ForMost
import HandS.ForExc
import HandS.Strs
import HandS.SetFor
import HandS.SetKeys
import HandS.TupAny
import HandS.Style
import HandS.Gcd
import HandS.Wide
import HandS.IsInst
import HandS.Conv
import HandS.Flow
import PyProof.ReprRoads
import HandS.More
import PyProof.ReprLen
import PySem.Challenge.RW_rimorders_k04_whole_where_orders_part
set_option Elab.async false
set_option linter.all false
set_option maxRecDepth 100000
set_option maxHeartbeats 4000000
/-! general rules of mine: repr of data, set of a list of ints, t[:0:-1] -/
namespace Gn
open PySem PySem.Spec PyProof.Rows L2
section
variable {X : Cx}
/-! repr of lists and tuples -/
mutual
theorem dp_nodict {K : PySem.W.Frag} {H : Hp} : ∀ (d : PyData) (v : V), Dp K H v d → d.hasDict = false
  | .none, _, _ => by simp only [PyData.hasDict]
  | .bool _, _, _ => by simp only [PyData.hasDict]
  | .int _, _, _ => by simp only [PyData.hasDict]
  | .str _, _, _ => by simp only [PyData.hasDict]
  | .list ds, _, h => by
    cases h with
    | lst _ ha => simp only [PyData.hasDict]; exact dps_nodict ds _ ha
  | .tuple ds, _, h => by
    cases h with
    | tup _ ha => simp only [PyData.hasDict]; exact dps_nodict ds _ ha
  | .dict _, _, h => by cases h
theorem dps_nodict {K : PySem.W.Frag} {H : Hp} : ∀ (ds : List PyData) (vs : List V), DpAll K H vs ds → PyData.hasDictAll ds = false
  | [], _, _ => by simp only [PyData.hasDictAll]
  | d :: ds, _, h => by
    cases h with
    | cons h1 h2 => simp only [PyData.hasDictAll, dp_nodict d _ h1, dps_nodict ds _ h2, Bool.or_self]
end
/-- repr(x), x a list or a tuple of data -/
def rRepr (K : PySem.W.Frag) : List V → Hp → VK → Prop := fun xs H Q => ∃ a d, xs = [V.ref a] ∧ Dp K H (.ref a) d ∧ d.showable = true ∧ d.depth < 60 ∧ d.shown.length ≤ sizeLine ∧ Q (.str d.shown) H
theorem cr_repr (hg : X.A.guards = some []) (hu : X.A.units + 64 < cLine) : CallR X (.builtin "repr") (rRepr X.K) := by
  intro pins s σ H xs us Q I r h
  obtain ⟨a, d, rfl, hd, hs, hdp, hz, q⟩ := h
  rw [Vals.ref1 r]
  obtain ⟨as, rd⟩ := Dp.reads I d _ _ hd rfl
  exact repr_of_reads' rd hs (PySem.PyData.noDict_hsm (dp_nodict d _ hd)) hg (by omega) (fun _ _ e => e) (fun h' u tk k => ⟨.str d.shown, H, I.kept (t' := tk) k, ⟨u, rfl⟩, q⟩) hz
end
end Gn
set_option Elab.async false
set_option linter.all false
set_option maxRecDepth 100000
set_option maxHeartbeats 4000000
namespace Gn
open PySem PySem.Spec PyProof.Rows L2
/-- the empty set object as the machine lays it -/
abbrev eSet (w : World) : Obj := { cls := .type "set", dict := none, data := .set #[] 0 (.fresh 0 0 (!w.params.followText "set-order")) }
section
variable {P : Program} {w : World} {A : Around} {E : Value → Shared → Prop} {s : Shared}
/-- what the init leaves: a set of the ints ns at S, no older object changed -/
abbrev Filled (w : World) (ns : List Int) (s0 : Shared) (S : Addr) (s2 : Shared) : Prop := ∃ (h' : Heap) (tk c : Nat), s2 = { s0 with heap := h', toks := tk } ∧ SetR w h' S (fun j => decide (j ∈ ns)) c ∧ c ≤ ns.length ∧ ∀ b o, s0.heap.get? b = some o → h'.get? b = some o
set_option maxHeartbeats 6000000 in
/-- set(l), l a list of ints -/
theorem set_of_ints {l : Addr} {its : Array Value} (ns : List Int) {Q : Value → Shared → Prop} (hh : A.handled = none) (hl : s.heap.IsList l its) (hi : IntsAre its.toList ns) (hb : ns.length + 1 < scanBound)
    (h : ∀ s2, Filled w ns s s.heap.objs.size s2 → Q (.ref s.heap.objs.size) s2) : wpAny (model P w) A (call (.type "set") [.ref l]) Q E s := by
  have hN : its.size = ns.length := by have q := IntsAre.length hi; rw [Array.length_toList] at q; exact q
  obtain ⟨c, tl, hmro⟩ := F.called_set.mro; have hmade := F.called_set.made; have hsub := F.called_set.sub
  refine wpAny_call (codeAny_of_tree ?_); show wpAny _ _ (callAny (.type "set") _) _ _ _
  refine wpAny_pure ⟨Code.quiet_builtin _ (by decide +kernel), codeAny_builtin F.entry_type_call ?_⟩; rw [Around.under_plain (weight_type_call_type "set" [.ref l] []) rfl]
  have h1 := F.called_set.notType; have h2 := F.called_set.canCreate; have hct := F.typeCall_set_1 (.ref l)
  repeat (any_goals (first | assumption | wp_step))
  refine codeAny_mono (code_set_led1 (.ref l) (E := E) (Q₁ := fun v z => v = .ref s.heap.objs.size ∧ z = { s with heap := s.heap.push (eSet w) }) ⟨rfl, rfl⟩) fun r z hr => ?_
  cases r with
  | error e => exact hr
  | ok fl =>
    cases fl with
    | ret obj =>
      obtain ⟨rfl, rfl⟩ := hr
      have hS : (s.heap.push (eSet w)).get? s.heap.objs.size = some (eSet w) := Heap.get?_push_size _ rfl
      have hT : Shared.TypeIs { s with heap := s.heap.push (eSet w) } (.ref s.heap.objs.size) "set" := ⟨_, hS, rfl⟩
      have hli := F.called_set.init.lookup; have hbi := F.called_set.init.bind (.ref s.heap.objs.size)
      repeat (any_goals (first | assumption | wp_step))
      refine codeAny_mono (codeAny_call_builtin (R := wants (fun r z => r = .none ∧ Filled w ns s s.heap.objs.size z) E) F.called_set.init.plain F.entry_set_init (check_set_init_1 hT ?_)) fun r2 z2 hr2 => ?_
      · obtain ⟨⟨lc, ld, lx, ls⟩, hol, hcl, nl, hdl⟩ := hl
        simp only at hcl hdl
        subst hcl; subst hdl
        have hol' : (s.heap.push (eSet w)).get? l = some { cls := .type "list", dict := ld, data := .seq its nl, slots := ls } := Heap.get?_push_of_some _ hol
        have hsls := F.sub_list_set; have hslf := F.sub_list_frozenset; have hne : (Value.type "list" == Value.type "dict") = false := by decide
        have hl1 : (s.heap.push (eSet w)).IsList l its := ⟨_, hol', rfl, nl, rfl⟩
        unfold Builtin.«set.__init__» noKeywords Builtin.Frozenset.updateFrom
        generalize hPI : pyIter = PI
        wp_walk
        subst hPI
        refine wpAny_pyIter_list hl1 (wpAny_bind (wpAny_runValue ?_))
        have hlS : l < s.heap.objs.size := Heap.lt_size hol
        have h3 : A.in1.in1.in1.handled = none := by simp [hh]
        have z1 : (s.heap.push (eSet w)).objs.size = s.heap.objs.size + 1 := Heap.size_push ..
        have nI : l ≠ (s.heap.push (eSet w)).objs.size := by rw [z1]; exact Nat.ne_of_lt (Nat.lt_succ_of_lt hlS)
        have nF : s.heap.objs.size ∉ [(s.heap.push (eSet w)).objs.size, l] := by
          rw [z1]; intro q; rcases List.mem_cons.mp q with q | q
          · exact Nat.succ_ne_self _ q.symm
          · exact Nat.ne_of_gt hlS (List.mem_singleton.mp q)
        have hval : ∀ (i : Nat) (v : Value), its[i]? = some v → ∃ k t, ns[i]? = some k ∧ v = .int k t := fun i v hv => by
          have hil : i < ns.length := by rw [← hN]; exact (Array.getElem?_eq_some_iff.mp hv).1
          obtain ⟨t, e⟩ := IntsAre.int_at hi i v (by rw [Array.getElem?_toList]; exact hv)
          exact ⟨ns[i], t, List.getElem?_eq_getElem hil, by rw [e, List.getD_eq_getElem?_getD, List.getElem?_eq_getElem hil] <;> rfl⟩
        refine set_update_ints ((Walks.list h3 _ l nI its).toS) s.heap.objs.size nF ns hN hb hval (its.size - 0) 0 _ (by omega) (Nat.zero_le _) ⟨⟨_, Heap.get?_push_size _ rfl, rfl, rfl⟩, (hl1.push _)⟩ ⟨0, Nat.le_refl 0, setR_new_at (Heap.get?_push_of_some _ hS)⟩ ?_
        intro z' c' hm hc' hS'
        obtain ⟨h', g2, d', tk', os'⟩ := z'
        obtain rfl : g2 = s.gens := hm.gens
        obtain rfl : d' = s.drawn := hm.drawn
        obtain rfl : os' = s.os := hm.os
        show wpAny _ _ _ _ _ _
        refine wpAny_pure ?_; show wpAny _ _ (ret Value.none) _ _ _; rw [hN] at hc'
        refine wpAny_pure ⟨rfl, h', tk', c', rfl, hS', hc', fun b o e => ?_⟩
        have hb0 : b < s.heap.objs.size := Heap.lt_size e
        refine hm.heap b o (fun q => ?_) (Heap.get?_push_of_some _ (Heap.get?_push_of_some _ e))
        rcases List.mem_cons.mp q with q | q
        · exact Nat.ne_of_lt hb0 q
        · exact Nat.ne_of_lt (Nat.lt_succ_of_lt hb0) ((List.mem_singleton.mp q).trans z1)
      · cases r2 with
        | error e => exact hr2
        | ok fl2 =>
          cases fl2 with
          | ret r =>
            obtain ⟨rfl, h', tk, c', rfl, hS', hc', hk'⟩ := hr2
            repeat (any_goals (first | assumption | wp_step))
            exact h _ ⟨_, _, _, rfl, hS', hc', hk'⟩
          | _ => exact hr2.elim
    | _ => exact hr.elim
end
section
variable {X : Cx}
/-- set(l) of a list of fewer than 64 ints -/
def rSetI (K : PySem.W.Frag) (w : World) : List V → Hp → VK → Prop := fun xs H Q => ∃ (l : Addr) (ns : List Int), xs = [.ref l] ∧ SqL K H l (ns.map V.int) ∧ ns.length < 64 ∧ ∀ p c, H p = none → c ≤ ns.length → Q (.ref p) (upd H p (SetO w p (fun j => decide (j ∈ ns)) c))
theorem cr_setI (hc : X.calm = true) : CallR X (.type "set") (rSetI X.K X.w) := by
  intro pins s σ H xs us Q I r h
  obtain ⟨l, ns, rfl, hl, hf, q⟩ := h
  rw [Vals.ref1 r]
  obtain ⟨its, rv, pl, hz⟩ := I.list hl
  refine set_of_ints ns (I.ok.hd hc) pl.isList (by simpa using intsAre_of rv) (by unfold scanBound; omega) fun s2 hs => ?_
  obtain ⟨h', tk, c, rfl, hS, hcn, k⟩ := hs
  exact ⟨.ref s.heap.objs.size, _, I.laid (t' := tk) k (Nat.le_refl _) (setO_new hS), rfl, q _ c (I.hok.fresh (Nat.le_refl _)) hcn⟩
end
end Gn
set_option Elab.async false
set_option linter.all false
set_option maxRecDepth 100000
set_option maxHeartbeats 4000000
namespace Gn
open PySem PySem.Spec PyProof.Rows L2
/-! t[:0:-1], t a tuple -/
theorem back_adjust (n : Nat) : Builtin.Slice.slicePlaces (Builtin.Slice.sliceAdjust none (some 0) (-1) (n : Int)).1 (Builtin.Slice.sliceAdjust none (some 0) (-1) (n : Int)).2 (-1) = n - 1 ∧ (Builtin.Slice.sliceAdjust none (some 0) (-1) (n : Int)).1 = (n : Int) - 1 := by
  have a : (Builtin.Slice.sliceAdjust none (some 0) (-1) (n : Int)) = ((n : Int) - 1, min 0 ((n : Int) - 1)) := by
    simp only [Builtin.Slice.sliceAdjust, show ((-1 : Int) < 0) = True by decide, show ((0 : Int) < 0) = False by decide, if_true, if_false]
  rw [a]
  refine ⟨?_, rfl⟩
  unfold Builtin.Slice.slicePlaces
  simp only [show ((-1 : Int) > 0) = False by decide, if_false, show (-(-1) : Int) = 1 by decide, Int.ediv_one]
  split <;> omega
theorem back_pick (xs : Array Value) : ((List.range (xs.size - 1)).filterMap fun (m : Nat) => xs[(((xs.size : Nat) : Int) - 1 + (m : Int) * (-1)).toNat]?).toArray = (xs.toList.drop 1).reverse.toArray := by
  congr 1
  have g : ∀ k, k ≤ xs.size - 1 → ((List.range k).filterMap fun (m : Nat) => xs[(((xs.size : Nat) : Int) - 1 + (m : Int) * (-1)).toNat]?) = ((xs.toList.drop 1).reverse).take k := by
    intro k
    induction k with
    | zero => intro _; rfl
    | succ k ih =>
      intro hk
      have i1 : (((xs.size : Nat) : Int) - 1 + (k : Int) * (-1)).toNat = xs.size - 1 - k := by omega
      have i2 : xs.size - 1 - k < xs.size := by omega
      have hl : k < (xs.toList.drop 1).reverse.length := by rw [List.length_reverse, List.length_drop, Array.length_toList]; omega
      rw [List.range_succ, List.filterMap_append, ih (by omega), List.take_add_one, List.getElem?_eq_getElem hl]
      congr 1
      simp only [List.filterMap_cons, List.filterMap_nil, i1, Array.getElem?_eq_getElem i2, Option.toList]
      congr 1
      rw [List.getElem_reverse, List.getElem_drop]
      simp only [List.length_drop, Array.length_toList, Array.getElem_toList]
      congr 1
      omega
  rw [g _ (Nat.le_refl _)]
  refine List.take_of_length_le ?_
  rw [List.length_reverse, List.length_drop, Array.length_toList]
  exact Nat.le_refl _
section
variable {prog : Program} {w : World} {A : Around} {E : Value → Shared → Prop} {s : Shared}
theorem back_item {t sl : Addr} {its : Array Value} {vl vu vs : Value} {Q : Value → Shared → Prop} (ht : IsTup s.heap t its) (hs : s.heap.IsSliceOf sl vl vu vs) (pl : IsPart vl none) (pu : IsPart vu (some 0)) (ps : IsPart vs (some (-1)))
    (h : Q (.ref s.heap.objs.size) { s with heap := s.heap.push { cls := .type "tuple", data := .seq (its.toList.drop 1).reverse.toArray } }) (hz : its.size ≤ sizeLine) : wpAny (model prog w) A (getItem (.ref t) (.ref sl)) Q E s := by
  have hfit : sizeOk (.seq (its.toList.drop 1).reverse.toArray) := by
    show ((its.toList.drop 1).reverse).toArray.size ≤ sizeLine
    rw [List.size_toArray, List.length_reverse, List.length_drop, Array.length_toList]; omega
  obtain ⟨os, hos, hcs, hds⟩ := id hs
  unfold getItem
  try with_reducible refine wpAny_holding ?_
  first | refine wpAny_bind (wpAny_pure ?_) | skip
  refine wpAny_bind (wpAny_sequenceKey ht.typeIs (by decide) (wpAny_bind (wpAny_callSpecial?_slot (name := Str.ofString "__getitem__") ht.typeIs PyProof.Rows.slot_tuple_getitem (wpAny_call_entry PyProof.Rows.slot_tuple_getitem ht.typeIs PyProof.Rows.entry_tuple_getitem ?_ (PyProof.Rows.args_tuple_getitem _ _)))))
  show wpAny _ _ (Builtin.Tuple.tupleItemsOf (.ref t) >>= _) _ _ s
  refine wpAny_bind (PyProof.Rows.tupleItemsOf_ ht (wpAny_bind (wpAny_typeOf (show s.TypeIs (.ref sl) "slice" from ⟨os, hos, hcs⟩) ?_)))
  rw [if_pos (by decide)]
  refine wpAny_bind ?_
  unfold Builtin.Slice.sliceApplied Builtin.Slice.sliceFields
  refine wpAny_bind (wpAny_bind (wpAny_field hos hds (x := vl) rfl (wpAny_bind (wpAny_field hos hds (x := vu) rfl (wpAny_bind (wpAny_field hos hds (x := vs) rfl (wpAny_pure (wpAny_bind (HT.slicePart_ ps ?_)))))))))
  show wpAny _ _ (if ((-1 : Int) == 0) = true then _ else _) _ _ s
  rw [if_neg (by decide)]
  refine wpAny_bind (HT.slicePart_ pl (wpAny_bind (HT.slicePart_ pu (wpAny_bind (wpAny_pure ?_)))))
  have e1 := (back_adjust its.size).1
  have e2 := (back_adjust its.size).2
  show wpAny _ _ (pure ((Builtin.Slice.sliceAdjust none (some 0) (-1) (its.size : Int)).1, (-1 : Int), Builtin.Slice.slicePlaces (Builtin.Slice.sliceAdjust none (some 0) (-1) (its.size : Int)).1 (Builtin.Slice.sliceAdjust none (some 0) (-1) (its.size : Int)).2 (-1))) _ _ s
  rw [e1, e2]
  refine wpAny_pure ?_
  have no : ¬ ((((its.size : Nat) : Int) - 1 == 0 && (-1 : Int) == 1 && (its.size - 1) == its.size) = true) := by
    rw [show ((-1 : Int) == 1) = false by decide]; simp
  show wpAny _ _ (if ((((its.size : Nat) : Int) - 1 == 0 && (-1 : Int) == 1 && (its.size - 1) == its.size) = true) then _ else _) _ _ s
  rw [if_neg no, back_pick]
  first
    | exact wpAny_bind (m := Builtin.Tuple.tupleExact _) (wpAny_newObj_type (wpAny_pure ⟨_, rfl, wpAny_pure h⟩) hfit)
    | exact wpAny_bind (wpAny_bind (m := Builtin.Tuple.tupleExact _) (wpAny_newObj_type (wpAny_pure ⟨_, rfl, wpAny_pure h⟩) hfit))
    | exact wpAny_bind (wpAny_bind (m := Builtin.Tuple.tupleExact _) (wpAny_newObj_type (wpAny_pure (wpAny_pure ⟨_, rfl, wpAny_pure h⟩)) hfit))
end
def tBack (K : PySem.W.Frag) (te : TE) : TE := fun σ H Q => te σ H fun x H1 => ∃ a xs, x = .ref a ∧ SqT K H1 a xs ∧ ∀ p, H1 p = none → Q (.ref p) (upd H1 p (.tup (xs.drop 1).reverse))
section
variable {X : Cx}
theorem pe_back {e : Expr} {te : TE} {k k0 : Nat} {p0 p1 p2 p3 pos : Pos} (he : PE X e te) : PE X (.Subscript e (.Slice none (some (.Constant (.int 0) k0 p0)) (some (.UnaryOp .USub (.Constant (.int 1) k p1) p2)) p3) pos) (tBack X.K te) := by
  refine ⟨fun pins s σ H Q I h => ?_⟩
  refine Subscript_ (thn (he.run pins s σ H _ I h) fun v s1 ⟨x, H1, I1, r1, q1⟩ => ?_)
  obtain ⟨a, xs, ex, hx, q⟩ := q1
  subst ex
  cases r1
  have hup : PO X (some (.Constant (.int 0) k0 p0)) (tPart (tC (.int 0))) := po_some pe_int
  have hst : PO X (some (.UnaryOp .USub (.Constant (.int 1) k p1) p2)) (tPart (tUn (rU fun i => .int (-i)) (tC (.int 1)))) := po_some (pe_un un_neg pe_int)
  refine wpAny_Slice (thn (po_none.run pins s1 σ H1 (fun o H2 => o = none ∧ H2 = H1) I1 ⟨rfl, rfl⟩) fun vl s2 ⟨l, H2, I2, pl, el, e2⟩ => ?_)
  subst el e2
  refine thn (hup.run pins s2 σ H2 (fun o H3 => o = some 0 ∧ H3 = H2) I2 ⟨0, rfl, rfl, rfl⟩) fun vu s3 ⟨u, H3, I3, pu, eu, e3⟩ => ?_
  subst eu e3
  refine thn (hst.run pins s3 σ H3 (fun o H4 => o = some (-1) ∧ H4 = H3) I3 ⟨1, rfl, -1, rfl, rfl, rfl⟩) fun vs s4 ⟨o, H4, I4, ps, eo, e4⟩ => ?_
  subst eo e4
  have I5 : Inv X pins σ H4 { s4 with heap := s4.heap.push { cls := .type "slice", data := .fields #[vl, vu, vs] } } := I4.kept (t' := s4.toks) fun b ob q => Heap.get?_push_of_some _ q
  obtain ⟨its, r, ht, hz⟩ := I5.tuple hx
  have hlen := r.length
  show wpAny (model X.prog X.w) X.A (subscriptTail e (.Slice none (some (.Constant (.int 0) k0 p0)) (some (.UnaryOp .USub (.Constant (.int 1) k p1) p2)) p3) (.ref a) (.ref s4.heap.objs.size)) (EP X pins σ Q) X.xe { s4 with heap := s4.heap.push { cls := .type "slice", data := .fields #[vl, vu, vs] } }
  refine tail_any (ops := [.ref a, .ref s4.heap.objs.size]) ht.typeIs (PyProof.Rows.slot_tuple_getitem.lookup) ?_ (by with_unfolding_all rfl)
  refine back_item ht (Heap.IsSliceOf.new _ vl vu vs) pl pu ps ?_ (by rw [List.size_toArray]; omega)
  refine ⟨.ref _, _, I5.laid (t' := s4.toks) (o := .tup (xs.drop 1).reverse) (fun b ob q => Heap.get?_push_of_some _ q) (Nat.le_refl _) ?_, rfl, q _ (I5.hok.fresh (Nat.le_refl _))⟩
  exact ⟨by rw [List.length_reverse, List.length_drop]; omega, _, (Vals.drop 1 r).reverse, ⟨_, Heap.get?_push_size _ rfl, rfl, _, rfl⟩⟩
end
end Gn
set_option Elab.async false
set_option linter.all false
set_option maxRecDepth 100000
set_option maxHeartbeats 4000000
namespace Gn
open PySem PySem.Spec PyProof.Rows L2
/-- a def's promise where no repr runs around (the guards are known to be none) -/
structure FnG (P : Program) (w : World) (K : PySem.W.Frag) (mg : Str → Option Value) (base : Heap) (CX : CXT) (k : Nat) (f : Addr) (fd : FuncData) (ps : List Str) (sp : Sp) : Prop where
  len : ∀ vs H Q E, sp vs H Q E → vs.length = ps.length
  run : ∀ (A : Around) (outer : List Env) (s : Shared) (H : Hp) (args : Args) (us : List Value) (vs : List V) (Q : VK) (E : XK), A.guards = some [] → Room k A → Env0 P w K mg base A outer s H → BindsTo s fd args (ps.zip us) → Vals vs us → sp vs H Q E →
    codeAny (model P w) A (.call (.ref f) args) (CR CX outer P w H s Q E) s
section
variable {P : Program} {w : World} {K : PySem.W.Frag} {mg : Str → Option Value} {base : Heap}
theorem FnG.of {CX : CXT} {k : Nat} {f : Addr} {fd : FuncData} {ps : List Str} {sp : Sp} (F : FnOk P w K mg base CX k f fd ps sp) : FnG P w K mg base CX k f fd ps sp := ⟨F.len, fun A o s H a us vs Q E _ => F.run A o s H a us vs Q E⟩
theorem funG {CX : CXT} {x qual : Str} {st : Stmt} {f : Addr} {fd : FuncData} {N ps : List Str} {k : Nat} {sp : Sp} (F : Fun K x qual st f fd) (S : FnScope N ps (defScope st)) (len : ∀ vs H Q E, sp vs H Q E → vs.length = ps.length)
    (hbody : ∀ (cdv : Value) (A : Around) (outer : List Env) (s : Shared) (H : Hp) (vs : List V) (Q : VK) (E : XK), (A.deeper (envOfC qual (defScope st) s.heap.objs.size f cdv)).guards = some [] → Room k (A.deeper (envOfC qual (defScope st) s.heap.objs.size f cdv)) → sp vs H Q E →
      ∃ t, PSs (cxOf CX P w K mg base N qual (defScope st) f cdv A outer s H E) (defBody st) t ∧ t { nx := fun _ H' => Q .non H', rt := Q } (start N vs) H) : FnG P w K mg base CX (k + 1) f fd ps sp := by
  obtain ⟨oc, od, kV, doc, pm, an, cdv, ct, osl, rfl, lk, hcd⟩ := F.ex
  refine ⟨len, fun A outer s H args us vs Q E hg hr e0 hb r hsp => ?_⟩
  have KX : K.In s.heap := e0.mod.kin.keeps fun b o e => (e0.bs b o e).1
  have hkind : ∀ y ∈ ps.zip us, (defScope st).names.lookup y.1 = some .local ∨ ((defScope st).names.lookup y.1 = some .cell ∧ ((cellsFrom (s.heap.objs.size + 1) (defScope st).names []).lookup y.1).isSome = true) := fun y hy =>
    (S.par y.1 (List.of_mem_zip hy).1).elim .inl fun q => .inr ⟨q, PySem.W.cellsFrom_some _ _ _ (.inl q)⟩
  refine codeAny_call_function hr.depth (KX _ _ lk) rfl S.co S.gen rfl (PySem.W.codeRec_of KX hcd) (hb _ _ _ _ (wpAny_newFunctionEnv_cells S.kind hkind fun env he s1 x => ?_))
  subst he
  refine ⟨(e0.mod.nolimit.keeps fun b o e => (e0.bs b o e).1).keeps x.toInCall.keep, codeAny_func ?_⟩
  obtain ⟨t, ht, hq⟩ := hbody cdv A outer s H vs Q E hg (hr.deeper _) hsp
  have I : Inv (cxOf CX P w K mg base N qual (defScope st) f cdv A outer s H E) [] (start N vs) H s1 := inv_start S hr.hd e0 (len _ _ _ _ hsp) r x
  refine wpAny_mono (ht.run [] s1 (start N vs) H _ I hq) (fun fl s' hs => ?_) fun _ _ hs => hs
  cases fl with
  | ret u => obtain ⟨v, σ', H', J, rv, q⟩ := hs; exact ⟨v, H', J.os, J.bare, J.base, J.hok, rv, q⟩
  | next => obtain ⟨σ', H', J, q⟩ := hs; exact ⟨V.non, H', J.os, J.bare, J.base, J.hok, rfl, q⟩
  | brk => obtain ⟨_, _, _, q⟩ := hs; exact False.elim q
  | cont => obtain ⟨_, _, _, q⟩ := hs; exact False.elim q
/-- as Fun.ok: nothing leaves the def -/
theorem funG0 {x qual : Str} {st : Stmt} {f : Addr} {fd : FuncData} {N ps : List Str} {k : Nat} {sp : Sp} (F : Fun K x qual st f fd) (S : FnScope N ps (defScope st)) (len : ∀ vs H Q E, sp vs H Q E → vs.length = ps.length)
    (hbody : ∀ (cdv : Value) (A : Around) (outer : List Env) (s : Shared) (H : Hp) (vs : List V) (Q : VK) (E : XK), (A.deeper (envOfC qual (defScope st) s.heap.objs.size f cdv)).guards = some [] → Room k (A.deeper (envOfC qual (defScope st) s.heap.objs.size f cdv)) → sp vs H Q E →
      ∃ t, PSs (cxOf CX0 P w K mg base N qual (defScope st) f cdv A outer s H E).nox (defBody st) t ∧ t { nx := fun _ H' => Q .non H', rt := Q } (start N vs) H) : FnG P w K mg base CX0 (k + 1) f fd ps sp :=
  funG F S len fun cdv A outer s H vs Q E hg hr hsp => by
    obtain ⟨t, h, q⟩ := hbody cdv A outer s H vs Q E hg hr hsp
    exact ⟨t, h.nox, q⟩
end
section
variable {X : Cx} {CX : CXT} {k : Nat} {f : Addr} {fd : FuncData} {ps ks : List Str} {sp : Sp} {dvs : List V} {ds : List Value} {E : XK} {x : Str} {p pos : Pos} {e : Expr} {es : List Expr} {kws : List Keyword} {t tk : TA}
theorem back_of {pins : List (Addr × Obj)} {σ : L2.St} {H : Hp} {s s' : Shared} {Q : VK} (hx : Passes CX X E) (I : Inv X pins σ H s) {r : Result} (h : CR CX X.stack X.prog X.w H s Q E r s') :
    match r with | .ok (.ret u) => EP X pins σ Q u s' | .ok _ => False | .error e => X.xe e s' := by
  cases r with
  | error e => exact hx pins σ H s e s' I h
  | ok fl => cases fl with
    | ret u => exact I.after h
    | next => exact h
    | brk => exact h
    | cont => exact h
theorem run_fnG {pins : List (Addr × Obj)} {σ : L2.St} {H : Hp} {s : Shared} {Q : VK} {us : List Value} {vs : List V} (F : FnG X.prog X.w X.K X.mg X.base CX k f fd ps sp) (hg : X.A.guards = some []) (hr : Room k X.A) (hb : Binds X.K fd ps ds) (hd : Vals dvs ds) (hx : Passes CX X E)
    (I : Inv X pins σ H s) (r : Vals vs us) (h : sp (vs ++ dvs) H Q E) : wpAny (model X.prog X.w) X.A (call (.ref f) us) (EP X pins σ Q) X.xe s := by
  have r2 : Vals (vs ++ dvs) (us ++ ds) := r.append hd
  refine wpAny_call (codeAny_mono (F.run X.A X.stack s H ⟨us, []⟩ (us ++ ds) (vs ++ dvs) Q E hg hr I.env0 (hb s us I.kIn (by rw [← r2.length]; exact F.len _ _ _ _ h)) r2 h) fun r s' hq => ?_)
  have z := back_of hx I hq
  cases r with
  | error e => exact z
  | ok fl => cases fl with
    | ret u => exact z
    | next => exact z.elim
    | brk => exact z.elim
    | cont => exact z.elim
theorem pe_callG (F : FnG X.prog X.w X.K X.mg X.base CX k f fd ps sp) (hgu : X.A.guards = some []) (hr : Room k X.A) (hg : Gl X x) (hm : X.mg x = some (.ref f)) (hk : PySem.W.keepIn X.K (.ref f) = true) (hb : Binds X.K fd ps ds) (hd : Vals dvs ds) (hx : Passes CX X E)
    (ha : PA X (e :: es) t) (hdb : (x == ("__debug__" : Str)) = false := by decide) (he : starEach (e :: es) X.env = (false, eval e X.env) :: starEach es X.env := by rfl) (hpl : (backTo pos (starEach es X.env)).any (·.1) = false := by rfl) :
    PE X (.Call (.Name x p) (e :: es) [] pos) (tCall sp dvs E t) := ⟨fun pins s σ H Q I h =>
  wpAny_Call_Name_kw (ld_glob I hg hm (PySem.W.callWith_K (h₀ := X.base) I.ok.mod.kin hk (thn (ha.run pos pins s σ H _ I h) fun us s1 ⟨vs, H1, I1, r, q⟩ => ⟨I1.kIn, run_fnG F hgu hr hb hd hx I1 r q⟩) he hpl) hdb)⟩
end
/-! the end of a law -/
section
variable {P : Program} {w : World} {K : PySem.W.Frag} {mg mb : Str → Option Value}
theorem lawG {CX : CXT} {k : Nat} {fa a : Addr} {fd : FuncData} {x : Str} {sp : Sp} {s₁ : Shared} {vs : List Value} {ns : List Int}
    (KX : K.In s₁.heap) (hns : s₁.heap.Ns mainGlobals mg) (hb : s₁.heap.Ns builtinsNs mb) (hbb : ∀ x : Str, x ≠ "__name__" → mb x = bootBuiltins x) (hlim : s₁.heap.NoLimit) (hg : s₁.gens = #[])
    (ha : s₁.heap.get? a = some { cls := .type "list", data := .seq vs.toArray }) (hi : IntsAre vs ns) (hl : ns.length ≤ sizeLine) (hr : Room k callerA)
    (F : ∀ base : Heap, K.In base → base.Ns mainGlobals mg → FnG P w K mg base CX k fa fd [x] sp) (hbind : ∀ (s : Shared) (u : Value), BindsTo s fd ⟨[u], []⟩ [(x, u)])
    (hsp : ∀ H : Hp, Only H → SqL K H a (ns.map V.int) → sp [.ref a] H (fun v _ => v = .bl true) fun _ _ _ => False) (hCX : ∀ H e s', CX [] H s₁ (fun _ _ _ => False) e s' → False) :
    codeAny (model P w) callerA (.call (.ref fa) ⟨[.ref a], []⟩) (fun r s' => r = .ok (.ret (.bool true)) ∧ OldK s₁.heap s'.heap ∧ s'.os = s₁.os ∧ AllBare s'.gens) s₁ := by
  have rv := vals_ints hi
  have main : ∀ H : Hp, Only H → SqL K H a (ns.map V.int) → HOk P w H s₁.heap → (∀ b, H b ≠ none → b = a ∧ K.lookup a = none) →
      codeAny (model P w) callerA (.call (.ref fa) ⟨[.ref a], []⟩) (fun r s' => r = .ok (.ret (.bool true)) ∧ OldK s₁.heap s'.heap ∧ s'.os = s₁.os ∧ AllBare s'.gens) s₁ := by
    intro H hO hS hok hA
    have untr : ∀ {b : Addr}, b ≠ a ∨ K.lookup a ≠ none → H b = none := fun {b} h => by
      cases q : H b with
      | none => rfl
      | some u => have z := hA b (by rw [q]; simp); exact (h.elim (fun n => n z.1) fun n => n z.2).elim
    have ns_of : ∀ {b : Addr} {m : Str → Option Value}, s₁.heap.Ns b m → (hidT s₁.heap H).Ns b m := fun {b m} ⟨o, es, ep, e, d, r⟩ => ⟨o, es, ep, hidT_get e (untr (.inl fun z => by
      subst z
      rw [ha] at e
      cases e
      exact absurd (show Data.seq vs.toArray _ = Data.dict es ep from d) (fun z => by cases z))), d, r⟩
    have kb : K.In (hidT s₁.heap H) := fun b o e => hidT_get (KX b o e) (by
      by_cases z : b = a
      · exact untr (.inr fun y => by subst z; rw [y] at e; cases e)
      · exact untr (.inl z))
    have md : Mod K mg (hidT s₁.heap H) := ⟨kb, ns_of hns, ⟨mb, ns_of hb, hbb⟩, let ⟨mc, h1, h2⟩ := hlim; ⟨mc, ns_of h1, h2⟩⟩
    have e0 : Env0 P w K mg (hidT s₁.heap H) callerA [] s₁ H := ⟨rfl, md, fun b o e => of_hidT e, Nat.le_of_eq (hidT_size _ _), trivial, fun b hb => absurd (show b ∈ ([] : List Addr) from hb) (by simp), hok, .of_eq hg⟩
    refine codeAny_mono ((F _ kb (ns_of hns)).run callerA [] s₁ H ⟨[.ref a], []⟩ [.ref a] [.ref a] _ _ rfl hr e0 (hbind s₁ (.ref a)) (.cons rfl .nil) (hsp H hO hS)) fun r s' h => ?_
    cases r with
    | error e => exact (hCX H e s' h).elim
    | ok fl => cases fl with
      | next => exact False.elim h
      | brk => exact False.elim h
      | cont => exact False.elim h
      | ret u =>
        obtain ⟨v, H', os, bare, un, hok', r', q⟩ := h
        obtain rfl : v = .bl true := q
        obtain rfl : u = Value.bool true := r'
        refine ⟨rfl, OldK.of_keep fun b o e => ?_, os, bare⟩
        rcases hO b with z | ⟨ob, xs, z⟩
        · exact un.keep b o e z (fun y => nomatch y) (fun y => nomatch y)
        · obtain ⟨e1, _⟩ := hok b _ z
          obtain ⟨e2, _⟩ := hok' b _ (un.frzs b ob _ z)
          exact e2.trans (e1.symm.trans e)
  cases hk : K.lookup a with
  | some o =>
    have e := KX a o hk
    rw [ha] at e
    cases e
    exact main (fun _ => none) (fun _ => .inl rfl) (.inr ⟨_, vs.toArray, _, hk, rfl, rfl, rfl, by rw [List.size_toArray, hi.length]; exact hl, by simpa using rv⟩) (fun b u z => by cases (show (none : Option HO) = some u from z)) fun b z => absurd rfl z
  | none =>
    have at_ : ∀ {b : Addr} {u : HO}, (if b = a then some (HO.frz { cls := .type "list", data := .seq vs.toArray } (.lst (ns.map V.int))) else none) = some u → b = a ∧ u = .frz { cls := .type "list", data := .seq vs.toArray } (.lst (ns.map V.int)) := fun {b u} z => by
      by_cases y : b = a
      · rw [if_pos y] at z; exact ⟨y, (Option.some.inj z).symm⟩
      · rw [if_neg y] at z; cases z
    refine main (fun b => if b = a then some (.frz { cls := .type "list", data := .seq vs.toArray } (.lst (ns.map V.int))) else none) (fun b => ?_) (.inl (.inr ⟨{ cls := .type "list", data := .seq vs.toArray }, if_pos rfl⟩)) (fun b u z => ?_) fun b z => ⟨?_, hk⟩
    · by_cases y : b = a
      · exact .inr ⟨_, _, if_pos y⟩
      · exact .inl (if_neg y)
    · obtain ⟨rfl, rfl⟩ := at_ z
      exact ⟨ha, by rw [List.length_map]; exact hl, vs, _, rv, ha⟩
    · by_cases y : b = a
      · exact y
      · exact absurd (if_neg y) z
theorem walkG {l : PySem.W.OpenLaw} {n k : Nat} {q : Program} {loose : List Str} {XP : (Str → Option Value) → Heap → Prop} {YP : World → Heap → Prop} {d : DefRec} {K : Params → PySem.W.Frag} {CX : World → CXT} {sp : World → Sp} {x : Str}
    (hn : l.most = some n) (hn2 : n ≤ sizeLine) (hdf : d.params.defaults = []) (hr : Room k callerA) (hY : ∀ (w : World) (h : Heap), YP w h → (K w.params).In h)
    (F : ∀ (w : World) (mg : Str → Option Value) (fa : Addr) (h : Heap), (K w.params).In h → h.Ns mainGlobals mg → mg d.name = some (.ref fa) →
      ∃ fd : FuncData, (∀ (s : Shared) (u : Value), BindsTo s fd ⟨[u], []⟩ [(x, u)]) ∧ ∀ base : Heap, (K w.params).In base → base.Ns mainGlobals mg → FnG l.prog w (K w.params) mg base (CX w) k fa fd [x] (sp w))
    (hsp : ∀ (w : World) (H : Hp) (a : Addr) (ns : List Int), ns.length ≤ n → Only H → SqL (K w.params) H a (ns.map V.int) → sp w [.ref a] H (fun v _ => v = .bl true) fun _ _ _ => False)
    (hCX : ∀ (w : World) (H : Hp) (s : Shared) (e : Value) (s' : Shared), CX w [] H s (fun _ _ _ => False) e s' → False) : PySem.W.WalkO q loose XP YP l.row.toRowW d [] (fun f vs => PySem.call f vs) :=
  Att.attach_call hn hdf fun w s₀ s₁ mg mb fa o pm cd doc a vs ns G Y ho hd hcd hmg hobj hints hlen hg => by
    obtain ⟨fd, hb, hF⟩ := F w mg fa _ (hY w _ Y) G.T.g hmg
    exact lawG (hY w _ Y) G.T.g G.T.b G.T.builtins G.T.nolimit hg hobj hints (Nat.le_trans hlen hn2) hr hF hb (fun H hO hS => hsp w H a ns hlen hO hS) fun H e s' => hCX w H s₁ e s'
end
end Gn
set_option Elab.async false
set_option linter.all false
set_option maxRecDepth 100000
set_option maxHeartbeats 4000000
namespace Gn
open PySem PySem.Spec PyProof.Rows L2
section
variable {X : Cx} {CX : CXT} {k : Nat} {f : Addr} {fd : FuncData} {ps ks : List Str} {sp : Sp} {E : XK} {x : Str} {p pos : Pos} {kws : List Keyword} {tk : TA} {g : List Value → List Value → List Value} {gV : List V → List V → List V}
/-- f(k = v, ..): keywords alone -/
theorem pe_callK0 (F : FnOk X.prog X.w X.K X.mg X.base CX k f fd ps sp) (hr : Room k X.A) (hg : Gl X x) (hm : X.mg x = some (.ref f)) (hk : PySem.W.keepIn X.K (.ref f) = true) (hb : KBinds X.K fd ps ks g gV) (hx : Passes CX X E) (hkw : PK X kws tk)
    (hall : (backToKw pos (keywordEach kws X.env)).all (·.1.isSome) = true := by rfl) (hks : (backToKw pos (keywordEach kws X.env)).filterMap (·.1) = ks := by rfl) (hdb : (x == ("__debug__" : Str)) = false := by decide)
    (hpl : ((backTo pos (starEach [] X.env)).any (·.1) || (backToKw pos (keywordEach kws X.env)).any (·.1.isNone)) = false := by rfl) : PE X (.Call (.Name x p) [] kws pos) (tCallK sp gV E tNil tk) := ⟨fun pins s σ H Q I h =>
  wpAny_Call_Name_kw (ld_glob I hg hm (PySem.W.callWith_KW0 (h₀ := X.base) I.ok.mod.kin hk hall (thn (hkw.run pos pins s σ H _ I h) fun ws s2 ⟨zs, H2, I2, rz, q2⟩ => ⟨I2.kIn, by
    rw [hks]
    exact run_fnk (us := []) (vs := []) F hr hb hx I2 .nil rz q2⟩) hpl) hdb)⟩
end
/-! keywords in the parameters' order, and two the other way round -/
def kw1 {α : Type} : List α → List α → List α
  | [], [a] => [a]
  | _, _ => []
def kw2 {α : Type} : List α → List α → List α
  | [], [a, b] => [a, b]
  | _, _ => []
def kw2s {α : Type} : List α → List α → List α
  | [], [a, b] => [b, a]
  | _, _ => []
section
variable {K : PySem.W.Frag} {fd : FuncData} {ps ks : List Str}
theorem kb1 {p : Str} (h : ∀ a : Value, bindArgs fd ⟨[], [(p, a)]⟩ = pure [(p, a)]) : KBinds K fd [p] [p] kw1 kw1 :=
  ⟨fun s us ws _ hl => match us, ws, hl with
    | [], [a], _ => .of_eq (h a)
    | [], [], z => (nomatch z)
    | [], _ :: _ :: _, z => (nomatch z)
    | _ :: _, _, z => (nomatch z), fun {vs us zs ws} r rz => by
    cases r with
    | nil => cases rz with
      | nil => exact .nil
      | cons a b => cases b with
        | nil => exact .cons a .nil
        | cons _ _ => exact .nil
    | cons _ _ => exact .nil⟩
theorem kb2 {p q : Str} (h : ∀ a b : Value, bindArgs fd ⟨[], [(p, a), (q, b)]⟩ = pure [(p, a), (q, b)]) : KBinds K fd [p, q] [p, q] kw2 kw2 :=
  ⟨fun s us ws _ hl => match us, ws, hl with
    | [], [a, b], _ => .of_eq (h a b)
    | [], [], z => (nomatch z)
    | [], [_], z => (nomatch z)
    | [], _ :: _ :: _ :: _, z => (nomatch z)
    | _ :: _, _, z => (nomatch z), fun {vs us zs ws} r rz => by
    cases r with
    | nil => cases rz with
      | nil => exact .nil
      | cons a b => cases b with
        | nil => exact .nil
        | cons c d => cases d with
          | nil => exact .cons a (.cons c .nil)
          | cons _ _ => exact .nil
    | cons _ _ => exact .nil⟩
theorem kb2s {p q : Str} (h : ∀ a b : Value, bindArgs fd ⟨[], [(q, b), (p, a)]⟩ = pure [(p, a), (q, b)]) : KBinds K fd [p, q] [q, p] kw2s kw2s :=
  ⟨fun s us ws _ hl => match us, ws, hl with
    | [], [b, a], _ => .of_eq (h a b)
    | [], [], z => (nomatch z)
    | [], [_], z => (nomatch z)
    | [], _ :: _ :: _ :: _, z => (nomatch z)
    | _ :: _, _, z => (nomatch z), fun {vs us zs ws} r rz => by
    cases r with
    | nil => cases rz with
      | nil => exact .nil
      | cons a b => cases b with
        | nil => exact .nil
        | cons c d => cases d with
          | nil => exact .cons c (.cons a .nil)
          | cons _ _ => exact .nil
    | cons _ _ => exact .nil⟩
end
end Gn
namespace Gn
open PySem PySem.Spec PyProof.Rows L2
/-- a conditional expression whose two ways change nothing -/
theorem tif {c : Bool} {ta tb : TE} {σ : L2.St} {H : Hp} {Q : VK} (v1 v2 : V) (h1 : c = true → ∀ R : VK, R v1 H → ta σ H R) (h2 : c = false → ∀ R : VK, R v2 H → tb σ H R) (k : ∀ v, (c = true → v = v1) → (c = false → v = v2) → Q v H) : if c = true then ta σ H Q else tb σ H Q := by
  cases c with
  | true => exact iteT (h1 rfl Q (k v1 (fun _ => rfl) (fun z => nomatch z)))
  | false => exact iteF (h2 rfl Q (k v2 (fun z => nomatch z) (fun _ => rfl)))
theorem cut_mem {xs : List V} {lo hi : Option Int} {x : V} (h : x ∈ cutV xs lo hi) : x ∈ xs := by
  unfold cutV at h
  exact List.mem_of_mem_drop (List.mem_of_mem_take h)
theorem int_at {ns : List Int} {x : V} (h : x ∈ ns.map V.int) : ∃ z, x = V.int z := by
  obtain ⟨z, _, e⟩ := List.mem_map.mp h
  exact ⟨z, e.symm⟩
theorem same_put {H : Hp} {p : Addr} {o : HO} (h : H p = none) : Same H (upd H p o) := fun b x e => by
  rw [upd_ne (ne_of_none e h)]
  exact e
theorem fmod_ge {a b : Int} (h : 0 < b) : 0 ≤ a.fmod b := by
  rw [Int.fmod_eq_emod_of_nonneg _ (by omega)]; exact Int.emod_nonneg _ (by omega)
theorem fmod_lt {a b : Int} (h : 0 < b) : a.fmod b < b := by
  rw [Int.fmod_eq_emod_of_nonneg _ (by omega)]; exact Int.emod_lt_of_pos _ h
end Gn
set_option Elab.async false
set_option linter.all false
set_option maxRecDepth 100000
set_option maxHeartbeats 4000000
namespace Gn
open PySem PySem.Spec PyProof.Rows L2
/-- tuple(xs) of a list: a new tuple -/
def rTupL (K : PySem.W.Frag) : List V → Hp → VK → Prop := fun xs H Q => ∃ p ys, xs = [V.ref p] ∧ SqL K H p ys ∧ ∀ l, H l = none → Q (.ref l) (upd H l (.tup ys))
theorem cr_tupL {X : Cx} : CallR X (.type "tuple") (rTupL X.K) := by
  intro pins s σ H xs us Q I r h
  obtain ⟨p, ys, e, h1, h2⟩ := h
  exact call_tuple_of pins s σ H xs us Q I r ⟨p, ys, e, .inl ⟨h1, h2⟩⟩
end Gn
set_option Elab.async false
set_option linter.all false
set_option maxRecDepth 100000
set_option maxHeartbeats 4000000
namespace Gn
open PySem PySem.Spec PyProof.Rows L2
/-- small data: may be shown, may be compared; its text has at most c signs, its depth is at most e -/
structure Sm (c e : Nat) (d : PyData) : Prop where
  sh : d.showable = true
  ln : d.shown.length ≤ c
  dp : d.depth ≤ e
  cl : d.canLay0 = true
theorem sum_le {c : Nat} : ∀ {ts : List Str}, (∀ t ∈ ts, t.length ≤ c) → (ts.map (·.length)).sum ≤ ts.length * c
  | [], _ => by simp
  | t :: ts, h => by
    have h1 := h t List.mem_cons_self
    have h2 := sum_le fun x hx => h x (List.mem_cons_of_mem t hx)
    rw [List.map_cons, List.sum_cons, List.length_cons, Nat.succ_mul]
    omega
theorem Sm.all {c e : Nat} : ∀ {ds : List PyData}, (∀ d ∈ ds, Sm c e d) → PyData.showableAll ds = true ∧ (∀ t ∈ PyData.shownAll ds, t.length ≤ c) ∧ (PyData.shownAll ds).length = ds.length ∧ PyData.depthAll ds ≤ e ∧ PyData.canLayAll0 ds = true
  | [], _ => ⟨rfl, (fun t h => by simp [PyData.shownAll] at h), rfl, Nat.zero_le _, rfl⟩
  | d :: ds, h => by
    have a := h d List.mem_cons_self
    obtain ⟨b1, b2, b3, b4, b5⟩ := Sm.all fun x hx => h x (List.mem_cons_of_mem d hx)
    refine ⟨by simp only [PyData.showableAll, a.sh, b1, Bool.and_self], fun t ht => ?_, by simp only [PyData.shownAll, List.length_cons, b3], by simp only [PyData.depthAll]; exact Nat.max_le.mpr ⟨a.dp, b4⟩, by simp only [PyData.canLayAll0, a.cl, b5, Bool.and_self]⟩
    simp only [PyData.shownAll] at ht
    rcases List.mem_cons.mp ht with rfl | ht
    · exact a.ln
    · exact b2 t ht
theorem Sm.tup {c e n : Nat} {ds : List PyData} (h : ∀ d ∈ ds, Sm c e d) (hn : ds.length ≤ n) : Sm (n * (c + 2) + 3) (e + 1) (.tuple ds) := by
  obtain ⟨b1, b2, b3, b4, b5⟩ := Sm.all h
  refine ⟨by simpa only [PyData.showable] using b1, ?_, by simp only [PyData.depth]; omega, by simpa only [PyData.canLay0] using b5⟩
  simp only [PyData.shown]
  have z := tupleText_len_le (PyData.shownAll ds)
  have y := sum_le b2
  rw [b3] at z y
  have w := Nat.mul_le_mul_right (c + 2) hn
  rw [Nat.mul_add] at w
  omega
theorem Sm.lst {c e n : Nat} {ds : List PyData} (h : ∀ d ∈ ds, Sm c e d) (hn : ds.length ≤ n) : Sm (n * (c + 2) + 3) (e + 1) (.list ds) := by
  obtain ⟨b1, b2, b3, b4, b5⟩ := Sm.all h
  refine ⟨by simpa only [PyData.showable] using b1, ?_, by simp only [PyData.depth]; omega, by simpa only [PyData.canLay0] using b5⟩
  simp only [PyData.shown]
  have z := listText_len_le (PyData.shownAll ds)
  have y := sum_le b2
  rw [b3] at z y
  have w := Nat.mul_le_mul_right (c + 2) hn
  rw [Nat.mul_add] at w
  omega
theorem Sm.int {i : Int} (h : i.natAbs < 2 ^ 1000) : Sm 1921 0 (.int i) := by
  have hl : i.natAbs.log2 < 1920 := Nat.lt_trans (PySem.Flt.log2_lt_of (by decide) h) (by decide)
  exact ⟨by simp only [PyData.showable, hl, decide_true], by simp only [PyData.shown]; exact int_text_len_1921 hl, by simp only [PyData.depth]; exact Nat.le_refl 0, rfl⟩
theorem Sm.shaped {c e : Nat} {d : PyData} (h : Sm c e d) (he : e ≤ 64) : SeqAt.shaped d = true := by
  unfold SeqAt.shaped
  rw [h.cl, decide_eq_true (Nat.le_trans h.dp he)]; rfl
theorem Sm.ints {n : Nat} {ns : List Int} (h : ∀ i ∈ ns, i.natAbs < 2 ^ 1000) (hn : ns.length ≤ n) : Sm (n * 1923 + 3) 1 (.tuple (ns.map PyData.int)) :=
  Sm.tup (c := 1921) (e := 0) (fun d hd => by
    obtain ⟨i, hi, rfl⟩ := List.mem_map.mp hd
    exact Sm.int (h i hi)) (by rw [List.length_map]; exact hn)
end Gn
set_option Elab.async false
set_option linter.all false
set_option maxRecDepth 100000
set_option maxHeartbeats 4000000
namespace Gn
open PySem PySem.Spec PyProof.Rows L2
/-- a conditional expression whose two ways give the same data -/
theorem tIf_dp {tt : TT} {ta tb : TE} {σ : L2.St} {H : Hp} {Q : VK} {K : PySem.W.Frag} {d : PyData} (c : Bool) (ht : ∀ R : Bool → Hp → Prop, R c H → tt σ H R)
    (h1 : c = true → ∀ R : VK, (∀ v H', Same H H' → Dp K H' v d → R v H') → ta σ H R) (h2 : c = false → ∀ R : VK, (∀ v H', Same H H' → Dp K H' v d → R v H') → tb σ H R)
    (k : ∀ v H', Same H H' → Dp K H' v d → Q v H') : tIf tt ta tb σ H Q := by
  refine ht _ ?_
  cases c with
  | true => exact iteT (h1 rfl Q k)
  | false => exact iteF (h2 rfl Q k)
/-- t[lo:hi], whether it is all of t or not -/
theorem slA_of {K : PySem.W.Frag} {a : Addr} {xs : List V} {lo hi : Option Int} {H : Hp} {Q : VK} (h : SqT K H a xs) (k : ∀ b H', Same H H' → SqT K H' b (cutV xs lo hi) → Q (.ref b) H') : rSlA K (.ref a) lo hi H Q := by
  refine ⟨a, xs, rfl, h, fun hw => k a H (Same.refl H) ?_, fun _ p hp => k p _ (same_put hp) (SqT.of upd_same)⟩
  have e : cutV xs lo hi = xs := by
    unfold cutV
    rw [hw.1, hw.2, List.drop_zero, Nat.sub_zero, List.take_length]
  rw [e]; exact h
/-- t + u, whether one of them is empty or not -/
theorem catA_of {K : PySem.W.Frag} {a b : Addr} {xs ys : List V} {H : Hp} {Q : VK} (h1 : SqT K H a xs) (h2 : SqT K H b ys) (hz : xs.length + ys.length ≤ sizeLine) (k : ∀ c H', Same H H' → SqT K H' c (xs ++ ys) → Q (.ref c) H') : rCatA K (.ref a) (.ref b) H Q := by
  refine ⟨a, b, xs, ys, rfl, rfl, h1, h2, hz, fun e => k b H (Same.refl H) ?_, fun _ e => k a H (Same.refl H) ?_, fun _ _ p hp => k p _ (same_put hp) (SqT.of upd_same)⟩
  · rw [e]; exact h2
  · rw [e, List.append_nil]; exact h1
theorem cut_one (xs : List V) : cutV xs none (some 1) = xs.take 1 := by
  unfold cutV
  rw [show HT.sIx xs.length 0 none = 0 from HT.sIx_none .., show HT.sIx xs.length xs.length (some 1) = min 1 xs.length from HT.sIx_nat xs.length xs.length 1, List.drop_zero, Nat.sub_zero]
  cases xs with
  | nil => rfl
  | cons x r => rw [show min 1 (x :: r).length = 1 by rw [List.length_cons]; omega]
/-- keywords of a def of the text -/
theorem kwOf1 {K : PySem.W.Frag} {x qual : Str} {st : Stmt} {f : Addr} {fd : FuncData} {p : Str} (F : Fun K x qual st f fd)
    (h : ∀ (kV doc pm : Value) (an : Option Addr) (cdv ct a : Value), bindArgs (PySem.W.fnOf x qual (defArgs st) (defBody st) (defScope st) .none kV doc pm an cdv ct) ⟨[], [(p, a)]⟩ = pure [(p, a)]) : KBinds K fd [p] [p] kw1 kw1 := by
  obtain ⟨oc, od, kV, doc, pm, an, cdv, ct, osl, rfl, lk, hcd⟩ := F.ex
  exact kb1 fun a => h kV doc pm an cdv ct a
theorem kwOf2 {K : PySem.W.Frag} {x qual : Str} {st : Stmt} {f : Addr} {fd : FuncData} {p q : Str} (F : Fun K x qual st f fd)
    (h : ∀ (kV doc pm : Value) (an : Option Addr) (cdv ct a b : Value), bindArgs (PySem.W.fnOf x qual (defArgs st) (defBody st) (defScope st) .none kV doc pm an cdv ct) ⟨[], [(p, a), (q, b)]⟩ = pure [(p, a), (q, b)]) : KBinds K fd [p, q] [p, q] kw2 kw2 := by
  obtain ⟨oc, od, kV, doc, pm, an, cdv, ct, osl, rfl, lk, hcd⟩ := F.ex
  exact kb2 fun a b => h kV doc pm an cdv ct a b
theorem kwOf2s {K : PySem.W.Frag} {x qual : Str} {st : Stmt} {f : Addr} {fd : FuncData} {p q : Str} (F : Fun K x qual st f fd)
    (h : ∀ (kV doc pm : Value) (an : Option Addr) (cdv ct a b : Value), bindArgs (PySem.W.fnOf x qual (defArgs st) (defBody st) (defScope st) .none kV doc pm an cdv ct) ⟨[], [(q, b), (p, a)]⟩ = pure [(p, a), (q, b)]) : KBinds K fd [p, q] [q, p] kw2s kw2s := by
  obtain ⟨oc, od, kV, doc, pm, an, cdv, ct, osl, rfl, lk, hcd⟩ := F.ex
  exact kb2s fun a b => h kV doc pm an cdv ct a b
end Gn
set_option Elab.async false
set_option linter.all false
set_option maxRecDepth 100000
set_option maxHeartbeats 4000000
namespace Gn
open PySem PySem.Spec PyProof.Rows L2
/-- for x in reversed(xs): what holds behind i turns -/
theorem for_rv {K : PySem.W.Frag} {a : Addr} {xs : List V} {g : TG} {tb : TS} {D : Ends} {σ : L2.St} {H : Hp} (Pv : Nat → L2.St → Hp → Prop) (h0 : Pv 0 σ H) (hl : ∀ i σ H, i ≤ xs.length → Pv i σ H → SqL K H a xs)
    (hs : ∀ i x σ H, i < xs.length → xs[xs.length - 1 - i]? = some x → Pv i σ H → g x σ H fun σ2 H2 => tb { D with nx := Pv (i + 1), ct := Pv (i + 1), bk := D.nx } σ2 H2) (hd : ∀ σ H, Pv xs.length σ H → D.nx σ H) :
    ∃ W : Nat → Nat → L2.St → Hp → Prop, (∃ m, W 0 m σ H) ∧ ∀ i m σ H, W i m σ H →
      ((Itv K a xs.length).stop i H ∧ D.nx σ H) ∨ ((Itv K a xs.length).go i H ∧ ∃ N : L2.St → Hp → Prop, (∀ σ' H', N σ' H' → ∃ m', m' < m ∧ W (i + 1) m' σ' H') ∧ ∀ x H', (Itv K a xs.length).yld i H x H' → g x σ H' fun σ2 H2 => tb { D with nx := N, ct := N, bk := D.nx } σ2 H2) := by
  refine ⟨fun i m σ H => m = xs.length - i ∧ i ≤ xs.length ∧ Pv i σ H, ⟨xs.length, by simp, Nat.zero_le _, h0⟩, fun i m σ H ⟨em, hi, p⟩ => ?_⟩
  subst em
  have q := hl i σ H hi p
  rcases Nat.lt_or_ge i xs.length with c | c
  · have c2 : xs.length - 1 - i < xs.length := by omega
    refine .inr ⟨⟨c, xs, xs[xs.length - 1 - i], q, List.getElem?_eq_getElem c2⟩, Pv (i + 1), fun σ' H' p' => ⟨xs.length - (i + 1), by omega, rfl, c, p'⟩, fun x H' y => ?_⟩
    obtain ⟨rfl, y⟩ := y
    exact hs i x σ _ c (y xs q) p
  · obtain rfl : i = xs.length := by omega
    exact .inl ⟨Nat.le_refl _, hd σ H p⟩
end Gn
namespace Gn
open PySem PySem.Spec PyProof.Rows L2
/-- a test and a second one, their answers as one -/
theorem and_join {c : Bool} {t : TT} {σ : L2.St} {H : Hp} {Q : Bool → Hp → Prop} (e : Bool) (h1 : c = true → ∀ R : Bool → Hp → Prop, R e H → t σ H R) (h2 : c = false → e = false) (k : Q e H) : if c = true then t σ H Q else Q false H := by
  cases c with
  | true => exact iteT (h1 rfl Q k)
  | false => rw [h2 rfl] at k; exact iteF k
end Gn
set_option Elab.async false
set_option maxRecDepth 100000
/-! orders as lists: places sorted, marks at one place together. Plain lists of ints -/
namespace Mt
def insU (v : Int) : List Int → List Int
  | [] => [v]
  | a :: l => if v < a then v :: a :: l else if v = a then a :: l else a :: insU v l
/-- sorted, each once -/
def sortU (l : List Int) : List Int := l.foldr insU []
theorem insU_mem {v u : Int} : ∀ {l : List Int}, u ∈ insU v l ↔ u = v ∨ u ∈ l
  | [] => by simp [insU]
  | a :: l => by
    unfold insU
    split
    · simp
    · split
      · rename_i h1 h2
        subst h2
        simp
      · simp only [List.mem_cons, insU_mem (l := l)]
        constructor
        · rintro (h | h | h)
          · exact .inr (.inl h)
          · exact .inl h
          · exact .inr (.inr h)
        · rintro (h | h | h)
          · exact .inr (.inl h)
          · exact .inl h
          · exact .inr (.inr h)
theorem insU_pw {v : Int} : ∀ {l : List Int}, l.Pairwise (· < ·) → (insU v l).Pairwise (· < ·)
  | [], _ => by simp [insU]
  | a :: l, h => by
    obtain ⟨h1, h2⟩ := List.pairwise_cons.mp h
    unfold insU
    split
    · rename_i c
      refine List.pairwise_cons.mpr ⟨fun b hb => ?_, h⟩
      rcases List.mem_cons.mp hb with rfl | hb
      · exact c
      · exact Int.lt_trans c (h1 b hb)
    · split
      · exact h
      · rename_i c d
        refine List.pairwise_cons.mpr ⟨fun b hb => ?_, insU_pw h2⟩
        rcases insU_mem.mp hb with rfl | hb
        · omega
        · exact h1 b hb
theorem sortU_mem {v : Int} : ∀ {l : List Int}, v ∈ sortU l ↔ v ∈ l
  | [] => by simp [sortU]
  | a :: l => by
    show v ∈ insU a (sortU l) ↔ _
    rw [insU_mem, sortU_mem, List.mem_cons]
theorem sortU_pw : ∀ l : List Int, (sortU l).Pairwise (· < ·)
  | [] => List.Pairwise.nil
  | a :: l => insU_pw (sortU_pw l)
/-- a strictly rising list is told by its members -/
theorem strict_one : ∀ {l m : List Int}, l.Pairwise (· < ·) → m.Pairwise (· < ·) → (∀ v, v ∈ l ↔ v ∈ m) → l = m
  | [], [], _, _, _ => rfl
  | [], b :: m, _, _, h => by have := (h b).mpr List.mem_cons_self; simp at this
  | a :: l, [], _, _, h => by have := (h a).mp List.mem_cons_self; simp at this
  | a :: l, b :: m, h1, h2, h => by
    obtain ⟨p1, q1⟩ := List.pairwise_cons.mp h1
    obtain ⟨p2, q2⟩ := List.pairwise_cons.mp h2
    have e : a = b := by
      rcases List.mem_cons.mp ((h a).mp List.mem_cons_self) with x | x
      · exact x
      · rcases List.mem_cons.mp ((h b).mpr List.mem_cons_self) with y | y
        · exact y.symm
        · have := p2 a x; have := p1 b y; omega
    subst e
    have : l = m := strict_one q1 q2 fun v => by
      constructor
      · intro hv
        rcases List.mem_cons.mp ((h v).mp (List.mem_cons_of_mem _ hv)) with x | x
        · subst x; have := p1 v hv; omega
        · exact x
      · intro hv
        rcases List.mem_cons.mp ((h v).mpr (List.mem_cons_of_mem _ hv)) with x | x
        · subst x; have := p2 v hv; omega
        · exact x
    rw [this]
theorem le_nodup_lt {l : List Int} (h : l.Pairwise (· ≤ ·)) (n : l.Nodup) : l.Pairwise (· < ·) := by
  induction l with
  | nil => exact .nil
  | cons a l ih =>
    obtain ⟨p, q⟩ := List.pairwise_cons.mp h
    obtain ⟨r, s⟩ := List.nodup_cons.mp n
    refine List.pairwise_cons.mpr ⟨fun b hb => ?_, ih q s⟩
    have h1 := p b hb
    have h2 : a ≠ b := fun e => r (by rw [e]; exact hb)
    omega
/-- a rising list is told by what it is a permutation of -/
theorem le_one : ∀ {l m : List Int}, l.Pairwise (· ≤ ·) → m.Pairwise (· ≤ ·) → l.Perm m → l = m
  | [], m, _, _, h => by rw [List.nil_perm] at h; exact h.symm
  | a :: l, [], _, _, h => by have := h.length_eq; simp at this
  | a :: l, b :: m, h1, h2, h => by
    obtain ⟨p1, q1⟩ := List.pairwise_cons.mp h1
    obtain ⟨p2, q2⟩ := List.pairwise_cons.mp h2
    have e : a = b := by
      rcases List.mem_cons.mp (h.mem_iff.mp (List.mem_cons_self (a := a) (l := l))) with x | x
      · exact x
      · rcases List.mem_cons.mp (h.mem_iff.mpr (List.mem_cons_self (a := b) (l := m))) with y | y
        · exact y.symm
        · have := p2 a x; have := p1 b y; omega
    subst e
    rw [le_one q1 q2 ((List.perm_cons a).mp h)]
def iota (n : Nat) : List Int := (List.range n).map Int.ofNat
theorem iota_len (n : Nat) : (iota n).length = n := by simp [iota]
theorem iota_succ (n : Nat) : iota (n + 1) = iota n ++ [(n : Int)] := by simp [iota, List.range_succ]
theorem iota_mem {n : Nat} {k : Int} : k ∈ iota n ↔ 0 ≤ k ∧ k < n := by
  unfold iota
  rw [List.mem_map]
  constructor
  · rintro ⟨m, hm, rfl⟩
    have := List.mem_range.mp hm
    exact ⟨Int.natCast_nonneg _, by show (m : Int) < n; omega⟩
  · rintro ⟨h1, h2⟩
    exact ⟨k.toNat, List.mem_range.mpr (by omega), by show ((k.toNat : Nat) : Int) = k; omega⟩
theorem iota_pw (n : Nat) : (iota n).Pairwise (· < ·) := by
  unfold iota
  rw [List.pairwise_map]
  exact List.pairwise_lt_range.imp fun h => by show ((_ : Nat) : Int) < ((_ : Nat) : Int); omega
/-- the marks at the place v -/
def grp (f : Int → Int) (ms : List Int) (v : Int) : List Int := ms.filter fun k => f k == v
/-- the order: places rising, the marks at each -/
def ord (f : Int → Int) (ms : List Int) : List (List Int) := (sortU (ms.map f)).map (grp f ms)
theorem grp_snoc {f : Int → Int} {ms : List Int} {k v : Int} : grp f (ms ++ [k]) v = if f k = v then grp f ms v ++ [k] else grp f ms v := by
  unfold grp
  rw [List.filter_append]
  by_cases h : f k = v
  · rw [if_pos h]; simp [h]
  · rw [if_neg h]; simp [h]
theorem grp_none {f : Int → Int} {ms : List Int} {v : Int} (h : v ∉ ms.map f) : grp f ms v = [] := by
  unfold grp
  rw [List.filter_eq_nil_iff]
  intro k hk e
  exact h (List.mem_map.mpr ⟨k, hk, by simpa using e⟩)
theorem ord_congr {f g : Int → Int} {ms : List Int} (h : ∀ k ∈ ms, f k = g k) : ord f ms = ord g ms := by
  unfold ord
  have e : ms.map f = ms.map g := List.map_congr_left h
  rw [e]
  refine List.map_congr_left fun v _ => ?_
  unfold grp
  exact List.filter_congr fun k hk => by rw [h k hk]
theorem pw_rev_map {y : Int} {W : List Int} (h : W.Pairwise (· < ·)) : ((W.map (y - ·)).reverse).Pairwise (· < ·) := by
  rw [List.pairwise_reverse, List.pairwise_map]
  exact h.imp fun h => by omega
/-- the other way round -/
theorem ord_mirror {f g : Int → Int} {ms : List Int} {y : Int} (hf : ∀ k ∈ ms, 0 ≤ f k ∧ f k < y) (hg : ∀ k ∈ ms, g k = if f k = 0 then 0 else y - f k) {k0 : Int} (h0 : k0 ∈ ms) (z0 : f k0 = 0) :
    ord g ms = (ord f ms).take 1 ++ ((ord f ms).drop 1).reverse := by
  have hm : ∀ v, v ∈ sortU (ms.map f) → 0 ≤ v ∧ v < y := fun v hv => by
    obtain ⟨k, hk, rfl⟩ := List.mem_map.mp (sortU_mem.mp hv)
    exact hf k hk
  have m0 : (0 : Int) ∈ sortU (ms.map f) := sortU_mem.mpr (List.mem_map.mpr ⟨k0, h0, z0⟩)
  obtain ⟨W, hW⟩ : ∃ W, sortU (ms.map f) = 0 :: W := by
    cases e : sortU (ms.map f) with
    | nil => rw [e] at m0; simp at m0
    | cons a W =>
      have p := sortU_pw (ms.map f)
      rw [e] at p m0 hm
      obtain ⟨p1, _⟩ := List.pairwise_cons.mp p
      rcases List.mem_cons.mp m0 with q | q
      · exact ⟨W, by rw [← q]⟩
      · have := p1 0 q
        have := (hm a List.mem_cons_self).1
        omega
  have pw : (0 :: W).Pairwise (· < ·) := by rw [← hW]; exact sortU_pw _
  obtain ⟨pW, qW⟩ := List.pairwise_cons.mp pw
  have mW : ∀ v ∈ W, 0 < v ∧ v < y := fun v hv => ⟨pW v hv, (hm v (by rw [hW]; exact List.mem_cons_of_mem _ hv)).2⟩
  have eV : sortU (ms.map g) = 0 :: (W.map (y - ·)).reverse := by
    refine strict_one (sortU_pw _) (List.pairwise_cons.mpr ⟨fun b hb => ?_, pw_rev_map qW⟩) fun v => ?_
    · obtain ⟨u, hu, rfl⟩ := List.mem_map.mp (List.mem_reverse.mp hb)
      have := (mW u hu).2
      show 0 < y - u
      omega
    · rw [sortU_mem, List.mem_map, List.mem_cons, List.mem_reverse, List.mem_map]
      constructor
      · rintro ⟨k, hk, rfl⟩
        rw [hg k hk]
        by_cases e : f k = 0
        · rw [if_pos e]; exact .inl rfl
        · rw [if_neg e]
          refine .inr ⟨f k, ?_, rfl⟩
          have : f k ∈ sortU (ms.map f) := sortU_mem.mpr (List.mem_map.mpr ⟨k, hk, rfl⟩)
          rw [hW] at this
          exact (List.mem_cons.mp this).resolve_left e
      · rintro (rfl | ⟨u, hu, rfl⟩)
        · exact ⟨k0, h0, by rw [hg k0 h0, if_pos z0]⟩
        · have : u ∈ sortU (ms.map f) := by rw [hW]; exact List.mem_cons_of_mem _ hu
          obtain ⟨k, hk, e⟩ := List.mem_map.mp (sortU_mem.mp this)
          refine ⟨k, hk, ?_⟩
          have := (mW u hu).1
          rw [hg k hk, e, if_neg (by omega)]
  have g0 : grp g ms 0 = grp f ms 0 := List.filter_congr fun k hk => by
    rw [hg k hk]
    have := hf k hk
    by_cases e : f k = 0
    · rw [if_pos e, e]
    · rw [if_neg e]
      rw [beq_eq_false_iff_ne.mpr e, beq_eq_false_iff_ne.mpr (by omega)]
  have gW : ∀ u ∈ W, grp g ms (y - u) = grp f ms u := fun u hu => List.filter_congr fun k hk => by
    rw [hg k hk]
    have h1 := hf k hk
    have h2 := mW u hu
    by_cases e : f k = 0
    · rw [if_pos e, beq_eq_false_iff_ne.mpr (by omega), beq_eq_false_iff_ne.mpr (by omega)]
    · rw [if_neg e]
      by_cases e2 : f k = u
      · rw [e2]; simp
      · rw [beq_eq_false_iff_ne.mpr e2, beq_eq_false_iff_ne.mpr (by omega)]
  unfold ord
  rw [eV, hW, List.map_cons, List.map_cons, g0, List.map_reverse, List.map_map]
  show _ = [grp f ms 0] ++ (List.map (grp f ms) W).reverse
  rw [List.singleton_append]
  congr 2
  exact List.map_congr_left fun u hu => gW u hu
end Mt
namespace Mt
theorem map_inj {α β : Type} {g : α → β} : ∀ {l : List α}, (l.map g).Nodup → ∀ {a b : α}, a ∈ l → b ∈ l → g a = g b → a = b
  | [], _, _, _, h, _, _ => by simp at h
  | c :: l, n, a, b, ha, hb, e => by
    obtain ⟨n1, n2⟩ := List.nodup_cons.mp (show (g c :: l.map g).Nodup from n)
    rcases List.mem_cons.mp ha with x | x
    · rcases List.mem_cons.mp hb with y | y
      · rw [x, y]
      · subst x
        exact absurd (List.mem_map.mpr ⟨b, y, e.symm⟩) n1
    · rcases List.mem_cons.mp hb with y | y
      · subst y
        exact absurd (List.mem_map.mpr ⟨a, x, e⟩) n1
      · exact map_inj n2 x y e
end Mt
namespace Mt
theorem insU_len (v : Int) : ∀ m : List Int, (insU v m).length ≤ m.length + 1
  | [] => Nat.le_refl 1
  | b :: m => by
    unfold insU
    split
    · exact Nat.le_refl _
    · split
      · exact Nat.le_succ _
      · exact Nat.succ_le_succ (insU_len v m)
theorem sortU_len : ∀ l : List Int, (sortU l).length ≤ l.length
  | [] => Nat.le_refl 0
  | a :: l => Nat.le_trans (insU_len a (sortU l)) (Nat.succ_le_succ (sortU_len l))
end Mt
set_option Elab.async false
set_option maxRecDepth 100000
set_option maxHeartbeats 1000000
set_option linter.all false
/-! where two steps make unlike orders -/
namespace Mt
/-! an order tells how the places lie -/
theorem get_lt {l : List Int} (h : l.Pairwise (· < ·)) {i j : Nat} {u v : Int} (hi : l[i]? = some u) (hj : l[j]? = some v) : i < j ↔ u < v := by
  obtain ⟨h1, e1⟩ := List.getElem?_eq_some_iff.mp hi
  obtain ⟨h2, e2⟩ := List.getElem?_eq_some_iff.mp hj
  subst e1 e2
  have p := List.pairwise_iff_getElem.mp h
  constructor
  · exact p i j h1 h2
  · intro q
    rcases Nat.lt_trichotomy i j with c | c | c
    · exact c
    · subst c; omega
    · have := p j i h2 h1 c; omega
theorem ord_lt {f : Int → Int} {ms : List Int} {i j : Int} (hi : i ∈ ms) (hj : j ∈ ms) : f i < f j ↔ ∃ (a b : Nat) (g h : List Int), a < b ∧ (ord f ms)[a]? = some g ∧ i ∈ g ∧ (ord f ms)[b]? = some h ∧ j ∈ h := by
  have at_ : ∀ k ∈ ms, ∃ a, (sortU (ms.map f))[a]? = some (f k) := fun k hk => List.mem_iff_getElem?.mp (sortU_mem.mpr (List.mem_map.mpr ⟨k, hk, rfl⟩))
  constructor
  · intro c
    obtain ⟨a, ha⟩ := at_ i hi
    obtain ⟨b, hb⟩ := at_ j hj
    refine ⟨a, b, grp f ms (f i), grp f ms (f j), (get_lt (sortU_pw _) ha hb).mpr c, ?_, ?_, ?_, ?_⟩
    · unfold ord; rw [List.getElem?_map, ha]; rfl
    · exact List.mem_filter.mpr ⟨hi, by simp⟩
    · unfold ord; rw [List.getElem?_map, hb]; rfl
    · exact List.mem_filter.mpr ⟨hj, by simp⟩
  · rintro ⟨a, b, g, h, c, hg, ig, hh, jh⟩
    unfold ord at hg hh
    rw [List.getElem?_map] at hg hh
    obtain ⟨u, hu, rfl⟩ := Option.map_eq_some_iff.mp hg
    obtain ⟨v, hv, rfl⟩ := Option.map_eq_some_iff.mp hh
    have e1 : f i = u := by simpa using (List.mem_filter.mp ig).2
    have e2 : f j = v := by simpa using (List.mem_filter.mp jh).2
    rw [e1, e2]
    exact (get_lt (sortU_pw _) hu hv).mp c
/-- orders that are the same: the places lie the same -/
theorem ord_same_lt {f g : Int → Int} {ms : List Int} (h : ord f ms = ord g ms) {i j : Int} (hi : i ∈ ms) (hj : j ∈ ms) : f i < f j ↔ g i < g j := by
  rw [ord_lt hi hj, ord_lt hi hj, h]
/-- places that lie the same: the same orders -/
theorem ord_of_lt {f g : Int → Int} {ms : List Int} (h : ∀ i ∈ ms, ∀ j ∈ ms, f i < f j ↔ g i < g j) : ord f ms = ord g ms := by
  have he : ∀ i ∈ ms, ∀ j ∈ ms, f i = f j ↔ g i = g j := fun i hi j hj => by
    have h1 := h i hi j hj
    have h2 := h j hj i hi
    omega
  -- a mark at each place
  have key : ∀ l : List Int, (∀ v ∈ l, v ∈ ms.map f) → ∃ ks : List Int, ks.map f = l ∧ ∀ k ∈ ks, k ∈ ms := by
    intro l
    induction l with
    | nil => exact fun _ => ⟨[], rfl, fun k hk => by simp at hk⟩
    | cons v l ih =>
      intro hl
      obtain ⟨k, hk, e⟩ := List.mem_map.mp (hl v List.mem_cons_self)
      obtain ⟨ks, e2, hks⟩ := ih fun u hu => hl u (List.mem_cons_of_mem _ hu)
      refine ⟨k :: ks, by rw [List.map_cons, e, e2], fun z hz => ?_⟩
      rcases List.mem_cons.mp hz with rfl | hz
      · exact hk
      · exact hks z hz
  obtain ⟨ks, e1, hks⟩ := key (sortU (ms.map f)) fun v hv => sortU_mem.mp hv
  have pf : (ks.map f).Pairwise (· < ·) := by rw [e1]; exact sortU_pw _
  have pg : (ks.map g).Pairwise (· < ·) := by
    rw [List.pairwise_map] at pf ⊢
    exact pf.imp_of_mem fun {a b} ha hb c => (h a (hks a ha) b (hks b hb)).mp c
  have e2 : sortU (ms.map g) = ks.map g := strict_one (sortU_pw _) pg fun v => by
    rw [sortU_mem]
    constructor
    · intro hv
      obtain ⟨i, hi, rfl⟩ := List.mem_map.mp hv
      have : f i ∈ ks.map f := by rw [e1, sortU_mem]; exact List.mem_map.mpr ⟨i, hi, rfl⟩
      obtain ⟨k, hk, e⟩ := List.mem_map.mp this
      exact List.mem_map.mpr ⟨k, hk, (he k (hks k hk) i hi).mp e⟩
    · intro hv
      obtain ⟨k, hk, rfl⟩ := List.mem_map.mp hv
      exact List.mem_map.mpr ⟨k, hks k hk, rfl⟩
  unfold ord
  rw [← e1, e2, List.map_map, List.map_map]
  refine List.map_congr_left fun k hk => ?_
  refine List.filter_congr fun i hi => ?_
  have := he i hi k (hks k hk)
  by_cases c : f i = f k
  · rw [beq_iff_eq.mpr c, beq_iff_eq.mpr (this.mp c)]
  · rw [beq_eq_false_iff_ne.mpr c, beq_eq_false_iff_ne.mpr fun z => c (this.mpr z)]
/-! the arithmetic -/
/-- x1 / x2 below y1 / y2, both from 0 on below 1 -/
structure Pair (x1 x2 y1 y2 : Int) : Prop where
  a0 : 0 ≤ x1
  a1 : x1 < x2
  b0 : 0 ≤ y1
  b1 : y1 < y2
  lt : x1 * y2 < y1 * x2
/-- p / q lies between, nothing with a lesser bottom does -/
structure Least (x1 x2 y1 y2 p q : Int) : Prop where
  q0 : 0 < q
  lo : x1 * q ≤ p * x2
  hi : p * y2 ≤ y1 * q
  no : ∀ r s, 0 < s → s < q → x1 * s ≤ r * x2 → r * y2 ≤ y1 * s → False
theorem Pair.mul {x1 x2 y1 y2 : Int} (P : Pair x1 x2 y1 y2) {r s : Int} (s0 : 0 < s) (h : r * x2 < x1 * s) : r * y2 < y1 * s := by
  have a0 := P.a0
  have a1 := P.a1
  have b0 := P.b0
  have b1 := P.b1
  have h1 : r * x2 * y2 < x1 * s * y2 := Int.mul_lt_mul_of_pos_right h (by omega)
  have h2 : x1 * y2 * s < y1 * x2 * s := Int.mul_lt_mul_of_pos_right P.lt s0
  have e1 : x1 * s * y2 = x1 * y2 * s := Int.mul_right_comm _ _ _
  have e2 : y1 * x2 * s = y1 * s * x2 := Int.mul_right_comm _ _ _
  have e3 : r * x2 * y2 = r * y2 * x2 := Int.mul_right_comm _ _ _
  have h3 : r * y2 * x2 < y1 * s * x2 := by omega
  exact Int.lt_of_mul_lt_mul_right h3 (by omega)
theorem Pair.mul' {x1 x2 y1 y2 : Int} (P : Pair x1 x2 y1 y2) {r s : Int} (s0 : 0 < s) (h : y1 * s < r * y2) : x1 * s < r * x2 := by
  have a0 := P.a0
  have a1 := P.a1
  have b0 := P.b0
  have b1 := P.b1
  have h1 : y1 * s * x2 < r * y2 * x2 := Int.mul_lt_mul_of_pos_right h (by omega)
  have h2 : x1 * y2 * s < y1 * x2 * s := Int.mul_lt_mul_of_pos_right P.lt s0
  have e1 : x1 * s * y2 = x1 * y2 * s := Int.mul_right_comm _ _ _
  have e2 : y1 * x2 * s = y1 * s * x2 := Int.mul_right_comm _ _ _
  have e3 : r * x2 * y2 = r * y2 * x2 := Int.mul_right_comm _ _ _
  have h3 : x1 * s * y2 < r * x2 * y2 := by omega
  exact Int.lt_of_mul_lt_mul_right h3 (by omega)
/-- at a lesser bottom both have the same whole part, and a rest -/
theorem Least.floor {x1 x2 y1 y2 p q : Int} (P : Pair x1 x2 y1 y2) (L : Least x1 x2 y1 y2 p q) {s : Int} (s0 : 0 < s) (sq : s < q) :
    ∃ r, r * x2 < x1 * s ∧ x1 * s < (r + 1) * x2 ∧ r * y2 < y1 * s ∧ y1 * s < (r + 1) * y2 := by
  have b0 := P.b0
  have b1 := P.b1
  have y0 : 0 < y2 := by omega
  have m0 := Int.emod_nonneg (y1 * s) (show y2 ≠ 0 by omega)
  have m1 := Int.emod_lt_of_pos (y1 * s) y0
  have md := Int.mul_ediv_add_emod (y1 * s) y2
  have cm := Int.mul_comm y2 (y1 * s / y2)
  have l1 : (y1 * s / y2) * y2 ≤ y1 * s := by omega
  have l2 : y1 * s < (y1 * s / y2 + 1) * y2 := by rw [Int.add_mul]; omega
  have l3 : (y1 * s / y2) * x2 < x1 * s := by
    rcases Int.lt_or_le ((y1 * s / y2) * x2) (x1 * s) with c | c
    · exact c
    · exact (L.no _ s s0 sq c l1).elim
  exact ⟨y1 * s / y2, l3, P.mul' s0 l2, P.mul s0 l3, l2⟩
/-- the place of a mark, by its whole part -/
theorem place_of {x1 x2 k r : Int} (h0 : r * x2 ≤ x1 * k) (h1 : x1 * k < (r + 1) * x2) : (x1 * k).fmod x2 = x1 * k - r * x2 := by
  rw [Int.add_mul] at h1
  have x0 : 0 < x2 := by omega
  rw [Int.fmod_eq_emod_of_nonneg _ (by omega)]
  have e : x1 * k = (x1 * k - r * x2) + x2 * r := by have := Int.mul_comm x2 r; omega
  rw [e, Int.add_mul_emod_self_left, ← e]
  exact Int.emod_eq_of_lt (by omega) (by omega)
theorem cancel_lt {a b c : Int} (hc : 0 < c) (h : a * c < b * c) : a < b := Int.lt_of_mul_lt_mul_right h (by omega)
/-- fewer marks than the least bottom and one more: the same order -/
theorem Least.alike {x1 x2 y1 y2 p q : Int} (P : Pair x1 x2 y1 y2) (L : Least x1 x2 y1 y2 p q) : ord (fun k => (x1 * k).fmod x2) (iota q.toNat) = ord (fun k => (y1 * k).fmod y2) (iota q.toNat) := by
  have a0 := P.a0
  have a1 := P.a1
  have b0 := P.b0
  have b1 := P.b1
  -- each mark's whole part
  have fl : ∀ k : Int, 0 ≤ k → k < q → ∃ r, r * x2 ≤ x1 * k ∧ x1 * k < (r + 1) * x2 ∧ r * y2 ≤ y1 * k ∧ y1 * k < (r + 1) * y2 := fun k k0 kq => by
    by_cases c : k = 0
    · subst c
      exact ⟨0, by simp, by simp; omega, by simp, by simp; omega⟩
    · obtain ⟨r, h1, h2, h3, h4⟩ := L.floor P (s := k) (by omega) kq
      exact ⟨r, Int.le_of_lt h1, h2, Int.le_of_lt h3, h4⟩
  -- i < j
  have up : ∀ i j : Int, 0 ≤ i → i < j → j < q → (((x1 * i).fmod x2 < (x1 * j).fmod x2 ↔ (y1 * i).fmod y2 < (y1 * j).fmod y2) ∧ ((x1 * j).fmod x2 < (x1 * i).fmod x2 ↔ (y1 * j).fmod y2 < (y1 * i).fmod y2)) := fun i j i0 ij jq => by
    obtain ⟨u, u1, u2, u3, u4⟩ := fl i i0 (by omega)
    obtain ⟨v, v1, v2, v3, v4⟩ := fl j (by omega) jq
    obtain ⟨r, r1, r2, r3, r4⟩ := L.floor P (s := j - i) (by omega) (by omega)
    rw [place_of u1 u2, place_of v1 v2, place_of u3 u4, place_of v3 v4]
    rw [Int.mul_sub] at r1 r2 r3 r4
    rw [Int.add_mul] at r2 r4
    rcases Int.lt_or_le r (v - u) with c | c
    · have e1 := Int.mul_le_mul_of_nonneg_right (show r + 1 ≤ v - u by omega) (show 0 ≤ x2 by omega)
      have e2 := Int.mul_le_mul_of_nonneg_right (show r + 1 ≤ v - u by omega) (show 0 ≤ y2 by omega)
      rw [Int.add_mul, Int.sub_mul] at e1 e2
      constructor <;> constructor <;> intro <;> omega
    · have e1 := Int.mul_le_mul_of_nonneg_right c (show 0 ≤ x2 by omega)
      have e2 := Int.mul_le_mul_of_nonneg_right c (show 0 ≤ y2 by omega)
      rw [Int.sub_mul] at e1 e2
      constructor <;> constructor <;> intro <;> omega
  have q0 := L.q0
  refine ord_of_lt fun i hi j hj => ?_
  have ii := iota_mem.mp hi
  have jj := iota_mem.mp hj
  rcases Int.lt_trichotomy i j with c | c | c
  · exact (up i j ii.1 c (by omega)).1
  · subst c; simp
  · exact (up j i jj.1 c (by omega)).2
theorem cancel_le {a b c : Int} (hc : 0 < c) (h : a * c ≤ b * c) : a ≤ b := Int.le_of_mul_le_mul_right h hc
/-- one mark more: unlike orders -/
theorem Least.unlike {x1 x2 y1 y2 p q : Int} (P : Pair x1 x2 y1 y2) (L : Least x1 x2 y1 y2 p q) : ord (fun k => (x1 * k).fmod x2) (iota (q + 1).toNat) ≠ ord (fun k => (y1 * k).fmod y2) (iota (q + 1).toNat) := by
  intro h
  have a0 := P.a0
  have a1 := P.a1
  have b0 := P.b0
  have b1 := P.b1
  have q0 := L.q0
  have mem : ∀ k : Int, 0 ≤ k → k ≤ q → k ∈ iota (q + 1).toNat := fun k k0 kq => iota_mem.mpr ⟨k0, by omega⟩
  have z0 : ∀ a b : Int, (a * 0).fmod b = 0 := fun a b => by rw [Int.mul_zero, Int.zero_fmod]
  have n0 : ∀ a b k : Int, 0 < b → 0 ≤ (a * k).fmod b := fun a b k hb => by rw [Int.fmod_eq_emod_of_nonneg _ (by omega)]; exact Int.emod_nonneg _ (by omega)
  have mz : ∀ a b k : Int, 0 < b → (a * k).fmod b = 0 → ∃ m, a * k = m * b := fun a b k hb e => by
    rw [Int.fmod_eq_emod_of_nonneg _ (by omega)] at e
    have := Int.mul_ediv_add_emod (a * k) b
    exact ⟨a * k / b, by have := Int.mul_comm b (a * k / b); omega⟩
  have s1 := ord_same_lt h (mem 0 (by omega) (by omega)) (mem q (by omega) (by omega))
  simp only [z0] at s1
  have nx := n0 x1 x2 q (by omega)
  have ny := n0 y1 y2 q (by omega)
  rcases Int.lt_or_eq_of_le L.lo with lo | lo
  · rcases Int.lt_or_eq_of_le L.hi with hi | hi
    · -- strictly between
      have q2 : 2 ≤ q := by
        rcases Int.lt_or_le q 2 with c | c
        · have e : q = 1 := by omega
          rw [e, Int.mul_one] at lo hi
          have h1 : 0 < p := by
            rcases Int.lt_or_le 0 p with d | d
            · exact d
            · have := Int.mul_le_mul_of_nonneg_right d (show 0 ≤ x2 by omega)
              rw [Int.zero_mul] at this; omega
          have := Int.mul_le_mul_of_nonneg_right (show 1 ≤ p by omega) (show 0 ≤ y2 by omega)
          rw [Int.one_mul] at this; omega
        · exact c
      obtain ⟨r, r1, r2, r3, r4⟩ := L.floor P (s := q - 1) (by omega) (by omega)
      rw [Int.mul_sub, Int.mul_one] at r1 r2 r3 r4
      have hr : r = p - 1 := by
        have h1 : r < p := cancel_lt (c := x2) (by omega) (by omega)
        have h2 : p < r + 2 := cancel_lt (c := y2) (by omega) (by rw [Int.add_mul] at r4 ⊢; omega)
        omega
      subst hr
      have s2 := ord_same_lt h (mem 1 (by omega) (by omega)) (mem q (by omega) (by omega))
      rw [Int.sub_mul] at r1 r3
      rw [show p - 1 + 1 = p by omega] at r2 r4
      have f1 : (x1 * 1).fmod x2 = x1 * 1 - 0 * x2 := place_of (by rw [Int.zero_mul]; omega) (by rw [Int.add_mul]; omega)
      have g1 : (y1 * 1).fmod y2 = y1 * 1 - 0 * y2 := place_of (by rw [Int.zero_mul]; omega) (by rw [Int.add_mul]; omega)
      have fq : (x1 * q).fmod x2 = x1 * q - (p - 1) * x2 := place_of (by rw [Int.sub_mul]; omega) (by rw [show p - 1 + 1 = p by omega]; omega)
      have gq : (y1 * q).fmod y2 = y1 * q - p * y2 := place_of (by omega) (by rw [Int.add_mul]; omega)
      rw [f1, g1, fq, gq, Int.sub_mul] at s2
      omega
    · -- y is p / q
      have gz : (y1 * q).fmod y2 = 0 := by
        rw [← hi, Int.fmod_eq_emod_of_nonneg _ (by omega), Int.mul_emod_left]
      have fz : (x1 * q).fmod x2 = 0 := by rw [gz] at s1; omega
      obtain ⟨m, hm⟩ := mz x1 x2 q (by omega) fz
      have mp : m < p := cancel_lt (c := x2) (by omega) (by omega)
      rcases Int.lt_or_le q 2 with c | c
      · have e : q = 1 := by omega
        rw [e, Int.mul_one] at hi
        have hp : p < 1 := cancel_lt (c := y2) (by omega) (by omega)
        have := Int.mul_le_mul_of_nonneg_right (show p ≤ 0 by omega) (show 0 ≤ y2 by omega)
        have y1z : y1 = 0 := by rw [Int.zero_mul] at this; omega
        have := P.lt
        rw [y1z, Int.zero_mul] at this
        have := Int.mul_nonneg a0 (show 0 ≤ y2 by omega)
        omega
      · refine L.no (p - 1) (q - 1) (by omega) (by omega) ?_ ?_
        · rw [Int.mul_sub, Int.mul_one, Int.sub_mul, Int.one_mul]
          have := Int.mul_le_mul_of_nonneg_right (show m + 1 ≤ p by omega) (show 0 ≤ x2 by omega)
          rw [Int.add_mul] at this
          omega
        · rw [Int.mul_sub, Int.mul_one, Int.sub_mul, Int.one_mul]
          omega
  · -- x is p / q
    have fz : (x1 * q).fmod x2 = 0 := by
      rw [lo, Int.fmod_eq_emod_of_nonneg _ (by omega), Int.mul_emod_left]
    have gz : (y1 * q).fmod y2 = 0 := by rw [fz] at s1; omega
    obtain ⟨m, hm⟩ := mz y1 y2 q (by omega) gz
    have pm : p < m := by
      have h1 : p * x2 * y2 < m * y2 * x2 := by
        have := Int.mul_lt_mul_of_pos_right P.lt q0
        have e1 : x1 * y2 * q = x1 * q * y2 := Int.mul_right_comm _ _ _
        have e2 : y1 * x2 * q = y1 * q * x2 := Int.mul_right_comm _ _ _
        rw [e1, e2, lo, hm] at this
        exact this
      rw [Int.mul_right_comm p] at h1
      exact cancel_lt (c := y2) (by omega) (cancel_lt (c := x2) (by omega) h1)
    have hpm := Int.mul_le_mul_of_nonneg_right (show p + 1 ≤ m by omega) (show 0 ≤ y2 by omega)
    rw [Int.add_mul, Int.one_mul] at hpm
    rcases Int.lt_or_le q 2 with c | c
    · have e : q = 1 := by omega
      rw [e, Int.mul_one] at lo hm
      have hm1 : m < 1 := cancel_lt (c := y2) (by omega) (by omega)
      have hp : p < 0 := by omega
      have := Int.mul_le_mul_of_nonneg_right (show p + 1 ≤ 0 by omega) (show 0 ≤ x2 by omega)
      rw [Int.add_mul] at this
      omega
    · refine L.no p (q - 1) (by omega) (by omega) ?_ ?_
      · rw [Int.mul_sub, Int.mul_one]; omega
      · rw [Int.mul_sub, Int.mul_one]; omega
end Mt
set_option Elab.async false
set_option maxRecDepth 100000
set_option maxHeartbeats 1000000
set_option linter.all false
/-! the simplest fraction from a / b to c / d -/
namespace Mt
structure Best (a b c d p q : Int) : Prop where
  q0 : 0 < q
  lo : a * q ≤ p * b
  hi : p * d ≤ c * q
  mi : ∀ r s, 0 < s → a * s ≤ r * b → r * d ≤ c * s → q ≤ s ∧ p ≤ r
theorem Best.step {a b c d w p q : Int} (w0 : 0 ≤ w) (b0 : 0 < b) (d0 : 0 < d) (e0 : 0 < a - w * b) (f0 : 0 < c - w * d) (B : Best d (c - w * d) b (a - w * b) p q) : Best a b c d (w * p + q) p := by
  have q0 := B.q0
  have l := B.lo
  have h := B.hi
  have p0 : 0 < p := by
    have h1 : 0 < d * q := Int.mul_pos d0 q0
    have h2 : 0 * (c - w * d) < p * (c - w * d) := by rw [Int.zero_mul]; omega
    exact Int.lt_of_mul_lt_mul_right h2 (by omega)
  have m1 : p * (c - w * d) = c * p - w * p * d := by rw [Int.mul_sub, Int.mul_comm p c, ← Int.mul_assoc, Int.mul_comm p w]
  have m2 : p * (a - w * b) = a * p - w * p * b := by rw [Int.mul_sub, Int.mul_comm p a, ← Int.mul_assoc, Int.mul_comm p w]
  have m3 := Int.mul_comm d q
  have m4 := Int.mul_comm b q
  refine ⟨p0, ?_, ?_, fun r s s0 h1 h2 => ?_⟩
  · rw [Int.add_mul]; omega
  · rw [Int.add_mul]; omega
  · have k1 : (r - w * s) * b = r * b - w * b * s := by rw [Int.sub_mul, Int.mul_right_comm]
    have k2 : (r - w * s) * d = r * d - w * d * s := by rw [Int.sub_mul, Int.mul_right_comm]
    have k3 : (a - w * b) * s = a * s - w * b * s := Int.sub_mul ..
    have k4 : (c - w * d) * s = c * s - w * d * s := Int.sub_mul ..
    have t0 : 0 < r - w * s := by
      have h3 : 0 < (a - w * b) * s := Int.mul_pos e0 s0
      have h4 : 0 * b < (r - w * s) * b := by rw [Int.zero_mul]; omega
      exact Int.lt_of_mul_lt_mul_right h4 (by omega)
    have z := B.mi s (r - w * s) t0 (by rw [Int.mul_comm d, Int.mul_comm s]; omega) (by rw [Int.mul_comm s, Int.mul_comm b]; omega)
    have z2 := Int.mul_le_mul_of_nonneg_left z.2 w0
    exact ⟨z.2, by omega⟩
theorem div_le {a b : Int} (b0 : 0 < b) : (a / b) * b ≤ a ∧ a < (a / b) * b + b := by
  have h := Int.mul_ediv_add_emod a b
  have h1 := Int.emod_nonneg a (show b ≠ 0 by omega)
  have h2 := Int.emod_lt_of_pos a b0
  have := Int.mul_comm b (a / b)
  omega
/-- an integer lies in the stretch: the least one from the low end on -/
theorem Best.whole {a b c d : Int} (a0 : 0 ≤ a) (b0 : 0 < b) (d0 : 0 < d) (le : a * d ≤ c * b) (h : ¬ (a % b ≠ 0 ∧ a / b = c / d)) : Best a b c d (-(-a / b)) 1 := by
  obtain ⟨n1, n2⟩ := div_le (a := -a) b0
  have e : -(-a / b) * b = -((-a / b) * b) := Int.neg_mul ..
  have lo : a * 1 ≤ -(-a / b) * b := by rw [Int.mul_one, e]; omega
  refine ⟨by decide, lo, ?_, fun r s s0 h1 h2 => ⟨by omega, ?_⟩⟩
  · rw [Int.mul_one]
    by_cases z : a % b = 0
    · -- a / b is an integer
      have hd := Int.mul_ediv_add_emod a b
      rw [z, Int.add_zero] at hd
      have en : -(-a / b) = a / b := by
        have : -a = b * (-(a / b)) := by rw [Int.mul_neg, hd]
        rw [this, Int.mul_ediv_cancel_left _ (by omega)]; omega
      rw [en]
      have h3 : a / b * d * b ≤ c * b := by
        have : a / b * d * b = a * d := by rw [Int.mul_right_comm, Int.mul_comm (a / b) b, hd]
        omega
      exact cancel_le b0 h3
    · have ne : a / b ≠ c / d := fun y => h ⟨z, y⟩
      obtain ⟨m1, m2⟩ := div_le (a := a) b0
      obtain ⟨k1, k2⟩ := div_le (a := c) d0
      -- a / b ≤ c / d as whole parts
      have h4 : a / b ≤ c / d := by
        refine Int.le_ediv_of_mul_le d0 ?_
        refine cancel_le b0 ?_
        have h5 : a / b * b * d ≤ a * d := Int.mul_le_mul_of_nonneg_right m1 (by omega)
        have : a / b * d * b = a / b * b * d := Int.mul_right_comm ..
        omega
      have h6 : -(-a / b) ≤ a / b + 1 := by
        have h7 : -(-a / b) * b < (a / b + 2) * b := by rw [Int.add_mul, e]; omega
        have := cancel_lt b0 h7
        omega
      have h8 := Int.mul_le_mul_of_nonneg_right (show -(-a / b) ≤ c / d by omega) (show 0 ≤ d by omega)
      omega
  · -- least
    have h3 : a * 1 ≤ a * s := Int.mul_le_mul_of_nonneg_left (by omega) a0
    have h4 : -(-a / b) * b < (r + 1) * b := by rw [Int.add_mul, e]; omega
    have := cancel_lt b0 h4
    omega
/-- the numbers of a stretch, with bounds -/
structure Ok (a b c d : Int) : Prop where
  a0 : 0 ≤ a
  b0 : 0 < b
  c0 : 0 ≤ c
  d0 : 0 < d
  le : a * d ≤ c * b
  a1 : a < 2 ^ 100
  b1 : b < 2 ^ 100
  c1 : c < 2 ^ 100
  d1 : d < 2 ^ 100
/-- one turn: what is left, turned over -/
structure Turn (a b c d w : Int) : Prop where
  w0 : 0 ≤ w
  w1 : w < 2 ^ 100
  e0 : 0 < a - w * b
  e1 : a - w * b < b
  f0 : 0 < c - w * d
  f1 : c - w * d < d
theorem Ok.turn {a b c d : Int} (K : Ok a b c d) (h1 : a % b ≠ 0) (h2 : a / b = c / d) : Turn a b c d (a / b) ∧ Ok d (c - a / b * d) b (a - a / b * b) := by
  have b0 := K.b0
  have d0 := K.d0
  obtain ⟨m1, m2⟩ := div_le (a := a) b0
  obtain ⟨k1, k2⟩ := div_le (a := c) d0
  rw [← h2] at k1 k2
  have hd := Int.mul_ediv_add_emod a b
  have := Int.mul_comm b (a / b)
  have en := Int.emod_nonneg a (show b ≠ 0 by omega)
  have e0 : 0 < a - a / b * b := by omega
  have w0 : 0 ≤ a / b := Int.ediv_nonneg K.a0 (by omega)
  have w1 : a / b ≤ a := Int.ediv_le_self b K.a0
  have f0 : 0 < c - a / b * d := by
    have h3 : a / b * b * d < a * d := Int.mul_lt_mul_of_pos_right (by omega) d0
    have h4 : a / b * d * b = a / b * b * d := Int.mul_right_comm ..
    have h5 : a / b * d * b < c * b := by have := K.le; omega
    have := cancel_lt b0 h5
    omega
  have wd := Int.mul_nonneg w0 (show 0 ≤ d by omega)
  have a1 := K.a1
  have c1 := K.c1
  refine ⟨⟨w0, by omega, e0, by omega, f0, by omega⟩, ⟨by omega, f0, by omega, e0, ?_, K.d1, by omega, K.b1, by have := Int.mul_nonneg w0 (show 0 ≤ b by omega); omega⟩⟩
  have g1 : d * (a - a / b * b) = a * d - a / b * d * b := by rw [Int.mul_sub, Int.mul_comm d a, Int.mul_comm d, Int.mul_right_comm]
  have g2 : b * (c - a / b * d) = c * b - a / b * d * b := by rw [Int.mul_sub, Int.mul_comm b c, Int.mul_comm b]
  have := K.le
  omega
/-- the stretches gone through, the last whole part first -/
def Ch (a0 b0 c0 d0 : Int) : List Int → Int → Int → Int → Int → Prop
  | [], a, b, c, d => a = a0 ∧ b = b0 ∧ c = c0 ∧ d = d0 ∧ Ok a b c d
  | w :: rs, a', b', c', d' => ∃ a b c d, Ch a0 b0 c0 d0 rs a b c d ∧ Turn a b c d w ∧ a' = d ∧ b' = c - w * d ∧ c' = b ∧ d' = a - w * b ∧ Ok a' b' c' d'
theorem Ch.ok {a0 b0 c0 d0 : Int} : ∀ {rs : List Int} {a b c d : Int}, Ch a0 b0 c0 d0 rs a b c d → Ok a b c d
  | [], _, _, _, _, h => h.2.2.2.2
  | _ :: _, _, _, _, _, ⟨_, _, _, _, _, _, _, _, _, _, h⟩ => h
/-- the simplest one has a top and a bottom up to those of the low end -/
theorem Best.small {a b c d p q : Int} (K : Ok a b c d) (B : Best a b c d p q) : p ≤ a ∧ q ≤ b ∧ 0 ≤ p := by
  have z := B.mi a b K.b0 (Int.le_refl _) K.le
  refine ⟨z.2, z.1, ?_⟩
  have h := B.lo
  have h1 := Int.mul_nonneg K.a0 (Int.le_of_lt B.q0)
  have h2 : 0 * b ≤ p * b := by rw [Int.zero_mul]; omega
  exact cancel_le K.b0 h2
theorem Best.one {a b c d p q p' q' : Int} (B : Best a b c d p q) (B' : Best a b c d p' q') : p = p' ∧ q = q' := by
  have h1 := B.mi p' q' B'.q0 B'.lo B'.hi
  have h2 := B'.mi p q B.q0 B.lo B.hi
  omega
/-- it is in lowest terms -/
theorem Best.co {a b c d p q : Int} (K : Ok a b c d) (B : Best a b c d p q) : Nat.gcd p.natAbs q.natAbs = 1 := by
  have q0 := B.q0
  have p0 := (B.small K).2.2
  obtain ⟨m, rfl⟩ := Int.eq_ofNat_of_zero_le p0
  obtain ⟨n, rfl⟩ := Int.eq_ofNat_of_zero_le (show 0 ≤ q by omega)
  simp only [Int.natAbs_natCast]
  have n0 : 0 < n := by omega
  have g0 : 0 < Nat.gcd m n := Nat.gcd_pos_of_pos_right _ n0
  obtain ⟨u, hu⟩ := Nat.gcd_dvd_left m n
  obtain ⟨v, hv⟩ := Nat.gcd_dvd_right m n
  generalize Nat.gcd m n = g at g0 hu hv ⊢
  have v0 : 0 < v := by
    rcases Nat.eq_zero_or_pos v with z | z
    · rw [z, Nat.mul_zero] at hv; omega
    · exact z
  have g0' : (0 : Int) < (g : Int) := by omega
  have eu : ((m : Nat) : Int) = (g : Int) * (u : Int) := by rw [hu]; exact Int.natCast_mul ..
  have ev : ((n : Nat) : Int) = (g : Int) * (v : Int) := by rw [hv]; exact Int.natCast_mul ..
  have h1 : a * (v : Int) ≤ (u : Int) * b := by
    refine cancel_le g0' ?_
    have := B.lo
    rw [eu, ev] at this
    have e1 : a * (v : Int) * (g : Int) = a * ((g : Int) * (v : Int)) := by rw [Int.mul_assoc, Int.mul_comm (v : Int)]
    have e2 : (u : Int) * b * (g : Int) = (g : Int) * (u : Int) * b := by rw [Int.mul_right_comm, Int.mul_comm (u : Int)]
    omega
  have h2 : (u : Int) * d ≤ c * (v : Int) := by
    refine cancel_le g0' ?_
    have := B.hi
    rw [eu, ev] at this
    have e1 : c * (v : Int) * (g : Int) = c * ((g : Int) * (v : Int)) := by rw [Int.mul_assoc, Int.mul_comm (v : Int)]
    have e2 : (u : Int) * d * (g : Int) = (g : Int) * (u : Int) * d := by rw [Int.mul_right_comm, Int.mul_comm (u : Int)]
    omega
  have h3 := (B.mi u v (by omega) h1 h2).1
  rw [hv] at h3
  have h4 : g * v ≤ v := by omega
  rcases Nat.lt_or_ge g 2 with z | z
  · omega
  · have := Nat.mul_le_mul_right v z
    omega
/-- what the search over bottoms finds -/
theorem Best.least {a b c d p q : Int} (B : Best a b c d p q) (b0 : 0 < b) {s : Int} (s0 : 0 < s) (h : (a * s + b - 1) / b * d ≤ c * s) : q ≤ s ∧ p ≤ (a * s + b - 1) / b := by
  obtain ⟨m1, m2⟩ := div_le (a := a * s + b - 1) b0
  exact B.mi _ _ s0 (by omega) h
theorem Best.found {a b c d p q : Int} (B : Best a b c d p q) (b0 : 0 < b) (d0 : 0 < d) : (a * q + b - 1) / b = p := by
  obtain ⟨m1, m2⟩ := div_le (a := a * q + b - 1) b0
  have lo := B.lo
  have hi := B.hi
  have h1 : (a * q + b - 1) / b < p + 1 := cancel_lt b0 (by rw [Int.add_mul]; omega)
  have h2 : p * d ≤ c * q := hi
  have h3 := Int.mul_le_mul_of_nonneg_right (show (a * q + b - 1) / b ≤ p by omega) (show 0 ≤ d by omega)
  have := (B.least b0 B.q0 (by omega)).2
  omega
theorem Best.Least {x1 x2 y1 y2 p q : Int} (B : Best x1 x2 y1 y2 p q) : Least x1 x2 y1 y2 p q := ⟨B.q0, B.lo, B.hi, fun r s s0 sq h1 h2 => by have := (B.mi r s s0 h1 h2).1; omega⟩
end Mt
namespace Mt
theorem Turn.half {a b c d w w2 : Int} (T : Turn a b c d w) (T2 : Turn d (c - w * d) b (a - w * b) w2) : 2 * (b - w2 * (a - w * b)) < b := by
  have e0 := T.e0
  have e1 := T.e1
  have f1 := T2.f1
  have w0 := T2.w0
  have : 1 ≤ w2 := by
    rcases Int.lt_or_le w2 1 with z | z
    · have e : w2 = 0 := by omega
      rw [e, Int.zero_mul] at f1
      omega
    · exact z
  have := Int.mul_le_mul_of_nonneg_right this (show 0 ≤ a - w * b by omega)
  omega
theorem Ch.len {a0 b0 c0 d0 : Int} : ∀ {rs : List Int} {a b c d : Int}, Ch a0 b0 c0 d0 rs a b c d → b.toNat * 2 ^ (rs.length / 2) ≤ 2 ^ 100
  | [], _, b, _, _, h => by
    have := h.2.2.2.2.b1
    show b.toNat * 2 ^ 0 ≤ _
    rw [Nat.pow_zero, Nat.mul_one]
    omega
  | [w], _, b, _, _, h => by
    have := h.ok.b1
    rw [show ([w] : List Int).length / 2 = 0 by simp]
    rw [Nat.pow_zero, Nat.mul_one]
    omega
  | w2 :: w :: rs, a2, b2, c2, d2, ⟨a1, b1, c1, d1, ⟨a, b, c, d, h, T, ea, eb, ec, ed, k1⟩, T2, ea2, eb2, ec2, ed2, k2⟩ => by
    have ih := Ch.len h
    rw [ea, eb, ec, ed] at T2
    have hf := T.half T2
    have e2 : b2 = b - w2 * (a - w * b) := by rw [eb2, ec, ed]
    have h2 : 2 * b2.toNat ≤ b.toNat := by rw [← e2] at hf; omega
    have e : (w2 :: w :: rs).length / 2 = rs.length / 2 + 1 := by
      rw [List.length_cons, List.length_cons]; omega
    rw [e, Nat.pow_succ, Nat.mul_comm (2 ^ (rs.length / 2)) 2, ← Nat.mul_assoc, Nat.mul_comm _ 2]
    exact Nat.le_trans (Nat.mul_le_mul_right _ h2) ih
theorem Ch.few {a0 b0 c0 d0 : Int} {rs : List Int} {a b c d : Int} (h : Ch a0 b0 c0 d0 rs a b c d) : rs.length ≤ 201 := by
  have z := h.len
  have b0 := h.ok.b0
  have h1 : 1 * 2 ^ (rs.length / 2) ≤ 2 ^ 100 := Nat.le_trans (Nat.mul_le_mul_right _ (by omega)) z
  rw [Nat.one_mul] at h1
  have := (Nat.pow_le_pow_iff_right (by decide : 1 < 2)).mp h1
  omega
end Mt
set_option Elab.async false
set_option maxRecDepth 100000
set_option maxHeartbeats 1000000
set_option linter.all false
/-! sums of whole parts; how many places lie below; the first mark between two tops -/
namespace Mt
/-- the sum of (a * k + b) / m for k below n -/
def fsum (m a b : Int) : Nat → Int
  | 0 => 0
  | n + 1 => fsum m a b n + (a * (n : Int) + b) / m
theorem div_at {a m q r : Int} (e : a = m * q + r) (h0 : 0 ≤ r) (h1 : r < m) : a / m = q := by
  rw [e, Int.add_comm, Int.add_mul_ediv_left _ _ (by omega), Int.ediv_eq_zero_of_lt h0 h1, Int.zero_add]
theorem fsum_congr {m a b a' b' : Int} {n : Nat} (h : ∀ k : Int, 0 ≤ k → k < n → (a * k + b) / m = (a' * k + b') / m) : fsum m a b n = fsum m a' b' n := by
  induction n with
  | zero => rfl
  | succ n ih =>
    show fsum m a b n + _ = fsum m a' b' n + _
    rw [ih fun k h0 h1 => h k h0 (by omega), h n (by omega) (by omega)]
/-- whole slopes and shifts come out -/
theorem tri (n : Nat) : ((n : Int) + 1) * n / 2 = (n : Int) * (n - 1) / 2 + n := by
  have h : ((n : Int) + 1) * n = n * (n - 1) + n * 2 := by grind
  rw [h, Int.add_mul_ediv_right _ _ (by decide)]
theorem fsum_whole {m a b : Int} (m0 : 0 < m) (n : Nat) : fsum m a b n = (n : Int) * (n - 1) / 2 * (a / m) + n * (b / m) + fsum m (a % m) (b % m) n := by
  induction n with
  | zero => simp [fsum]
  | succ n ih =>
    show fsum m a b n + (a * (n : Int) + b) / m = _ + (fsum m (a % m) (b % m) n + (a % m * (n : Int) + b % m) / m)
    rw [ih]
    have h : (a * (n : Int) + b) / m = (a % m * (n : Int) + b % m) / m + (a / m * n + b / m) := by
      have e1 := Int.emod_add_mul_ediv a m
      have e2 := Int.emod_add_mul_ediv b m
      rw [← Int.add_mul_ediv_right _ _ (show m ≠ 0 by omega)]
      congr 1
      grind
    rw [h]
    have t := tri n
    rw [show (((n + 1 : Nat) : Int)) * (((n + 1 : Nat) : Int) - 1) / 2 = ((n : Int) + 1) * n / 2 by congr 1; push_cast; grind, t]
    push_cast
    grind
theorem fsum_up {a m b : Int} (a0 : 0 < a) (n : Nat) : fsum a m (b + a) n = fsum a m b n + n := by
  induction n with
  | zero => rfl
  | succ n ih =>
    show fsum a m (b + a) n + (m * (n : Int) + (b + a)) / a = fsum a m b n + (m * (n : Int) + b) / a + ((n + 1 : Nat) : Int)
    rw [ih, show m * (n : Int) + (b + a) = m * (n : Int) + b + 1 * a by omega, Int.add_mul_ediv_right _ _ (by omega)]
    push_cast
    omega
theorem fsum_head {a m b : Int} (n : Nat) : fsum a m b (n + 1) = b / a + fsum a m (b + m) n := by
  induction n with
  | zero => show 0 + (m * ((0 : Nat) : Int) + b) / a = b / a + 0; simp
  | succ n ih =>
    show fsum a m b (n + 1) + (m * ((n + 1 : Nat) : Int) + b) / a = b / a + (fsum a m (b + m) n + (m * (n : Int) + (b + m)) / a)
    rw [ih, show m * ((n + 1 : Nat) : Int) + b = m * (n : Int) + (b + m) by push_cast; grind]
    omega
/-- counted by rows in the place of columns -/
theorem fsum_turn {m a b : Int} (a0 : 0 < a) (am : a < m) (b0 : 0 ≤ b) (bm : b < m) (n : Nat) : fsum m a b n = fsum a m ((a * n + b) % m) ((a * n + b) / m).toNat := by
  have m0 : 0 < m := by omega
  induction n with
  | zero =>
    have e : a * ((0 : Nat) : Int) + b = b := by simp
    rw [e, Int.ediv_eq_zero_of_lt b0 bm]
    rfl
  | succ n ih =>
    show fsum m a b n + (a * (n : Int) + b) / m = _
    rw [ih]
    have y0 : 0 ≤ a * (n : Int) + b := by
      have := Int.mul_nonneg (show 0 ≤ a by omega) (show (0 : Int) ≤ n by omega); omega
    have e := Int.emod_add_mul_ediv (a * (n : Int) + b) m
    have r0 := Int.emod_nonneg (a * (n : Int) + b) (show m ≠ 0 by omega)
    have r1 := Int.emod_lt_of_pos (a * (n : Int) + b) m0
    have q0 : 0 ≤ (a * (n : Int) + b) / m := Int.ediv_nonneg y0 (by omega)
    have e3 : a * ((n + 1 : Nat) : Int) + b = a * (n : Int) + b + a := by push_cast; grind
    rw [e3]
    generalize a * (n : Int) + b = y at *
    generalize hq : y / m = q at *
    generalize hr : y % m = r at *
    obtain ⟨k, rfl⟩ := Int.eq_ofNat_of_zero_le q0
    rcases Int.lt_or_le (r + a) m with c | c
    · have d1 : (y + a) / m = (k : Int) := div_at (r := r + a) (by omega) (by omega) c
      have d2 : (y + a) % m = r + a := by
        have := Int.emod_add_mul_ediv (y + a) m
        rw [d1] at this; omega
      rw [d1, d2, Int.toNat_natCast, fsum_up a0]
    · have d1 : (y + a) / m = (k : Int) + 1 := div_at (r := r + a - m) (by rw [Int.mul_add]; omega) (by omega) (by omega)
      have d2 : (y + a) % m = r + a - m := by
        have := Int.emod_add_mul_ediv (y + a) m
        rw [d1, Int.mul_add] at this; omega
      rw [d1, d2, Int.toNat_natCast, show ((k : Int) + 1).toNat = k + 1 by omega, fsum_head, Int.ediv_eq_zero_of_lt (by omega) (by omega), show r + a - m + m = r + a by omega, fsum_up a0]
      omega
theorem fsum_zero {m b : Int} (b0 : 0 ≤ b) (bm : b < m) (n : Nat) : fsum m 0 b n = 0 := by
  induction n with
  | zero => rfl
  | succ n ih =>
    show fsum m 0 b n + (0 * (n : Int) + b) / m = 0
    rw [ih, Int.zero_mul, Int.zero_add, Int.zero_add, Int.ediv_eq_zero_of_lt b0 bm]
/-- one turn of the program's loop -/
theorem fsum_step {m a b : Int} (m0 : 0 < m) (a0 : 0 ≤ a) (b0 : 0 ≤ b) (n : Nat) : fsum m a b n = (n : Int) * (n - 1) / 2 * (a / m) + n * (b / m) + (if a % m = 0 then 0 else fsum (a % m) m ((a % m * n + b % m) % m) ((a % m * n + b % m) / m).toNat) := by
  rw [fsum_whole m0 n]
  have r0 := Int.emod_nonneg a (show m ≠ 0 by omega)
  have r1 := Int.emod_lt_of_pos a m0
  have s0 := Int.emod_nonneg b (show m ≠ 0 by omega)
  have s1 := Int.emod_lt_of_pos b m0
  split
  · rename_i c
    rw [c, fsum_zero s0 s1]
  · rename_i c
    rw [fsum_turn (by omega) r1 s0 s1]
/-- how many of the first n marks have a top below t -/
def below (x y t : Int) : Nat → Int
  | 0 => 0
  | n + 1 => below x y t n + if x * (n : Int) % y < t then 1 else 0
theorem below_fsum {x y t : Int} (y0 : 0 < y) (t0 : 0 ≤ t) (t1 : t ≤ y) (n : Nat) : below x y t n = n + fsum y x 0 n - fsum y x (y - t) n := by
  induction n with
  | zero => rfl
  | succ n ih =>
    show below x y t n + _ = ((n + 1 : Nat) : Int) + (fsum y x 0 n + (x * (n : Int) + 0) / y) - (fsum y x (y - t) n + (x * (n : Int) + (y - t)) / y)
    rw [ih]
    have e := Int.emod_add_mul_ediv (x * (n : Int)) y
    have r0 := Int.emod_nonneg (x * (n : Int)) (show y ≠ 0 by omega)
    have r1 := Int.emod_lt_of_pos (x * (n : Int)) y0
    rw [Int.add_zero]
    generalize x * (n : Int) = z at *
    generalize hq : z / y = q at *
    generalize z % y = r at *
    split
    · rename_i c
      rw [div_at (a := z + (y - t)) (q := q) (r := r + (y - t)) (by omega) (by omega) (by omega)]
      push_cast; omega
    · rename_i c
      rw [div_at (a := z + (y - t)) (q := q + 1) (r := r - t) (by rw [Int.mul_add]; omega) (by omega) (by omega)]
      push_cast; omega
/-! the first mark whose top lies from a to b -/
def Hit (s w a b m : Int) : Prop := 0 ≤ m ∧ a ≤ s * m % w ∧ s * m % w ≤ b
def Fst (s w a b m : Int) : Prop := Hit s w a b m ∧ ∀ m', Hit s w a b m' → m ≤ m'
/-- no less than so many slopes -/
theorem ceil_le {a s k : Int} (s0 : 0 < s) : -(-a / s) ≤ k ↔ a ≤ s * k := by
  have h := Int.le_ediv_iff_mul_le (a := -k) (b := -a) s0
  rw [Int.neg_mul, Int.mul_comm k s] at h
  constructor
  · intro z
    have := h.mp (by omega)
    omega
  · intro z
    have := h.mpr (by omega)
    omega
theorem ceil_at {a s : Int} (s0 : 0 < s) : a ≤ s * -(-a / s) ∧ s * (-(-a / s) - 1) < a := by
  refine ⟨(ceil_le s0).mp (Int.le_refl _), ?_⟩
  rcases Int.lt_or_le (s * (-(-a / s) - 1)) a with c | c
  · exact c
  · have := (ceil_le s0).mpr c
    omega
theorem ceil_is {a s c : Int} (s0 : 0 < s) (h1 : a ≤ s * c) (h2 : s * (c - 1) < a) : -(-a / s) = c := by
  have k1 := (ceil_le s0).mpr h1
  rcases Int.lt_or_le (-(-a / s)) c with d | d
  · have := (ceil_le (a := a) (k := c - 1) s0).mp (by omega)
    omega
  · omega
theorem neg_mod {a s c d : Int} (e : a = s * c - d) (d0 : 0 ≤ d) (ds : d < s) : -a % s = d := by
  have h : -a = d + s * (-c) := by rw [e]; grind
  rw [h, Int.add_mul_emod_self_left]
  exact Int.emod_eq_of_lt d0 ds
theorem fst_zero {s w a b : Int} (w0 : 0 < w) (ha : a ≤ 0) (hb : 0 ≤ b) : Fst s w a b 0 := by
  refine ⟨⟨Int.le_refl 0, ?_, ?_⟩, fun m' h => h.1⟩
  · rw [Int.mul_zero, Int.zero_emod]; exact ha
  · rw [Int.mul_zero, Int.zero_emod]; exact hb
theorem fst_turn {s w a b : Int} (s0 : 0 < s) (sw : s < w) (a0 : 0 < a) (bw : b < w) (h : -(-a / s) * s ≤ b) : Fst s w a b (-(-a / s)) := by
  obtain ⟨h1, h2⟩ := ceil_at (a := a) s0
  have c0 : 0 < -(-a / s) := by
    rcases Int.lt_or_le 0 (-(-a / s)) with c | c
    · exact c
    · have := Int.mul_nonpos_of_nonneg_of_nonpos (show 0 ≤ s by omega) c
      omega
  generalize -(-a / s) = c at *
  have hc : s * c ≤ b := by rw [Int.mul_comm]; exact h
  refine ⟨⟨by omega, ?_, ?_⟩, fun m' ⟨m0, k1, k2⟩ => ?_⟩
  · rw [Int.emod_eq_of_lt (by omega) (by omega)]; exact h1
  · rw [Int.emod_eq_of_lt (by omega) (by omega)]; exact hc
  · rcases Int.lt_or_le m' c with d | d
    · have e1 : s * m' ≤ s * (c - 1) := Int.mul_le_mul_of_nonneg_left (by omega) (by omega)
      have e2 : 0 ≤ s * m' := Int.mul_nonneg (by omega) m0
      rw [Int.emod_eq_of_lt e2 (by omega)] at k1
      omega
    · exact d
/-- turned: the turn is looked for as a mark is -/
theorem fst_back {s w a b t : Int} (s0 : 0 < s) (sw : s < w) (a0 : 0 < a) (ab : a ≤ b) (bw : b < w) (h : b < -(-a / s) * s) (T : Fst (w % s) s (-b % s) (-a % s) t) : Fst s w a b (-(-(a + w * t) / s)) := by
  obtain ⟨h1, h2⟩ := ceil_at (a := a) s0
  generalize -(-a / s) = c at *
  have w0 : 0 < w := by omega
  have hc : b < s * c := by rw [Int.mul_comm]; exact h
  have ec : s * (c - 1) = s * c - s := by rw [Int.mul_sub, Int.mul_one]
  rw [neg_mod (a := a) (c := c) (d := s * c - a) (by omega) (by omega) (by omega), neg_mod (a := b) (c := c) (d := s * c - b) (by omega) (by omega) (by omega)] at T
  obtain ⟨⟨t0, k1, k2⟩, least⟩ := T
  have red : ∀ t, w % s * t % s = w * t % s := fun t => by rw [Int.mul_emod, Int.emod_emod, ← Int.mul_emod]
  rw [red] at k1 k2
  have e := Int.emod_add_mul_ediv (w * t) s
  generalize hv : w * t % s = v at *
  generalize w * t / s = q at *
  have em : -(-(a + w * t) / s) = c + q := ceil_is s0 (by rw [Int.mul_add]; omega) (by rw [Int.mul_sub, Int.mul_add, Int.mul_one]; omega)
  have wt0 : 0 ≤ w * t := Int.mul_nonneg (by omega) t0
  rw [em]
  have es : s * (c + q) % w = s * (c + q) - w * t := by
    have z : s * (c + q) = (s * (c + q) - w * t) + w * t := by omega
    rw [z, Int.add_mul_emod_self_left]
    rw [show s * (c + q) - w * t + w * t - w * t = s * (c + q) - w * t by omega]
    exact Int.emod_eq_of_lt (by rw [Int.mul_add]; omega) (by rw [Int.mul_add]; omega)
  refine ⟨⟨?_, ?_, ?_⟩, fun m' ⟨m0, g1, g2⟩ => ?_⟩
  · rcases Int.lt_or_le (c + q) 0 with d | d
    · have := Int.mul_nonpos_of_nonneg_of_nonpos (show 0 ≤ s by omega) (show c + q ≤ 0 by omega)
      rw [Int.mul_add] at this
      omega
    · exact d
  · rw [es, Int.mul_add]; omega
  · rw [es, Int.mul_add]; omega
  · have f := Int.emod_add_mul_ediv (s * m') w
    have sm0 : 0 ≤ s * m' := Int.mul_nonneg (by omega) m0
    have t'0 : 0 ≤ s * m' / w := Int.ediv_nonneg sm0 (by omega)
    generalize s * m' % w = r at *
    generalize s * m' / w = t' at *
    have er : w * t' % s = s * c - r := by
      have z : w * t' = (s * c - r) + s * (m' - c) := by rw [Int.mul_sub]; omega
      rw [z, Int.add_mul_emod_self_left]
      exact Int.emod_eq_of_lt (by omega) (by omega)
    have lt := least t' ⟨t'0, by rw [red, er]; omega, by rw [red, er]; omega⟩
    have wtt : w * t ≤ w * t' := Int.mul_le_mul_of_nonneg_left lt (by omega)
    rw [← em]
    refine (ceil_le s0).mpr ?_
    omega
end Mt
set_option Elab.async false
set_option linter.all false
set_option maxRecDepth 100000
set_option maxHeartbeats 4000000
namespace My
open PySem PySem.Spec PyProof.Rows L2 Gn
def top (i : Nat) : Stmt := PySem.Challenge.pw_rimorders_k04_whole_where_orders_part.main.body.getD i (.Pass ⟨0, 0, 0, 0⟩)
abbrev sTin : Stmt := top 24
abbrev sSip : Stmt := top 25
abbrev sPick : Stmt := top 26
abbrev sFar : Stmt := top 27
abbrev sGcd : Stmt := top 28
abbrev sLow : Stmt := top 29
abbrev sStep : Stmt := top 31
theorem scTin : FnScope ["_law_script", "_law_turn", "_law_entry", "_law_stirred", "_law_each"] ["_law_script", "_law_turn"] (defScope sTin) := ⟨rfl, rfl, rfl, by decide +kernel, rfl, by decide +kernel, by decide +kernel⟩
theorem scSip : FnScope ["_law_tin_here", "_law_top", "_law_digit"] ["_law_tin_here", "_law_top"] (defScope sSip) := ⟨rfl, rfl, rfl, by decide +kernel, rfl, by decide +kernel, by decide +kernel⟩
theorem scPick : FnScope ["_law_tin_here", "_law_menu"] ["_law_tin_here", "_law_menu"] (defScope sPick) := ⟨rfl, rfl, rfl, by decide +kernel, rfl, by decide +kernel, by decide +kernel⟩
theorem scFar : FnScope ["_law_tin_here", "_law_most", "_law_scale"] ["_law_tin_here", "_law_most"] (defScope sFar) := ⟨rfl, rfl, rfl, by decide +kernel, rfl, by decide +kernel, by decide +kernel⟩
theorem scGcd : FnScope ["_law_one", "_law_two"] ["_law_one", "_law_two"] (defScope sGcd) := ⟨rfl, rfl, rfl, by decide +kernel, rfl, by decide +kernel, by decide +kernel⟩
theorem scLow : FnScope ["_law_top", "_law_bottom", "_law_same"] ["_law_top", "_law_bottom"] (defScope sLow) := ⟨rfl, rfl, rfl, by decide +kernel, rfl, by decide +kernel, by decide +kernel⟩
theorem scStep : FnScope ["_law_tin_here", "_law_most", "_law_bottom"] ["_law_tin_here", "_law_most"] (defScope sStep) := ⟨rfl, rfl, rfl, by decide +kernel, rfl, by decide +kernel, by decide +kernel⟩
/-- the built-ins that the text calls are still the built-ins -/
structure Bl (mg : Str → Option Value) : Prop where
  len : mg "len" = none
  int : mg "int" = none
  abs : mg "abs" = none
/-- a tin at t: what is left of the number, the stirred one, how often it was sipped from -/
def Tin (H : Hp) (t : Addr) : Prop := ∃ a b c : Int, H t = some (.lst [.int a, .int b, .int c]) ∧ 0 ≤ a ∧ 0 ≤ b ∧ b < 2147483647
/-- all but t is as it was, t is a tin -/
def Sipped (H H' : Hp) (t : Addr) : Prop := Tin H' t ∧ ∀ b o, H b = some o → b ≠ t → H' b = some o
def spTin (K : PySem.W.Frag) : Sp := fun vs H Q _ => ∃ (a : Addr) (ns : List Int) (t : Int), vs = [.ref a, .int t] ∧ SqL K H a (ns.map V.int) ∧ 0 ≤ t ∧ t ≤ 100 ∧
  ∀ p H', Same H H' → H p = none → Tin H' p → Q (.ref p) H'
def spSip : Sp := fun vs H Q _ => ∃ (t : Addr) (n : Int), vs = [.ref t, .int n] ∧ Tin H t ∧ 0 < n ∧ n.natAbs < 2 ^ 100 ∧ ∀ d H', 0 ≤ d → d < n → Sipped H H' t → Q (.int d) H'
theorem nz1 : (999931 : Int) ≠ 0 := by decide
theorem nz2 : (2147483647 : Int) ≠ 0 := by decide
section
variable {P : Program} {w : World} {K : PySem.W.Frag} {mg : Str → Option Value} {base : Heap}
theorem ok_tin {f : Addr} {fd : FuncData} (F : Fun K "_law_tin" "_law_tin" sTin f fd) (B : Bl mg) : FnOk P w K mg base CX0 1 f fd ["_law_script", "_law_turn"] (spTin K) := by
  refine F.ok scTin (fun vs H Q E h => ?_) (fun cdv A outer s H vs Q E hr h => ?_)
  · obtain ⟨a, ns, t, rfl, _⟩ := h
    rfl
  · obtain ⟨a, ns, t, rfl, hS, t0, t1, q⟩ := h
    refine ⟨_, pss_cons (ps_set (i := 2) scTin.nd rfl (.inl rfl) (pe_ifExp (pt_cmpR op_lt (pv 1) (pe_callB call_len_seq (by rfl) B.len PySem.boot_len (pa_cons (pv 0) pa_nil)) (nomark _))
        (pe_callTy call_int1 (by rfl) B.int (by decide +kernel) (pa_cons (pe_ix ix_list (pv 0) (pv 1) (fun _ _ => rfl)) pa_nil)) (pe_op op_add (pe_op op_mul pe_int (pv 1)) pe_int)))
      (pss_cons (ps_set (i := 3) scTin.nd rfl (.inl rfl) (pe_op op_add pe_int (pe_op op_mul pe_int (pv 1))))
      (pss_cons (ps_for PassesOwn.never rfl (pi_list (pe_slice sl_list (pv 0) po_none (po_some pe_int))) (pg_name (i := 4) scTin.nd rfl (.inl rfl))
        (pss_one (ps_set (i := 3) scTin.nd rfl (.inl rfl) (pe_op op_modN (pe_callTy call_int1 (by rfl) B.int (by decide +kernel) (pa_cons
          (pe_op op_add (pe_op op_add (pe_op op_mul (pv 3) pe_int) (pe_op op_modN (pe_callTy call_int1 (by rfl) B.int (by decide +kernel) (pa_cons (pv 4) pa_nil)) pe_int)) (pv 1)) pa_nil)) pe_int))))
      (pss_cons (ps_set (i := 3) scTin.nd rfl (.inl rfl) (pe_op op_modN (pe_callTy call_int1 (by rfl) B.int (by decide +kernel) (pa_cons
          (pe_op op_add (pe_op op_mul (pv 3) pe_int) (pe_op op_modN (pe_callTy call_int1 (by rfl) B.int (by decide +kernel) (pa_cons (pv 2) pa_nil)) pe_int)) pa_nil)) pe_int))
      (pss_one (ps_ret (pe_lst (pa_cons (pe_ifExp (pt_cmpR op_ge (pe_callB call_abs (by rfl) B.abs (by decide +kernel) (pa_cons (pv 2) pa_nil)) (pe_op op_pow pe_int pe_int) (nomark _)) (pe_callB call_abs (by rfl) B.abs (by decide +kernel) (pa_cons (pv 2) pa_nil)) pe_int)
          (pa_cons (pv 3) (pa_cons pe_int pa_nil))))))))), ?_⟩
    refine ⟨_, rfl, _, rfl, a, _, rfl, .inl hS, _, _, rfl, rfl, _, rfl, ?_⟩
    refine tif (.int (ns.getD t.toNat 0)) (.int (73 * t + 23)) (fun hc R z => ?_) (fun _ R z => ?_) (fun v e1 e2 => ?_)
    · have hl : t.toNat < ns.length := by have := of_decide_eq_true hc; rw [List.length_map] at this; omega
      refine ⟨_, rfl, _, rfl, a, _, t, .int (ns.getD t.toNat 0), rfl, rfl, hS, ?_, .inl ⟨_, rfl, z⟩⟩
      exact at_of (j := t.toNat) (by omega) (by rw [List.getElem?_map, List.getElem?_eq_getElem hl, List.getD_eq_getElem?_getD, List.getElem?_eq_getElem hl]; rfl)
    · exact ⟨_, rfl, _, _, rfl, rfl, .inl ⟨by decide, by decide⟩, _, _, rfl, rfl, z⟩
    obtain ⟨e, rfl⟩ : ∃ e, v = V.int e := by
      rcases Bool.eq_false_or_eq_true (decide (t < ↑(List.map V.int ns).length)) with z | z
      · exact ⟨_, e1 z⟩
      · exact ⟨_, e2 z⟩
    refine ⟨_, rfl, _, _, rfl, rfl, .inl ⟨by decide, by decide⟩, _, _, rfl, rfl, ?_⟩
    refine ⟨_, rfl, 8, rfl, a, _, rfl, hS, fun p hp => ⟨p, rfl, ⟨_, .inl (.inl upd_same)⟩, ?_⟩⟩
    have sm := same_put (o := .lst (cutV (ns.map V.int) none (some 8))) hp
    refine for_list (K := K) (a := p) (xs := cutV (ns.map V.int) none (some 8)) (fun i σ H' => ∃ (st : Int) (y : Option V), σ = [some (.ref a), some (.int t), some (.int e), some (.int st), y] ∧ 0 ≤ st ∧ st ≤ 2147483647 ∧ H' = upd H p (.lst (cutV (ns.map V.int) none (some 8))))
      ⟨50021 + 1009 * t, none, rfl, by omega, by omega, rfl⟩ (fun i σ H' _ ⟨_, _, _, _, _, e⟩ => by rw [e]; exact .inl (.inl upd_same)) ?_ ?_
    · rintro i x σ H' hi ⟨st, y, rfl, s0, s1, rfl⟩
      obtain ⟨z, rfl⟩ := int_at (cut_mem (List.mem_of_getElem? hi))
      refine ⟨_, rfl, _, _, rfl, rfl, .inl ⟨by omega, by omega⟩, _, rfl, .inl ⟨_, rfl, _, _, rfl, rfl, nz1, _, _, rfl, rfl, _, rfl, _, _, rfl, rfl, .inl ⟨_, rfl, _, _, rfl, rfl, nz2, ?_⟩⟩⟩
      exact ⟨_, _, rfl, fmod_ge (by decide), Int.le_of_lt (fmod_lt (by decide)), rfl⟩
    · rintro σ H' ⟨st, y, rfl, s0, s1, rfl⟩
      refine ⟨_, rfl, _, _, rfl, rfl, .inl ⟨by omega, by omega⟩, _, rfl, .inl ⟨_, rfl, _, _, rfl, rfl, nz1, _, _, rfl, rfl, .inl ⟨_, rfl, _, _, rfl, rfl, nz2, ?_⟩⟩⟩
      refine ⟨_, rfl, _, rfl, _, _, rfl, rfl, ⟨by decide, by decide, by decide⟩, _, _, rfl, rfl, _, rfl, ?_⟩
      refine tif (.int (if e < 0 then -e else e)) (.int 0) (fun _ R z => ⟨_, rfl, _, rfl, z⟩) (fun _ R z => z) (fun v e1 e2 => ?_)
      obtain ⟨b, rfl, hb⟩ : ∃ b, v = V.int b ∧ 0 ≤ b := by
        rcases Bool.eq_false_or_eq_true (decide ((10 : Int) ^ (18 : Int).toNat ≤ if e < 0 then -e else e)) with z | z
        · exact ⟨_, e1 z, by split <;> omega⟩
        · exact ⟨_, e2 z, by decide⟩
      refine ⟨_, rfl, (by show 3 ≤ sizeLine; decide), fun r hr' => ?_⟩
      exact q r _ (sm.trans (same_put hr')) (sm.free hr') ⟨_, _, _, upd_same, hb, fmod_ge (by decide), fmod_lt (by decide)⟩
end
end My
set_option Elab.async false
set_option linter.all false
set_option maxRecDepth 100000
set_option maxHeartbeats 4000000
namespace My
open PySem PySem.Spec PyProof.Rows L2 Gn
theorem Tin.not {H : Hp} {t b : Addr} (T : Tin H t) (h : H b = none) : b ≠ t := by
  obtain ⟨_, _, _, h1, _⟩ := T
  exact (ne_of_none h1 h).symm
theorem Sipped.trans {H H1 H2 : Hp} {t : Addr} (a : Sipped H H1 t) (b : Sipped H1 H2 t) : Sipped H H2 t := ⟨b.1, fun c o e n => b.2 c o (a.2 c o e n) n⟩
theorem Sipped.ofSame {H H1 : Hp} {t : Addr} (T : Tin H t) (s : Same H H1) : Sipped H H1 t := by
  obtain ⟨a, b, c, h, r⟩ := T
  exact ⟨⟨a, b, c, s _ _ h, r⟩, fun c o e _ => s c o e⟩
theorem Sipped.free {H H1 : Hp} {t p : Addr} (T : Tin H t) (s : Sipped H H1 t) (h : H1 p = none) : H p = none := by
  cases q : H p with
  | none => rfl
  | some o =>
    have n : p ≠ t := by
      rintro rfl
      obtain ⟨_, _, _, e, _⟩ := s.1
      rw [h] at e; cases e
    rw [s.2 p o q n] at h
    cases h
section
variable {P : Program} {w : World} {K : PySem.W.Frag} {mg : Str → Option Value} {base : Heap}
theorem ok_sip {f : Addr} {fd : FuncData} (F : Fun K "_law_sip" "_law_sip" sSip f fd) (B : Bl mg) : FnOk P w K mg base CX0 1 f fd ["_law_tin_here", "_law_top"] spSip := by
  refine F.ok scSip (fun vs H Q E h => ?_) (fun cdv A outer s H vs Q E hr h => ?_)
  · obtain ⟨t, n, rfl, _⟩ := h
    rfl
  · obtain ⟨t, n, rfl, ⟨a, b, c, hT, a0, b0, b1⟩, n0, n1, q⟩ := h
    refine ⟨_, pss_cons (ps_asg (pe_op op_add (pe_ix ix_list (pv 0) pe_int (fun _ _ => rfl)) pe_int) (pg_sub (pv 0) pe_int set_list))
      (pss_cons (ps_if (pt_cmpR op_gt (pe_ix ix_list (pv 0) pe_int (fun _ _ => rfl)) pe_int (nomark _))
        (pss_cons (ps_set (i := 2) scSip.nd rfl (.inl rfl) (pe_op op_modN (pe_callTy call_int1 (by rfl) B.int (by decide +kernel) (pa_cons (pe_ix ix_list (pv 0) pe_int (fun _ _ => rfl)) pa_nil)) (pv 1)))
        (pss_cons (ps_asg (pe_op op_fdivW (pe_callTy call_int1 (by rfl) B.int (by decide +kernel) (pa_cons (pe_ix ix_list (pv 0) pe_int (fun _ _ => rfl)) pa_nil)) (pv 1)) (pg_sub (pv 0) pe_int set_list))
        (pss_one (ps_ret (pv 2))))) pss_nil)
      (pss_cons (ps_asg (pe_op op_modN (pe_callTy call_int1 (by rfl) B.int (by decide +kernel) (pa_cons (pe_op op_add (pe_op op_add (pe_op op_mul (pe_ix ix_list (pv 0) pe_int (fun _ _ => rfl)) pe_int) (pe_op op_mul pe_int (pe_ix ix_list (pv 0) pe_int (fun _ _ => rfl)))) pe_int) pa_nil)) pe_int) (pg_sub (pv 0) pe_int set_list))
      (pss_one (ps_ret (pe_op op_modN (pe_callTy call_int1 (by rfl) B.int (by decide +kernel) (pa_cons (pe_op op_fdivW (pe_ix ix_list (pv 0) pe_int (fun _ _ => rfl)) pe_int) pa_nil)) (pv 1)))))), ?_⟩
    -- tin[2] = tin[2] + 1
    refine ⟨_, rfl, t, _, 2, .int c, rfl, rfl, SqL.of hT, at_of (j := 2) rfl rfl, _, _, rfl, rfl, _, rfl, t, _, _, 2, rfl, rfl, hT, rfl, ?_⟩
    have h1 : upd H t (.lst ([V.int a, V.int b, V.int c].set 2 (V.int (c + 1)))) t = some (.lst [.int a, .int b, .int (c + 1)]) := upd_same
    -- if tin[0] > 0
    refine ⟨_, rfl, t, _, 0, .int a, rfl, rfl, SqL.of h1, at_of (j := 0) rfl rfl, _, _, rfl, rfl, _, rfl, ?_⟩
    refine ite2 (fun hc => ?_) (fun hc => ?_)
    · have ha : 0 < a := of_decide_eq_true hc
      refine ⟨_, rfl, t, _, 0, .int a, rfl, rfl, SqL.of h1, at_of (j := 0) rfl rfl, .inl ⟨_, rfl, _, rfl, _, _, rfl, rfl, (show n ≠ 0 by omega), ?_⟩⟩
      refine ⟨_, rfl, t, _, 0, .int a, rfl, rfl, SqL.of h1, at_of (j := 0) rfl rfl, .inl ⟨_, rfl, _, rfl, _, _, rfl, rfl, wide_div n0 n1 (by decide) (by decide), _, rfl, t, _, _, 0, rfl, rfl, h1, rfl, ?_⟩⟩
      refine ⟨_, rfl, q _ _ (fmod_ge n0) (fmod_lt n0) ⟨⟨_, _, _, upd_same, Int.ediv_nonneg (by omega) (by omega), b0, b1⟩, fun z o e hz => ?_⟩⟩
      rw [upd_ne hz, upd_ne hz]; exact e
    · refine ⟨_, rfl, t, _, 1, .int b, rfl, rfl, SqL.of h1, at_of (j := 1) rfl rfl, _, _, rfl, rfl, .inl ⟨by omega, by omega⟩, _, rfl, t, _, 2, .int (c + 1), rfl, rfl, SqL.of h1, at_of (j := 2) rfl rfl, _, _, rfl, rfl, .inl ⟨by decide, by decide⟩, _, _, rfl, rfl, _, _, rfl, rfl, .inl ⟨_, rfl, _, _, rfl, rfl, nz2, _, rfl, t, _, _, 1, rfl, rfl, h1, rfl, ?_⟩⟩
      have h2 : ∀ z : Int, upd (upd H t (.lst ([V.int a, V.int b, V.int c].set 2 (V.int (c + 1))))) t (.lst ([V.int a, V.int b, V.int (c + 1)].set 1 (V.int z))) t = some (.lst [.int a, .int z, .int (c + 1)]) := fun z => upd_same
      refine ⟨_, rfl, t, _, 1, _, rfl, rfl, SqL.of (h2 _), at_of (j := 1) rfl rfl, _, _, rfl, rfl, wide_div (b := 6) (by decide) (by decide) (by decide) (by decide), .inl ⟨_, rfl, _, rfl, _, _, rfl, rfl, (show n ≠ 0 by omega), ?_⟩⟩
      refine q _ _ (fmod_ge n0) (fmod_lt n0) ⟨⟨_, _, _, h2 _, a0, fmod_ge (by decide), fmod_lt (by decide)⟩, fun z o e hz => ?_⟩
      rw [upd_ne hz, upd_ne hz]; exact e
end
end My
set_option Elab.async false
set_option linter.all false
set_option maxRecDepth 100000
set_option maxHeartbeats 4000000
namespace My
open PySem PySem.Spec PyProof.Rows L2 Gn
def spPick : Sp := fun vs H Q _ => ∃ (t m : Addr) (xs : List V), vs = [.ref t, .ref m] ∧ Tin H t ∧ H m = some (.lst xs) ∧ m ≠ t ∧ 0 < xs.length ∧ xs.length ≤ 1000 ∧ ∀ x H', x ∈ xs → Sipped H H' t → Q x H'
def spFar : Sp := fun vs H Q _ => ∃ (t : Addr) (n : Int), vs = [.ref t, .int n] ∧ Tin H t ∧ 1 ≤ n ∧ n.natAbs < 2 ^ 100 ∧ ∀ d H', 1 ≤ d → d ≤ n → Sipped H H' t → Q (.int d) H'
def spGcd : Sp := fun vs H Q _ => ∃ (a b : Int), vs = [.int a, .int b] ∧ 0 ≤ a ∧ 0 ≤ b ∧ Q (.int ((Nat.gcd a.natAbs b.natAbs : Nat) : Int)) H
def spLow : Sp := fun vs H Q _ => ∃ (a b : Int), vs = [.int a, .int b] ∧ 0 ≤ a ∧ 0 < b ∧ b.natAbs < 2 ^ 100 ∧
  ∀ p, H p = none → Q (.ref p) (upd H p (.tup [.int (a / ((Nat.gcd a.natAbs b.natAbs : Nat) : Int)), .int (b / ((Nat.gcd a.natAbs b.natAbs : Nat) : Int))]))
/-- x / y is a step: lowest terms, from 0 on, below 1 -/
structure IsStep (x y : Int) : Prop where
  x0 : 0 ≤ x
  xy : x < y
  co : Nat.gcd x.natAbs y.natAbs = 1
def spStep : Sp := fun vs H Q _ => ∃ (t : Addr) (n : Int), vs = [.ref t, .int n] ∧ Tin H t ∧ 1 ≤ n ∧ n.natAbs < 2 ^ 100 ∧
  ∀ x y p H', IsStep x y → y ≤ n → Sipped H H' t → H p = none → H' p = some (.tup [.int x, .int y]) → Q (.ref p) H'
theorem low_step {a b : Int} (h0 : 0 ≤ a) (h : a < b) : IsStep (a / ((Nat.gcd a.natAbs b.natAbs : Nat) : Int)) (b / ((Nat.gcd a.natAbs b.natAbs : Nat) : Int)) ∧ b / ((Nat.gcd a.natAbs b.natAbs : Nat) : Int) ≤ b := by
  obtain ⟨x, rfl⟩ := Int.eq_ofNat_of_zero_le h0
  obtain ⟨y, rfl⟩ := Int.eq_ofNat_of_zero_le (show 0 ≤ b by omega)
  simp only [Int.natAbs_natCast]
  have hy : 0 < y := by omega
  have g0 : 0 < Nat.gcd x y := Nat.gcd_pos_of_pos_right _ hy
  have e1 : ((x : Int) / ((Nat.gcd x y : Nat) : Int)) = ((x / Nat.gcd x y : Nat) : Int) := by simp
  have e2 : ((y : Int) / ((Nat.gcd x y : Nat) : Int)) = ((y / Nat.gcd x y : Nat) : Int) := by simp
  rw [e1, e2]
  obtain ⟨u, hu⟩ := Nat.gcd_dvd_left x y
  obtain ⟨v, hv⟩ := Nat.gcd_dvd_right x y
  have du : x / Nat.gcd x y = u := Nat.div_eq_of_eq_mul_right g0 hu
  have dv : y / Nat.gcd x y = v := Nat.div_eq_of_eq_mul_right g0 hv
  refine ⟨⟨by omega, ?_, ?_⟩, ?_⟩
  · rw [du, dv]
    have : Nat.gcd x y * u < Nat.gcd x y * v := by rw [← hu, ← hv]; omega
    have := Nat.lt_of_mul_lt_mul_left this
    omega
  · simp only [Int.natAbs_natCast]
    exact Nat.coprime_div_gcd_div_gcd g0
  · have := Nat.div_le_self y (Nat.gcd x y)
    omega
section
variable {P : Program} {w : World} {K : PySem.W.Frag} {mg : Str → Option Value} {base : Heap}
/-- a def that the module holds under its own name, and how it binds -/
structure Df (K : PySem.W.Frag) (mg : Str → Option Value) (x : Str) (st : Stmt) (ps : List Str) (f : Addr) (fd : FuncData) : Prop where
  F : Fun K x x st f fd
  g : mg x = some (.ref f)
  b : Binds K fd ps []
theorem ok_pick {f fS : Addr} {fd fdS : FuncData} (F : Fun K "_law_pick" "_law_pick" sPick f fd) (B : Bl mg) (S : Df K mg "_law_sip" sSip ["_law_tin_here", "_law_top"] fS fdS) : FnOk P w K mg base CX0 2 f fd ["_law_tin_here", "_law_menu"] spPick := by
  have GS : FnOk P w K mg base CX0 1 fS fdS ["_law_tin_here", "_law_top"] spSip := ok_sip S.F B
  refine F.ok scPick (fun vs H Q E h => ?_) (fun cdv A outer s H vs Q E hr h => ?_)
  · obtain ⟨t, m, xs, rfl, _⟩ := h
    rfl
  · obtain ⟨t, m, xs, rfl, T, hm, ne, x0, x1, q⟩ := h
    refine ⟨_, pss_one (ps_ret (pe_ix ix_list (pv 1) (pe_call GS hr (by rfl) S.g S.F.kp S.b .nil pass0 (pa_cons (pv 0) (pa_cons (pe_callB call_len_seq (by rfl) B.len PySem.boot_len (pa_cons (pv 1) pa_nil)) pa_nil))) (fun _ _ => rfl))), ?_⟩
    refine ⟨_, rfl, _, rfl, _, rfl, m, xs, rfl, .inl (SqL.of hm), t, _, rfl, T, by omega, ?_, fun d H' d0 d1 sp => ?_⟩
    · rw [Int.natAbs_natCast]; exact Nat.lt_of_le_of_lt x1 (by decide)
    have hd : d.toNat < xs.length := by omega
    refine ⟨m, xs, d, xs[d.toNat], rfl, rfl, SqL.of (sp.2 m _ hm ne), at_of (j := d.toNat) (by omega) (List.getElem?_eq_getElem hd), q _ _ (List.getElem_mem hd) sp⟩
theorem ok_far {f fS fP : Addr} {fd fdS fdP : FuncData} (F : Fun K "_law_far" "_law_far" sFar f fd) (B : Bl mg) (S : Df K mg "_law_sip" sSip ["_law_tin_here", "_law_top"] fS fdS) (Pk : Df K mg "_law_pick" sPick ["_law_tin_here", "_law_menu"] fP fdP) : FnOk P w K mg base CX0 3 f fd ["_law_tin_here", "_law_most"] spFar := by
  have GS : FnOk P w K mg base CX0 1 fS fdS ["_law_tin_here", "_law_top"] spSip := ok_sip S.F B
  have GP : FnOk P w K mg base CX0 2 fP fdP ["_law_tin_here", "_law_menu"] spPick := ok_pick Pk.F B S
  refine F.ok scFar (fun vs H Q E h => ?_) (fun cdv A outer s H vs Q E hr h => ?_)
  · obtain ⟨t, n, rfl, _⟩ := h
    rfl
  · obtain ⟨t, n, rfl, T, n1, n2, q⟩ := h
    have hr1 : Room 1 _ := hr.mono (by decide)
    refine ⟨_, pss_cons (ps_if (pt_cmpR op_le (pv 1) (pe_op op_pow pe_int pe_int) (nomark _)) (pss_one (ps_ret (pe_op op_add pe_int (pe_call GS hr1 (by rfl) S.g S.F.kp S.b .nil pass0 (pa_cons (pv 0) (pa_cons (pv 1) pa_nil)))))) pss_nil)
      (pss_cons (ps_set (i := 2) scFar.nd rfl (.inl rfl) (pe_call GP hr (by rfl) Pk.g Pk.F.kp Pk.b .nil pass0 (pa_cons (pv 0) (pa_cons (pe_lst (pa_cons pe_int (pa_cons pe_int (pa_cons (pe_op op_pow pe_int pe_int) (pa_cons (pe_op op_pow pe_int pe_int) (pa_cons (pe_op op_pow pe_int pe_int) (pa_cons (pe_op op_pow pe_int pe_int) (pa_cons (pe_op op_pow pe_int pe_int) (pa_cons (pe_op op_pow pe_int pe_int) pa_nil))))))))) pa_nil))))
      (pss_one (ps_ret (pe_op op_add pe_int (pe_op op_modN (pe_callTy call_int1 (by rfl) B.int (by decide +kernel) (pa_cons (pe_op op_add (pe_op op_mul (pe_call GS hr1 (by rfl) S.g S.F.kp S.b .nil pass0 (pa_cons (pv 0) (pa_cons (pe_op op_pow pe_int pe_int) pa_nil))) (pv 2)) (pe_call GS hr1 (by rfl) S.g S.F.kp S.b .nil pass0 (pa_cons (pv 0) (pa_cons pe_int pa_nil)))) pa_nil)) (pv 1)))))), ?_⟩
    refine ⟨_, rfl, _, _, rfl, rfl, ⟨by decide, by decide, by decide⟩, _, _, rfl, rfl, _, rfl, ?_⟩
    refine ite2 (fun hc => ?_) (fun hc => ?_)
    · refine ⟨_, rfl, _, rfl, t, n, rfl, T, by omega, n2, fun d H' d0 d1 sp => ?_⟩
      exact ⟨_, _, rfl, rfl, q _ _ (by omega) (by omega) sp⟩
    · refine ⟨_, rfl, _, _, rfl, rfl, ⟨by decide, by decide, by decide⟩, _, _, rfl, rfl, ⟨by decide, by decide, by decide⟩, _, _, rfl, rfl, ⟨by decide, by decide, by decide⟩, _, _, rfl, rfl, ⟨by decide, by decide, by decide⟩, _, _, rfl, rfl, ⟨by decide, by decide, by decide⟩, _, _, rfl, rfl, ⟨by decide, by decide, by decide⟩, (by show 8 ≤ sizeLine; decide), fun m hm => ?_⟩
      have T1 : Tin (upd H m (.lst ([1, 7, 10 ^ 3, 10 ^ 6, 10 ^ 9, 10 ^ 14, 10 ^ 21, 10 ^ 24].map V.int))) t := (Sipped.ofSame T (same_put hm)).1
      refine ⟨t, m, ([1, 7, 10 ^ 3, 10 ^ 6, 10 ^ 9, 10 ^ 14, 10 ^ 21, 10 ^ 24] : List Int).map V.int, rfl, T1, upd_same, T.not hm, (by decide), (by decide), fun x H1 hx s1 => ?_⟩
      obtain ⟨z, rfl⟩ := int_at hx
      have s01 : Sipped H H1 t := (Sipped.ofSame T (same_put hm)).trans s1
      refine ⟨_, rfl, _, _, rfl, rfl, ⟨by decide, by decide, by decide⟩, t, _, rfl, s1.1, (by decide), (by decide), fun d H2 d0 d1 s2 => ?_⟩
      refine ⟨_, rfl, _, _, rfl, rfl, .inl ⟨by omega, ?_⟩, _, rfl, t, _, rfl, s2.1, (by decide), (by decide), fun e H3 e0 e1 s3 => ?_⟩
      · have : (d : Int) < 10 ^ 6 := d1
        omega
      refine ⟨_, _, rfl, rfl, .inl ⟨_, rfl, _, rfl, _, _, rfl, rfl, (show n ≠ 0 by omega), _, _, rfl, rfl, q _ _ ?_ ?_ ((s01.trans s2).trans s3)⟩⟩
      · have := fmod_ge (a := d * z + e) (show 0 < n by omega); omega
      · have := fmod_lt (a := d * z + e) (show 0 < n by omega); omega
theorem ok_gcd {f : Addr} {fd : FuncData} (F : Fun K "_law_gcd" "_law_gcd" sGcd f fd) (B : Bl mg) : FnOk P w K mg base CX0 1 f fd ["_law_one", "_law_two"] spGcd := by
  refine F.ok scGcd (fun vs H Q E h => ?_) (fun cdv A outer s H vs Q E hr h => ?_)
  · obtain ⟨a, b, rfl, _⟩ := h
    rfl
  · obtain ⟨a, b, rfl, a0, b0, q⟩ := h
    refine ⟨_, pss_cons (ps_while PassesOwn.never (pt_cmpR op_gt (pv 1) pe_int (nomark _)) (pss_one (ps_par (i := 0) (j := 1) (by rfl) scGcd.nd rfl rfl (by decide) rfl rfl
        (pa_cons (pv 1) (pa_cons (pe_op op_modN (pe_callTy call_int1 (by rfl) B.int (by decide +kernel) (pa_cons (pv 0) pa_nil)) (pv 1)) pa_nil)) (by rfl))))
      (pss_one (ps_ret (pv 0))), ?_⟩
    refine while_by (fun σ H' => ∃ x y : Int, σ = [some (.int x), some (.int y)] ∧ 0 ≤ x ∧ 0 ≤ y ∧ Nat.gcd x.natAbs y.natAbs = Nat.gcd a.natAbs b.natAbs ∧ H' = H)
      (fun σ _ => match σ with | [_, some (.int y)] => y.natAbs | _ => 0) ⟨a, b, rfl, a0, b0, rfl, rfl⟩ ?_ ?_
    · rintro σ H' ⟨x, y, rfl, x0, y0, hg, rfl⟩
      refine ⟨_, rfl, _, _, rfl, rfl, _, rfl, ?_⟩
      refine ite2 (fun hc => ?_) (fun hc => ?_)
      · have hy : 0 < y := of_decide_eq_true hc
        refine ⟨_, rfl, _, rfl, .inl ⟨_, rfl, _, rfl, _, _, rfl, rfl, (show y ≠ 0 by omega), _, _, rfl, ⟨y, x.fmod y, rfl, y0, fmod_ge hy, ?_, rfl⟩, ?_⟩⟩
        · rw [← hg, Int.fmod_eq_emod_of_nonneg _ y0]
          obtain ⟨m, rfl⟩ := Int.eq_ofNat_of_zero_le x0
          obtain ⟨n, rfl⟩ := Int.eq_ofNat_of_zero_le y0
          rw [← Int.natCast_emod, Int.natAbs_natCast, Int.natAbs_natCast, Int.natAbs_natCast]
          rw [Nat.gcd_comm n, ← Nat.gcd_rec, Nat.gcd_comm]
        · show (x.fmod y).natAbs < y.natAbs
          have h1 := fmod_ge (a := x) hy
          have h2 := fmod_lt (a := x) hy
          omega
      · have hy : y = 0 := by have : ¬ (0 : Int) < y := fun z => hc (decide_eq_true z); omega
        subst hy
        refine ⟨_, rfl, ?_⟩
        rw [← hg] at q
        simpa [Int.natAbs_of_nonneg x0] using q
    · rintro σ H' Q1 Q2 mo ⟨v, e1, i, j, e2, e3, k, e4, h⟩
      exact ⟨v, e1, i, j, e2, e3, k, e4, mo _ _ h⟩
theorem ok_low {f fG : Addr} {fd fdG : FuncData} (F : Fun K "_law_low" "_law_low" sLow f fd) (B : Bl mg) (G : Df K mg "_law_gcd" sGcd ["_law_one", "_law_two"] fG fdG) : FnOk P w K mg base CX0 2 f fd ["_law_top", "_law_bottom"] spLow := by
  have GG : FnOk P w K mg base CX0 1 fG fdG ["_law_one", "_law_two"] spGcd := ok_gcd G.F B
  refine F.ok scLow (fun vs H Q E h => ?_) (fun cdv A outer s H vs Q E hr h => ?_)
  · obtain ⟨a, b, rfl, _⟩ := h
    rfl
  · obtain ⟨a, b, rfl, a0, b0, b1, q⟩ := h
    refine ⟨_, pss_cons (ps_set (i := 2) scLow.nd rfl (.inl rfl) (pe_call GG hr (by rfl) G.g G.F.kp G.b .nil pass0 (pa_cons (pv 0) (pa_cons (pv 1) pa_nil))))
      (pss_one (ps_ret (pe_tup (pa_cons (pe_op op_fdivW (pv 0) (pv 2)) (pa_cons (pe_op op_fdivW (pv 1) (pv 2)) pa_nil))))), ?_⟩
    have g0 : (0 : Int) < ((Nat.gcd a.natAbs b.natAbs : Nat) : Int) := by
      have := Nat.gcd_pos_of_pos_right a.natAbs (show 0 < b.natAbs by omega); omega
    have g1 : (((Nat.gcd a.natAbs b.natAbs : Nat) : Int)).natAbs < 2 ^ 100 := by
      rw [Int.natAbs_natCast]
      exact Nat.lt_of_le_of_lt (Nat.le_of_dvd (by omega) (Nat.gcd_dvd_right _ _)) b1
    refine ⟨_, rfl, _, rfl, a, b, rfl, a0, by omega, _, rfl, _, rfl, _, _, rfl, rfl, wide_div g0 g1 (by decide) (by decide), _, rfl, _, rfl, _, _, rfl, rfl, wide_div g0 g1 (by decide) (by decide), (by show 2 ≤ sizeLine; decide), fun p hp => q p hp⟩
theorem ok_step {f fA fL : Addr} {fd fdA fdL : FuncData} {fS fP fG : Addr} {fdS fdP fdG : FuncData} (F : Fun K "_law_step" "_law_step" sStep f fd) (B : Bl mg) (S : Df K mg "_law_sip" sSip ["_law_tin_here", "_law_top"] fS fdS) (Pk : Df K mg "_law_pick" sPick ["_law_tin_here", "_law_menu"] fP fdP)
    (G : Df K mg "_law_gcd" sGcd ["_law_one", "_law_two"] fG fdG) (Fa : Df K mg "_law_far" sFar ["_law_tin_here", "_law_most"] fA fdA) (Lo : Df K mg "_law_low" sLow ["_law_top", "_law_bottom"] fL fdL) : FnOk P w K mg base CX0 4 f fd ["_law_tin_here", "_law_most"] spStep := by
  have GA : FnOk P w K mg base CX0 3 fA fdA ["_law_tin_here", "_law_most"] spFar := ok_far Fa.F B S Pk
  have GL : FnOk P w K mg base CX0 2 fL fdL ["_law_top", "_law_bottom"] spLow := ok_low Lo.F B G
  refine F.ok scStep (fun vs H Q E h => ?_) (fun cdv A outer s H vs Q E hr h => ?_)
  · obtain ⟨t, n, rfl, _⟩ := h
    rfl
  · obtain ⟨t, n, rfl, T, n1, n2, q⟩ := h
    have hr2 : Room 2 _ := hr.mono (by decide)
    refine ⟨_, pss_cons (ps_set (i := 2) scStep.nd rfl (.inl rfl) (pe_call GA hr (by rfl) Fa.g Fa.F.kp Fa.b .nil pass0 (pa_cons (pv 0) (pa_cons (pv 1) pa_nil))))
      (pss_one (ps_ret (pe_call GL hr2 (by rfl) Lo.g Lo.F.kp Lo.b .nil pass0 (pa_cons (pe_op op_modN (pe_callTy call_int1 (by rfl) B.int (by decide +kernel) (pa_cons (pe_call GA hr (by rfl) Fa.g Fa.F.kp Fa.b .nil pass0 (pa_cons (pv 0) (pa_cons (pv 1) pa_nil))) pa_nil)) (pv 2)) (pa_cons (pv 2) pa_nil))))), ?_⟩
    refine ⟨_, rfl, _, rfl, t, n, rfl, T, n1, n2, fun b H1 b0 b1 s1 => ?_⟩
    refine ⟨_, rfl, _, rfl, t, n, rfl, s1.1, n1, n2, fun a H2 a0 a1 s2 => .inl ⟨_, rfl, _, rfl, _, _, rfl, rfl, (show b ≠ 0 by omega), _, rfl, _, b, rfl, fmod_ge (by omega), by omega, ?_, fun p hp => ?_⟩⟩
    · exact Nat.lt_of_le_of_lt (by omega) n2
    obtain ⟨st, le⟩ := low_step (a := a.fmod b) (b := b) (fmod_ge (by omega)) (fmod_lt (by omega))
    have s3 : Sipped H2 (upd H2 p (.tup [.int ((a.fmod b) / ((Nat.gcd (a.fmod b).natAbs b.natAbs : Nat) : Int)), .int (b / ((Nat.gcd (a.fmod b).natAbs b.natAbs : Nat) : Int))])) t := Sipped.ofSame s2.1 (same_put hp)
    exact q _ _ p _ st (by omega) ((s1.trans s2).trans s3) ((s1.trans s2).free T hp) upd_same
end
end My
set_option Elab.async false
set_option linter.all false
set_option maxRecDepth 100000
set_option maxHeartbeats 4000000
namespace My
open PySem PySem.Spec PyProof.Rows L2 Gn
abbrev sIsInt : Stmt := top 6
abbrev sIsFr : Stmt := top 7
abbrev sIsStep : Stmt := top 8
abbrev sChStep : Stmt := top 11
abbrev sIsNum : Stmt := top 10
abbrev sChNum : Stmt := top 12
theorem scIsInt : FnScope ["given"] ["given"] (defScope sIsInt) := ⟨rfl, rfl, rfl, by decide +kernel, rfl, by decide +kernel, by decide +kernel⟩
theorem scIsFr : FnScope ["given", "top", "bottom"] ["given"] (defScope sIsFr) := ⟨rfl, rfl, rfl, by decide +kernel, rfl, by decide +kernel, by decide +kernel⟩
theorem scIsStep : FnScope ["given"] ["given"] (defScope sIsStep) := ⟨rfl, rfl, rfl, by decide +kernel, rfl, by decide +kernel, by decide +kernel⟩
theorem scChStep : FnScope ["given"] ["given"] (defScope sChStep) := ⟨rfl, rfl, rfl, by decide +kernel, rfl, by decide +kernel, by decide +kernel⟩
theorem scIsNum : FnScope ["given", "least", "most"] ["given", "least", "most"] (defScope sIsNum) := ⟨rfl, rfl, rfl, by decide +kernel, rfl, by decide +kernel, by decide +kernel⟩
theorem scChNum : FnScope ["given", "least", "most"] ["given", "least", "most"] (defScope sChNum) := ⟨rfl, rfl, rfl, by decide +kernel, rfl, by decide +kernel, by decide +kernel⟩
/-- the step x / y stands at t -/
def StepAt (H : Hp) (t : Addr) (x y : Int) : Prop := H t = some (.tup [.int x, .int y]) ∧ IsStep x y
def spIsInt : Sp := fun vs H Q _ => ∃ i : Int, vs = [.int i] ∧ Q (.bl true) H
def spIsSt (r : V) : Sp := fun vs H Q _ => ∃ (t : Addr) (x y : Int), vs = [.ref t] ∧ StepAt H t x y ∧ Q r H
def spChNum : Sp := fun vs H Q _ => ∃ (i a b : Int), vs = [.int i, .int a, .int b] ∧ a ≤ i ∧ i ≤ b ∧ Q .non H
def spIsNum : Sp := fun vs H Q _ => ∃ (i a b : Int), vs = [.int i, .int a, .int b] ∧ a ≤ i ∧ i ≤ b ∧ Q (.bl true) H
structure Bc (mg : Str → Option Value) : Prop where
  isi : mg "isinstance" = none
  int : mg "int" = none
  bool : mg "bool" = none
  tuple : mg "tuple" = none
  len : mg "len" = none
  gcd : mg "gcd" = some (.builtin "math.gcd")
section
variable {P : Program} {w : World} {K : PySem.W.Frag} {mg : Str → Option Value} {base : Heap}
theorem ok_isInt {f : Addr} {fd : FuncData} (F : Fun K "is_integer" "is_integer" sIsInt f fd) (B : Bc mg) : FnOk P w K mg base CX0 1 f fd ["given"] spIsInt := by
  refine F.ok scIsInt (fun vs H Q E h => ?_) (fun cdv A outer s H vs Q E hr h => ?_)
  · obtain ⟨i, rfl, _⟩ := h
    rfl
  · obtain ⟨i, rfl, q⟩ := h
    refine ⟨_, pss_one (ps_ret (pe_and (pe_callB call_isi (by rfl) B.isi (by decide +kernel) (pa_cons (pv 0) (pa_cons (pe_bltn (v := .ty "int") (by rfl) B.int (by decide +kernel) rfl) pa_nil)))
      (pe_one (pe_not (pe_callB call_isi (by rfl) B.isi (by decide +kernel) (pa_cons (pv 0) (pa_cons (pe_bltn (v := .ty "bool") (by rfl) B.bool (by decide +kernel) rfl) pa_nil))))))), ?_⟩
    refine ⟨_, rfl, .int i, .ty "int", _, _, true, rfl, .ty "int", .base (.int i), kit_ty (by decide +kernel), true, rfl, iteT ?_⟩
    exact ⟨_, rfl, .int i, .ty "bool", _, _, false, rfl, .ty "bool", .base (.int i), kit_ty (by decide +kernel), false, rfl, q⟩
theorem ok_isFr {f fI : Addr} {fd fdI : FuncData} (F : Fun K "is_fraction" "is_fraction" sIsFr f fd) (B : Bc mg) (D : Df K mg "is_integer" sIsInt ["given"] fI fdI) : FnOk P w K mg base CX0 2 f fd ["given"] (spIsSt (.bl true)) := by
  have GI : FnOk P w K mg base CX0 1 fI fdI ["given"] spIsInt := ok_isInt D.F B
  refine F.ok scIsFr (fun vs H Q E h => ?_) (fun cdv A outer s H vs Q E hr h => ?_)
  · obtain ⟨t, x, y, rfl, _⟩ := h
    rfl
  · obtain ⟨t, x, y, rfl, ⟨hT, st⟩, q⟩ := h
    refine ⟨_, pss_cons (ps_if (PW.pt (pw_or (pt_not (pt_val (pe_callB call_isi (by rfl) B.isi (by decide +kernel) (pa_cons (pv 0) (pa_cons (pe_bltn (v := .ty "tuple") (by rfl) B.tuple (by decide +kernel) rfl) pa_nil)))))
        (pw_or1 (pt_cmpR op_ne (pe_callB call_len_seq (by rfl) B.len PySem.boot_len (pa_cons (pv 0) pa_nil)) pe_int (nomark _))))) (pss_one (ps_ret pe_bl)) pss_nil)
      (pss_cons (ps_asg (pv 0) (pg_tup (by rfl) (pgs_cons (pg_name (i := 1) scIsFr.nd rfl (.inl rfl)) (pgs_cons (pg_name (i := 2) scIsFr.nd rfl (.inl rfl)) pgs_nil))))
      (pss_cons (ps_if (PW.pt (pw_or (pt_not (pt_val (pe_call GI hr (by rfl) D.g D.F.kp D.b .nil pass0 (pa_cons (pv 1) pa_nil)))) (pw_or1 (pt_not (pt_val (pe_call GI hr (by rfl) D.g D.F.kp D.b .nil pass0 (pa_cons (pv 2) pa_nil))))))) (pss_one (ps_ret pe_bl)) pss_nil)
      (pss_one (ps_ret (pe_and (pe_cmpR op_ge (pv 2) pe_int (nomark _)) (pe_one (pe_cmpR op_eq (pe_callBfun cr_gcd (by rfl) B.gcd (pa_cons (pv 1) (pa_cons (pv 2) pa_nil))) pe_int (nomark _)))))))), ?_⟩
    refine ⟨_, rfl, .ref t, .ty "tuple", _, _, true, rfl, .ty "tuple", .base (.tup hT), kit_ty (by decide +kernel), true, rfl, iteF ?_⟩
    refine ⟨_, rfl, t, _, rfl, .inr (SqT.of hT), rfl, _, rfl, iteF ?_⟩
    refine ⟨_, rfl, t, _, rfl, SqT.of hT, rfl, _, _, rfl, _, _, rfl, rfl, ?_⟩
    refine ⟨_, rfl, x, rfl, true, rfl, iteF ⟨_, rfl, y, rfl, true, rfl, iteF ?_⟩⟩
    have y1 : (1 : Int) ≤ y := by have := st.x0; have := st.xy; omega
    refine ⟨_, rfl, _, _, rfl, rfl, _, rfl, ?_⟩
    rw [decide_eq_true y1]
    refine iteT ⟨_, rfl, _, rfl, x, y, rfl, ?_⟩
    rw [st.co]
    exact ⟨rfl, q⟩
theorem ok_isStep {f fI fR : Addr} {fd fdI fdR : FuncData} (F : Fun K "is_step" "is_step" sIsStep f fd) (B : Bc mg) (D : Df K mg "is_integer" sIsInt ["given"] fI fdI) (R : Df K mg "is_fraction" sIsFr ["given"] fR fdR) : FnOk P w K mg base CX0 3 f fd ["given"] (spIsSt (.bl true)) := by
  have GR : FnOk P w K mg base CX0 2 fR fdR ["given"] (spIsSt (.bl true)) := ok_isFr R.F B D
  refine F.ok scIsStep (fun vs H Q E h => ?_) (fun cdv A outer s H vs Q E hr h => ?_)
  · obtain ⟨t, x, y, rfl, _⟩ := h
    rfl
  · obtain ⟨t, x, y, rfl, ⟨hT, st⟩, q⟩ := h
    refine ⟨_, pss_one (ps_ret (pe_and (pe_call GR hr (by rfl) R.g R.F.kp R.b .nil pass0 (pa_cons (pv 0) pa_nil)) (pe_one (pe_chain op_le op_lt pe_int (pe_ix ix_tup (pv 0) pe_int (fun _ _ => rfl)) (pe_ix ix_tup (pv 0) pe_int (fun _ _ => rfl)))))), ?_⟩
    refine ⟨_, rfl, t, x, y, rfl, ⟨hT, st⟩, true, rfl, iteT ?_⟩
    refine ⟨_, rfl, t, _, 0, .int x, rfl, rfl, SqT.of hT, at_of (j := 0) rfl rfl, _, _, rfl, rfl, _, rfl, ?_⟩
    rw [decide_eq_true st.x0]
    refine iteT ⟨_, rfl, t, _, 1, .int y, rfl, rfl, SqT.of hT, at_of (j := 1) rfl rfl, _, _, rfl, rfl, ?_⟩
    show Q (.bl (decide (x < y))) H
    rw [decide_eq_true st.xy]
    exact q
theorem ok_chStep {f fI fR fS : Addr} {fd fdI fdR fdS : FuncData} (F : Fun K "check_step" "check_step" sChStep f fd) (B : Bc mg) (D : Df K mg "is_integer" sIsInt ["given"] fI fdI) (R : Df K mg "is_fraction" sIsFr ["given"] fR fdR) (S : Df K mg "is_step" sIsStep ["given"] fS fdS) : FnOk P w K mg base CX0 4 f fd ["given"] (spIsSt .non) := by
  have GS : FnOk P w K mg base CX0 3 fS fdS ["given"] (spIsSt (.bl true)) := ok_isStep S.F B D R
  refine F.ok scChStep (fun vs H Q E h => ?_) (fun cdv A outer s H vs Q E hr h => ?_)
  · obtain ⟨t, x, y, rfl, _⟩ := h
    rfl
  · obtain ⟨t, x, y, rfl, st, q⟩ := h
    refine ⟨_, pss_one (ps_if (pt_not (pt_val (pe_call GS hr (by rfl) S.g S.F.kp S.b .nil pass0 (pa_cons (pv 0) pa_nil)))) (pss_one (ps_never)) pss_nil), ?_⟩
    exact ⟨_, rfl, t, x, y, rfl, st, true, rfl, iteF q⟩
theorem ok_isNum {f fI : Addr} {fd fdI : FuncData} (F : Fun K "is_number" "is_number" sIsNum f fd) (B : Bc mg) (D : Df K mg "is_integer" sIsInt ["given"] fI fdI) : FnOk P w K mg base CX0 2 f fd ["given", "least", "most"] spIsNum := by
  have GI : FnOk P w K mg base CX0 1 fI fdI ["given"] spIsInt := ok_isInt D.F B
  refine F.ok scIsNum (fun vs H Q E h => ?_) (fun cdv A outer s H vs Q E hr h => ?_)
  · obtain ⟨i, a, b, rfl, _⟩ := h
    rfl
  · obtain ⟨i, a, b, rfl, h1, h2, q⟩ := h
    refine ⟨_, pss_one (ps_ret (pe_and (pe_call GI hr (by rfl) D.g D.F.kp D.b .nil pass0 (pa_cons (pv 0) pa_nil)) (pe_one (pe_chain op_le op_le (pv 1) (pv 0) (pv 2))))), ?_⟩
    refine ⟨_, rfl, i, rfl, true, rfl, iteT ?_⟩
    refine ⟨_, rfl, _, rfl, _, _, rfl, rfl, _, rfl, ?_⟩
    rw [decide_eq_true h1]
    refine iteT ⟨_, rfl, _, _, rfl, rfl, ?_⟩
    show Q (.bl (decide (i ≤ b))) H
    rw [decide_eq_true h2]
    exact q
theorem ok_chNum {f fN fI : Addr} {fd fdN fdI : FuncData} (F : Fun K "check_number" "check_number" sChNum f fd) (B : Bc mg) (D : Df K mg "is_integer" sIsInt ["given"] fI fdI) (N : Df K mg "is_number" sIsNum ["given", "least", "most"] fN fdN) : FnOk P w K mg base CX0 3 f fd ["given", "least", "most"] spChNum := by
  have GN : FnOk P w K mg base CX0 2 fN fdN ["given", "least", "most"] spIsNum := ok_isNum N.F B D
  refine F.ok scChNum (fun vs H Q E h => ?_) (fun cdv A outer s H vs Q E hr h => ?_)
  · obtain ⟨i, a, b, rfl, _⟩ := h
    rfl
  · obtain ⟨i, a, b, rfl, h1, h2, q⟩ := h
    refine ⟨_, pss_one (ps_if (pt_not (pt_val (pe_call GN hr (by rfl) N.g N.F.kp N.b .nil pass0 (pa_cons (pv 0) (pa_cons (pv 1) (pa_cons (pv 2) pa_nil)))))) (pss_one (ps_never)) pss_nil), ?_⟩
    exact ⟨_, rfl, _, rfl, _, rfl, i, a, b, rfl, h1, h2, true, rfl, iteF q⟩
end
end My
set_option Elab.async false
set_option linter.all false
set_option maxRecDepth 100000
set_option maxHeartbeats 4000000
namespace My
open PySem PySem.Spec PyProof.Rows L2 Gn Mt
abbrev sOrder : Stmt := top 15
theorem scOrder : FnScope ["step", "count", "top", "bottom", "standing", "mark", "at"] ["step", "count"] (defScope sOrder) := ⟨rfl, rfl, rfl, by decide +kernel, rfl, by decide +kernel, by decide +kernel⟩
/-- data lasts while nothing tracked changes -/
theorem sqT_same {H H' : Hp} {a : Addr} {xs : List V} {K : PySem.W.Frag} (e : Same H H') (h : SqT K H a xs) : SqT K H' a xs := by
  rcases h with (h | ⟨o, h⟩) | h
  · exact .inl (.inl (e _ _ h))
  · exact .inl (.inr ⟨o, e _ _ h⟩)
  · exact .inr h
mutual
theorem dp_same {K : PySem.W.Frag} {H H' : Hp} (e : Same H H') : ∀ (d : PyData) (v : V), Dp K H v d → Dp K H' v d
  | .none, _, h => by cases h; exact .non
  | .bool b, _, h => by cases h; exact .bl b
  | .int i, _, h => by cases h; exact .int i
  | .str x, _, h => by cases h; exact .str x
  | .list ds, _, h => by cases h with | lst a b => exact .lst (e.seq a) (dps_same e ds _ b)
  | .tuple ds, _, h => by cases h with | tup a b => exact .tup (sqT_same e a) (dps_same e ds _ b)
  | .dict _, _, h => by cases h
theorem dps_same {K : PySem.W.Frag} {H H' : Hp} (e : Same H H') : ∀ (ds : List PyData) (vs : List V), DpAll K H vs ds → DpAll K H' vs ds
  | [], _, h => by cases h; exact .nil
  | d :: ds, _, h => by cases h with | cons a b => exact .cons (dp_same e d _ a) (dps_same e ds _ b)
end
theorem dp_ints {K : PySem.W.Frag} {H : Hp} : ∀ ns : List Int, DpAll K H (ns.map V.int) (ns.map PyData.int)
  | [] => .nil
  | n :: ns => .cons (.int n) (dp_ints ns)
/-- tuples of ints stand at these addresses, as these lists tell -/
def Tups (H : Hp) : List Addr → List (List Int) → Prop
  | [], [] => True
  | r :: rs, g :: gs => H r = some (.tup (g.map V.int)) ∧ Tups H rs gs
  | _, _ => False
theorem Tups.mono {H H' : Hp} : ∀ {rs : List Addr} {gs : List (List Int)}, Tups H rs gs → (∀ r g, H r = some (.tup g) → H' r = some (.tup g)) → Tups H' rs gs
  | [], [], _, _ => trivial
  | _ :: _, _ :: _, h, k => ⟨k _ _ h.1, h.2.mono k⟩
  | [], _ :: _, h, _ => h.elim
  | _ :: _, [], h, _ => h.elim
theorem Tups.snoc {H : Hp} {r : Addr} {g : List Int} (hr : H r = some (.tup (g.map V.int))) : ∀ {rs : List Addr} {gs : List (List Int)}, Tups H rs gs → Tups H (rs ++ [r]) (gs ++ [g])
  | [], [], _ => ⟨hr, trivial⟩
  | _ :: _, _ :: _, h => ⟨h.1, Tups.snoc hr h.2⟩
  | [], _ :: _, h => h.elim
  | _ :: _, [], h => h.elim
theorem Tups.len {H : Hp} : ∀ {rs : List Addr} {gs : List (List Int)}, Tups H rs gs → rs.length = gs.length
  | [], [], _ => rfl
  | _ :: _, _ :: _, h => congrArg Nat.succ h.2.len
  | [], _ :: _, h => h.elim
  | _ :: _, [], h => h.elim
theorem Tups.dps {K : PySem.W.Frag} {H : Hp} : ∀ {rs : List Addr} {gs : List (List Int)}, Tups H rs gs → DpAll K H (rs.map V.ref) (gs.map fun g => PyData.tuple (g.map PyData.int))
  | [], [], _ => .nil
  | _ :: _, _ :: _, h => .cons (.tup (SqT.of h.1) (dp_ints _)) h.2.dps
  | [], _ :: _, h => h.elim
  | _ :: _, [], h => h.elim
/-- an order as data -/
def ordD (gs : List (List Int)) : PyData := .tuple (gs.map fun g => PyData.tuple (g.map PyData.int))
/-- an order stands at r: a tuple of tuples of ints -/
def OrdAt (H : Hp) (r : Addr) (gs : List (List Int)) : Prop := ∃ rs : List Addr, H r = some (.tup (rs.map V.ref)) ∧ Tups H rs gs
theorem OrdAt.dp {K : PySem.W.Frag} {H : Hp} {r : Addr} {gs : List (List Int)} (h : OrdAt H r gs) : Dp K H (.ref r) (ordD gs) := by
  obtain ⟨rs, h1, h2⟩ := h
  exact .tup (SqT.of h1) h2.dps
theorem OrdAt.same {H H' : Hp} {r : Addr} {gs : List (List Int)} (h : OrdAt H r gs) (e : Same H H') : OrdAt H' r gs := by
  obtain ⟨rs, h1, h2⟩ := h
  exact ⟨rs, e _ _ h1, h2.mono fun r g z => e _ _ z⟩
def spOrder : Sp := fun vs H Q _ => ∃ (t : Addr) (x y n : Int), vs = [.ref t, .int n] ∧ StepAt H t x y ∧ 1 ≤ n ∧ n ≤ 60 ∧
  ∀ r H', Same H H' → H r = none → OrdAt H' r (ord (fun k => (x * k).fmod y) (iota n.toNat)) → Q (.ref r) H'
/-- what stands in the dict after some marks: places, lists of marks -/
structure Stand (f : Int → Int) (ms : List Int) (H : Hp) (d : Addr) (ps : List (Int × Addr)) : Prop where
  dc : H d = some (.dK (ps.map fun p => ((Sum.inl p.1 : Key), V.ref p.2)))
  n1 : (ps.map (·.1)).Nodup
  n2 : (ps.map (·.2)).Nodup
  ls : ∀ p ∈ ps, H p.2 = some (.lst ((grp f ms p.1).map V.int))
  me : ∀ v, v ∈ ps.map (·.1) ↔ v ∈ ms.map f
theorem val_of {ps : List (Int × Addr)} {k : Int} : valV (ps.map fun p => ((Sum.inl p.1 : Key), V.ref p.2)) (Sum.inl k) = (ps.find? fun p => p.1 == k).map fun p => V.ref p.2 := by
  induction ps with
  | nil => rfl
  | cons p ps ih =>
    rw [List.map_cons, List.find?_cons]
    unfold valV at ih ⊢
    by_cases h : p.1 = k
    · simp [h, List.find?_cons]
    · simp only [beq_eq_false_iff_ne.mpr h]
      rw [← ih]
      simp [List.find?_cons, h]
end My
set_option Elab.async false
set_option linter.all false
set_option maxRecDepth 100000
set_option maxHeartbeats 4000000
namespace My
open PySem PySem.Spec PyProof.Rows L2 Gn Mt
structure Bo (mg : Str → Option Value) : Prop where
  c : Bc mg
  range : mg "range" = none
  sorted : mg "sorted" = none
  mo : ∃ tk, mg "_MOST_ORDERED" = some (.int 60 tk)
theorem inl_dK {H : Hp} {d l : Addr} {kvs : List (Key × V)} {xs : List V} (h : H d = some (.dK kvs)) (h' : H l = some (.lst xs)) : l ≠ d := by
  rintro rfl
  rw [h] at h'; cases h'
/-- one mark more -/
theorem Stand.put {f : Int → Int} {ms : List Int} {H H' : Hp} {d : Addr} {ps : List (Int × Addr)} {k : Int} {p : Int × Addr} (S : Stand f ms H d ps) (hp : p ∈ ps) (e : p.1 = f k)
    (h1 : H' p.2 = some (.lst ((grp f ms p.1).map V.int ++ [V.int k]))) (h2 : ∀ b o, H b = some o → b ≠ p.2 → H' b = some o) : Stand f (ms ++ [k]) H' d ps := by
  refine ⟨h2 d _ S.dc fun z => ?_, S.n1, S.n2, fun q hq => ?_, fun v => ?_⟩
  · have := S.ls p hp
    rw [← z, S.dc] at this; cases this
  · by_cases c : q = p
    · subst c
      rw [h1, grp_snoc, if_pos e.symm, List.map_append]; rfl
    · have n1 : q.2 ≠ p.2 := fun z => c ((Mt.map_inj S.n2 hq hp z))
      have n2 : ¬ f k = q.1 := fun z => c ((Mt.map_inj S.n1 hq hp (e ▸ z.symm)))
      rw [h2 _ _ (S.ls q hq) n1, grp_snoc, if_neg n2]
  · rw [S.me v, List.map_append, List.mem_append]
    constructor
    · exact .inl
    · rintro (z | z)
      · exact z
      · rw [List.map_singleton, List.mem_singleton] at z
        rw [z, ← e]
        exact (S.me _).mp (List.mem_map.mpr ⟨p, hp, rfl⟩)
theorem Stand.new {f : Int → Int} {ms : List Int} {H H' : Hp} {d l : Addr} {ps : List (Int × Addr)} {k : Int} (S : Stand f ms H d ps) (hn : f k ∉ ps.map (·.1)) (hl : H l = none)
    (h0 : H' d = some (.dK (ps.map (fun p => ((Sum.inl p.1 : Key), V.ref p.2)) ++ [(Sum.inl (f k), V.ref l)]))) (h1 : H' l = some (.lst [V.int k])) (h2 : ∀ b o, H b = some o → b ≠ d → H' b = some o) : Stand f (ms ++ [k]) H' d (ps ++ [(f k, l)]) := by
  have ne : ∀ q ∈ ps, q.2 ≠ l := fun q hq z => by have := S.ls q hq; rw [z, hl] at this; cases this
  refine ⟨by rw [List.map_append]; exact h0, ?_, ?_, fun q hq => ?_, fun v => ?_⟩
  · rw [List.map_append]
    exact nd_snoc S.n1 hn
  · rw [List.map_append]
    refine nd_snoc S.n2 fun z => ?_
    obtain ⟨q, hq, e⟩ := List.mem_map.mp z
    exact ne q hq e
  · rcases List.mem_append.mp hq with z | z
    · have n2 : ¬ f k = q.1 := fun e => hn (List.mem_map.mpr ⟨q, z, e.symm⟩)
      have nd : q.2 ≠ d := fun e => by have := S.ls q z; rw [e, S.dc] at this; cases this
      rw [h2 _ _ (S.ls q z) nd, grp_snoc, if_neg n2]
    · obtain rfl := List.mem_singleton.mp z
      show H' l = _
      rw [h1, grp_snoc, if_pos rfl, grp_none fun z => hn ((S.me _).mpr z)]; rfl
  · rw [List.map_append, List.mem_append, S.me v, List.map_append, List.mem_append]
    exact Iff.rfl
section
variable {P : Program} {w : World} {K : PySem.W.Frag} {mg : Str → Option Value} {base : Heap}
theorem ok_order {f fI fR fS fC fN : Addr} {fd fdI fdR fdS fdC fdN : FuncData} (F : Fun K "order" "order" sOrder f fd) (B : Bo mg) (D : Df K mg "is_integer" sIsInt ["given"] fI fdI) (R : Df K mg "is_fraction" sIsFr ["given"] fR fdR) (S : Df K mg "is_step" sIsStep ["given"] fS fdS)
    (C : Df K mg "check_step" sChStep ["given"] fC fdC) (N : Df K mg "check_number" sChNum ["given", "least", "most"] fN fdN) {fM : Addr} {fdM : FuncData} (Nn : Df K mg "is_number" sIsNum ["given", "least", "most"] fM fdM) : FnOk P w K mg base CX0 5 f fd ["step", "count"] spOrder := by
  have GC : FnOk P w K mg base CX0 4 fC fdC ["given"] (spIsSt .non) := ok_chStep C.F B.c D R S
  have GN : FnOk P w K mg base CX0 3 fN fdN ["given", "least", "most"] spChNum := ok_chNum N.F B.c D Nn
  refine F.ok scOrder (fun vs H Q E h => ?_) (fun cdv A outer s H vs Q E hr h => ?_)
  · obtain ⟨t, x, y, n, rfl, _⟩ := h
    rfl
  · obtain ⟨t, x, y, n, rfl, ⟨hT, st⟩, n1, n2, q⟩ := h
    obtain ⟨tk, hmo⟩ := B.mo
    have hr3 : Room 3 _ := hr.mono (by decide)
    have hu := hu_of hr
    refine ⟨_, pss_cons (ps_expr (pe_call GC hr (by rfl) C.g C.F.kp C.b .nil pass0 (pa_cons (pv 0) pa_nil)))
      (pss_cons (ps_expr (pe_call GN hr3 (by rfl) N.g N.F.kp N.b .nil pass0 (pa_cons (pv 1) (pa_cons pe_int (pa_cons (pe_glob (v := .int 60) rfl hmo ⟨_, rfl⟩) pa_nil)))))
      (pss_cons (ps_asg (pv 0) (pg_tup (by rfl) (pgs_cons (pg_name (i := 2) scOrder.nd rfl (.inl rfl)) (pgs_cons (pg_name (i := 3) scOrder.nd rfl (.inl rfl)) pgs_nil))))
      (pss_cons (ps_set (i := 4) scOrder.nd rfl (.inr rfl) pe_dnewK)
      (pss_cons (ps_for PassesOwn.never rfl (pi_range1 rfl B.range (pa_cons (pv 1) pa_nil)) (pg_name (i := 5) scOrder.nd rfl (.inl rfl))
        (pss_one (ps_expr (pe_bm PySem.F.plainAttrs_list PySem.F.slot_list_append PySem.F.type_list_append mt_append
          (pe_dsetd (pv 4) (pe_op op_modN (pe_op op_mul (pv 2) (pv 5)) (pv 3)) (pe_lst pa_nil) ⟨rfl, rfl, rfl, rfl⟩) (pa_cons (pv 5) pa_nil)))))
      (pss_one (ps_ret (pe_callTy cr_tupL (by rfl) B.c.tuple (by decide +kernel) (pa_cons
        (pe_lc (te := tCB (rTupL K) (tCons (tDGet (tVar 4) (tVar 6)) tNil)) (own := [("at", 6)]) (g := gName 6) (tt := tYes) rfl scOrder.nd (pi_list (pe_callB (call_sortedDI rfl) (by rfl) B.sorted (by decide +kernel) (pa_cons (pv 4) pa_nil)))
          (blkOk_by (N := ["step", "count", "top", "bottom", "standing", "mark", "at"]) (sc := defScope sOrder) (by decide +kernel)) (fun _ _ _ _ _ => pg_name (i := 6) scOrder.nd rfl (.inl rfl)) (fun _ _ _ _ _ => pts_nil)
          (fun _ _ _ _ _ => pe_callTy cr_tupL (by rfl) B.c.tuple (by decide +kernel) (pa_cons (pe_dget hu (pv 4) (pv 6) (fun _ _ => rfl)) pa_nil))) pa_nil)))))))), ?_⟩
    have y1 : 0 < y := by have := st.x0; have := st.xy; omega
    -- check_step(step); check_number(count, 1, 60); top, bottom = step
    refine ⟨_, rfl, t, x, y, rfl, ⟨hT, st⟩, ?_⟩
    refine ⟨_, rfl, n, 1, 60, rfl, n1, n2, ?_⟩
    refine ⟨_, rfl, t, _, rfl, SqT.of hT, rfl, _, _, rfl, _, _, rfl, rfl, ?_⟩
    -- standing = {}
    intro d hd
    have s0 : Same H (upd H d (.dK [])) := same_put hd
    -- for mark in range(count)
    refine ⟨_, rfl, n, rfl, by omega, by omega, ?_⟩
    refine for_range (lo := 0) (n := n.toNat) (fun i σ H1 => ∃ (ps : List (Int × Addr)) (m : Option V), σ = [some (.ref t), some (.int n), some (.int x), some (.int y), some (.ref d), m, none] ∧ Same H H1 ∧ Stand (fun k => (x * k).fmod y) (iota i) H1 d ps ∧ (∀ p ∈ ps, H p.2 = none) ∧ ps.length ≤ i)
      ⟨[], none, rfl, s0, ⟨upd_same, List.nodup_nil, List.nodup_nil, (fun p hp => by simp at hp), (fun v => by simp [iota])⟩, (fun p hp => by simp at hp), Nat.le_refl _⟩ ?_ ?_
    · rintro i σ H1 hi ⟨ps, m, rfl, s1, T, hf, hl⟩
      rw [Int.zero_add]
      have hi' : (i : Int) < 60 := by omega
      refine ⟨_, rfl, d, rfl, .inl ⟨_, .inl T.dc⟩, _, rfl, _, rfl, _, _, rfl, rfl, .inr ⟨by omega, by omega⟩, _, rfl, _, _, rfl, rfl, (show y ≠ 0 by omega), Nat.zero_le _, fun l hl' => ?_⟩
      have hdl : d ≠ l := ne_of_none T.dc hl'
      have s2 : Same H1 (upd H1 l (.lst [])) := same_put hl'
      refine ⟨_, Sum.inl ((x * (i : Int)).fmod y), s2 _ _ T.dc, rfl, (by rw [List.length_map]; exact small1000 (by omega)), fun v hv => ?_, fun hn => ?_⟩
      · rw [val_of] at hv
        obtain ⟨p, hp, rfl⟩ := Option.map_eq_some_iff.mp hv
        have hm : p ∈ ps := List.mem_of_find?_eq_some hp
        have he : p.1 = (x * (i : Int)).fmod y := by simpa using List.find?_some hp
        have hL := s2 _ _ (T.ls p hm)
        refine ⟨.inl ⟨rfl, _, .inl (.inl hL)⟩, _, rfl, p.2, _, _, rfl, rfl, hL, ?_, ?_⟩
        · rw [List.length_map]
          exact small1000 (Nat.le_trans (List.length_filter_le _ _) (by rw [iota_len]; omega))
        · refine ⟨ps, _, rfl, fun b o e => ?_, ?_, hf, by omega⟩
          · rw [upd_ne (ne_of_none e (hf p hm))]
            exact s2 _ _ (s1 _ _ e)
          · rw [iota_succ]
            refine T.put hm he upd_same fun b o e hb => ?_
            rw [upd_ne hb]
            exact s2 _ _ e
      · have hk : (x * (i : Int)).fmod y ∉ ps.map (·.1) := fun z => by
          rw [val_of, Option.map_eq_none_iff, List.find?_eq_none] at hn
          obtain ⟨p, hp, e⟩ := List.mem_map.mp z
          exact hn p hp (by simpa using e)
        have hL : upd (upd H1 l (.lst [])) d (.dK (putK (ps.map fun p => ((Sum.inl p.1 : Key), V.ref p.2)) (Sum.inl ((x * (i : Int)).fmod y)) (.ref l))) l = some (.lst []) := by rw [upd_ne hdl.symm, upd_same]
        refine ⟨.inl ⟨rfl, _, .inl (.inl hL)⟩, _, rfl, l, _, _, rfl, rfl, hL, (by decide), ?_⟩
        have hln : H l = none := s1.free hl'
        refine ⟨ps ++ [((x * (i : Int)).fmod y, l)], _, rfl, fun b o e => ?_, ?_, fun p hp => ?_, by rw [List.length_append]; show ps.length + 1 ≤ i + 1; omega⟩
        · rw [upd_ne (ne_of_none e hln), upd_ne (ne_of_none e hd)]
          exact s2 _ _ (s1 _ _ e)
        · rw [iota_succ]
          refine T.new hk hl' ?_ upd_same fun b o e hb => ?_
          · rw [upd_ne hdl, upd_same, putK_new _ hn]
          · rw [upd_ne (ne_of_none e hl'), upd_ne hb]
            exact s2 _ _ e
        · rcases List.mem_append.mp hp with z | z
          · exact hf p z
          · obtain rfl := List.mem_singleton.mp z
            exact hln
    · rintro σ H1 ⟨ps, m, rfl, s1, T, hf, hl⟩
      refine ⟨_, rfl, d, _, ps.map (·.1), rfl, .inl T.dc, (by rw [List.map_map, List.map_map]; rfl), (by rw [List.length_map]; omega), fun ys p0 perm pw hp0 => ?_⟩
      have s2 : Same H1 (upd H1 p0 (.lst (ys.map V.int))) := same_put hp0
      have ey : ys = sortU ((iota n.toNat).map fun k => (x * k).fmod y) := strict_one (le_nodup_lt pw (perm.nodup_iff.mpr T.n1)) (sortU_pw _) fun v => by rw [perm.mem_iff, T.me v, sortU_mem]
      refine ⟨p0, rfl, ⟨_, .inl (.inl upd_same)⟩, fun D hD => ?_⟩
      have s3 : Same (upd H1 p0 (.lst (ys.map V.int))) (upd (upd H1 p0 (.lst (ys.map V.int))) D (.lst [])) := same_put hD
      refine lc_list (K := K) (a := p0) (xs := ys.map V.int) (fun j H2 => ∃ rs : List Addr, H2 D = some (.lst (rs.map V.ref)) ∧ Tups H2 rs ((ys.take j).map (grp (fun k => (x * k).fmod y) (iota n.toNat))) ∧ Same (upd H1 p0 (.lst (ys.map V.int))) H2)
        ⟨[], upd_same, trivial, s3⟩ (fun j H2 _ ⟨rs, _, _, e⟩ => .inl (.inl (e _ _ upd_same))) ?_ ?_
      · rintro j v H2 hj ⟨rs, h1, h2, h3⟩
        rw [List.getElem?_map] at hj
        obtain ⟨u, hu, rfl⟩ := Option.map_eq_some_iff.mp hj
        have hm : u ∈ ps.map (·.1) := perm.mem_iff.mp (List.mem_of_getElem? hu)
        obtain ⟨p, hp⟩ : ∃ p, ps.find? (fun p => p.1 == u) = some p := by
          cases e : ps.find? (fun p => p.1 == u) with
          | some p => exact ⟨p, rfl⟩
          | none =>
            rw [List.find?_eq_none] at e
            obtain ⟨p, hp, z⟩ := List.mem_map.mp hm
            exact absurd (by simpa using z) (e p hp)
        have hpm : p ∈ ps := List.mem_of_find?_eq_some hp
        have hpe : p.1 = u := by simpa using List.find?_some hp
        have hd2 := h3 _ _ (s2 _ _ T.dc)
        have hL := h3 _ _ (s2 _ _ (T.ls p hpm))
        refine ⟨rfl, _, rfl, _, rfl, d, .ref p.2, rfl, ?_, p.2, _, rfl, SqL.of hL, fun r hr => ?_⟩
        · have z := DGet.k (k := Sum.inl u) hd2
          rw [val_of, hp] at z
          exact z
        · have hrD : D ≠ r := ne_of_none h1 hr
          refine ⟨rs.map V.ref, (by rw [upd_ne hrD]; exact h1), ?_, rs ++ [r], (by rw [upd_same, List.map_append]; rfl), ?_, fun b o e => ?_⟩
          · rw [List.length_map, h2.len, List.length_map, List.length_take]
            exact small1000 (by have := perm.length_eq; rw [List.length_map] at this; omega)
          · rw [List.take_add_one, hu, List.map_append]
            refine Tups.snoc ?_ (h2.mono fun r' g e => ?_)
            · rw [upd_ne hrD.symm, upd_same, hpe]
            · have n1 : r' ≠ D := ne_of e h1 (by intro z; cases z)
              rw [upd_ne n1, upd_ne (ne_of_none e hr)]
              exact e
          · have e2 := h3 _ _ e
            rw [upd_ne (ne_of_none e hD), upd_ne (ne_of_none e2 hr)]
            exact e2
      · rintro H2 ⟨rs, h1, h2, h3⟩
        refine ⟨D, _, rfl, SqL.of h1, fun r hr => ?_⟩
        have s4 : Same H2 (upd H2 r (.tup (rs.map V.ref))) := same_put hr
        refine q r _ (((s1.trans s2).trans h3).trans s4) (((s1.trans s2).trans h3).free hr) ⟨rs, upd_same, ?_⟩
        rw [List.length_map, List.take_length, ey] at h2
        exact h2.mono fun r' g e => s4 _ _ e
end
end My
set_option Elab.async false
set_option linter.all false
set_option maxRecDepth 100000
set_option maxHeartbeats 4000000
namespace My
open PySem PySem.Spec PyProof.Rows L2 Gn Mt
abbrev sIsLess : Stmt := top 9
abbrev sParting : Stmt := top 16
abbrev sBetween : Stmt := top 17
abbrev sSimplest : Stmt := top 18
abbrev sSb : Stmt := top 19
abbrev sLW : Stmt := top 20
abbrev sIW : Stmt := top 21
abbrev sTurned : Stmt := top 22
theorem scIsLess : FnScope ["one", "other"] ["one", "other"] (defScope sIsLess) := ⟨rfl, rfl, rfl, by decide +kernel, rfl, by decide +kernel, by decide +kernel⟩
theorem scParting : FnScope ["one", "other"] ["one", "other"] (defScope sParting) := ⟨rfl, rfl, rfl, by decide +kernel, rfl, by decide +kernel, by decide +kernel⟩
theorem scBetween : FnScope ["one", "other"] ["one", "other"] (defScope sBetween) := ⟨rfl, rfl, rfl, by decide +kernel, rfl, by decide +kernel, by decide +kernel⟩
theorem scSb : FnScope ["one", "other"] ["one", "other"] (defScope sSb) := ⟨rfl, rfl, rfl, by decide +kernel, rfl, by decide +kernel, by decide +kernel⟩
theorem scSimplest : FnScope ["low", "high", "first", "last", "wholes", "top", "whole", "bottom"] ["low", "high", "first", "last"] (defScope sSimplest) := ⟨rfl, rfl, rfl, by decide +kernel, rfl, by decide +kernel, by decide +kernel⟩
theorem scLW : FnScope ["low", "first", "top", "bottom"] ["low", "first"] (defScope sLW) := ⟨rfl, rfl, rfl, by decide +kernel, rfl, by decide +kernel, by decide +kernel⟩
theorem scIW : FnScope ["whole", "high", "last", "top", "bottom"] ["whole", "high", "last"] (defScope sIW) := ⟨rfl, rfl, rfl, by decide +kernel, rfl, by decide +kernel, by decide +kernel⟩
theorem scTurned : FnScope ["fraction", "whole", "top", "bottom"] ["fraction", "whole"] (defScope sTurned) := ⟨rfl, rfl, rfl, by decide +kernel, rfl, by decide +kernel, by decide +kernel⟩
/-- both ends belong -/
def spSimplest : Sp := fun vs H Q _ => ∃ (t u : Addr) (a b c d : Int), vs = [.ref t, .ref u, .bl true, .bl true] ∧ H t = some (.tup [.int a, .int b]) ∧ H u = some (.tup [.int c, .int d]) ∧ Ok a b c d ∧
  ∀ p q r H', Best a b c d p q → Same H H' → H r = none → H' r = some (.tup [.int p, .int q]) → Q (.ref r) H'
def spLW : Sp := fun vs H Q _ => ∃ (t : Addr) (a b : Int), vs = [.ref t, .bl true] ∧ H t = some (.tup [.int a, .int b]) ∧ 0 < b ∧ b.natAbs < 2 ^ 100 ∧ Q (.int (-(-a / b))) H
def spIW : Sp := fun vs H Q _ => ∃ (u : Addr) (n c d : Int), vs = [.int n, .ref u, .bl true] ∧ H u = some (.tup [.int c, .int d]) ∧ n.natAbs < 2 ^ 200 ∧ d.natAbs < 2 ^ 200 ∧ Q (.bl (decide (n * d ≤ c))) H
def spTurned : Sp := fun vs H Q _ => ∃ (t : Addr) (a b w : Int), vs = [.ref t, .int w] ∧ H t = some (.tup [.int a, .int b]) ∧ w.natAbs < 2 ^ 200 ∧ b.natAbs < 2 ^ 200 ∧ ∀ r, H r = none → Q (.ref r) (upd H r (.tup [.int b, .int (a - w * b)]))
def spLess : Sp := fun vs H Q _ => ∃ (s t : Addr) (a b c d : Int), vs = [.ref s, .ref t] ∧ H s = some (.tup [.int a, .int b]) ∧ H t = some (.tup [.int c, .int d]) ∧ a.natAbs < 2 ^ 200 ∧ b.natAbs < 2 ^ 200 ∧ c.natAbs < 2 ^ 200 ∧ d.natAbs < 2 ^ 200 ∧ Q (.bl (decide (a * d < c * b))) H
theorem lt100 {z : Int} (h0 : 0 ≤ z) (h : z < 2 ^ 100) : z.natAbs < 2 ^ 100 := by omega
theorem lt200 {z : Int} (h0 : 0 ≤ z) (h : z < 2 ^ 100) : z.natAbs < 2 ^ 200 := by omega
theorem neg_div {a b : Int} (n : Nat) (h : b.natAbs < 2 ^ n) (h0 : 0 < b) (hn : 0 < n) (h9 : n ≤ 9000) : CDivW (-a) b := wide_div h0 h hn h9
/-- where an integer lies within -/
theorem within_iff {a b c d : Int} (k : Ok a b c d) : -(-a / b) * d ≤ c ↔ ¬ (a % b ≠ 0 ∧ a / b = c / d) := by
  constructor
  · rintro h ⟨z, e⟩
    have b0 := k.b0
    have d0 := k.d0
    have e1 := Int.emod_add_mul_ediv a b
    have m0 := Int.emod_nonneg a (show b ≠ 0 by omega)
    have m1 := Int.emod_lt_of_pos a b0
    have ce : -(-a / b) = a / b + 1 := ceil_is b0 (by rw [Int.mul_add]; omega) (by rw [show a / b + 1 - 1 = a / b by omega]; omega)
    rw [ce, e] at h
    have e2 := Int.emod_add_mul_ediv c d
    have n1 := Int.emod_lt_of_pos c d0
    rw [Int.add_mul, Int.mul_comm] at h
    omega
  · intro h
    have := (Best.whole k.a0 k.b0 k.d0 k.le h).hi
    omega
section
variable {P : Program} {w : World} {K : PySem.W.Frag} {mg : Str → Option Value} {base : Heap}
theorem ok_less {f : Addr} {fd : FuncData} (F : Fun K "is_less" "is_less" sIsLess f fd) : FnOk P w K mg base CX0 1 f fd ["one", "other"] spLess := by
  refine F.ok scIsLess (fun vs H Q E h => ?_) (fun cdv A outer s H vs Q E hr h => ?_)
  · obtain ⟨s, t, a, b, c, d, rfl, _⟩ := h
    rfl
  · obtain ⟨s, t, a, b, c, d, rfl, hS, hT, ba, bb, bc, bd, q⟩ := h
    refine ⟨_, pss_one (ps_ret (pe_cmpR op_lt (pe_op op_mulW (pe_ix ix_tup (pv 0) pe_int (fun _ _ => rfl)) (pe_ix ix_tup (pv 1) pe_int (fun _ _ => rfl))) (pe_op op_mulW (pe_ix ix_tup (pv 1) pe_int (fun _ _ => rfl)) (pe_ix ix_tup (pv 0) pe_int (fun _ _ => rfl))) (nomark _))), ?_⟩
    exact ⟨_, rfl, s, _, 0, .int a, rfl, rfl, SqT.of hS, at_of (j := 0) rfl rfl, _, rfl, t, _, 1, .int d, rfl, rfl, SqT.of hT, at_of (j := 1) rfl rfl, _, _, rfl, rfl, wide_mul ba bd (by decide) (by decide) (by decide),
      _, rfl, t, _, 0, .int c, rfl, rfl, SqT.of hT, at_of (j := 0) rfl rfl, _, rfl, s, _, 1, .int b, rfl, rfl, SqT.of hS, at_of (j := 1) rfl rfl, _, _, rfl, rfl, wide_mul bc bb (by decide) (by decide) (by decide), _, _, rfl, rfl, q⟩
theorem ok_lw {f : Addr} {fd : FuncData} (F : Fun K "_least_whole" "_least_whole" sLW f fd) : FnOk P w K mg base CX0 1 f fd ["low", "first"] spLW := by
  refine F.ok scLW (fun vs H Q E h => ?_) (fun cdv A outer s H vs Q E hr h => ?_)
  · obtain ⟨t, a, b, rfl, _⟩ := h
    rfl
  · obtain ⟨t, a, b, rfl, hT, b0, bb, q⟩ := h
    refine ⟨_, pss_cons (ps_asg (pv 0) (pg_tup (by rfl) (pgs_cons (pg_name (i := 2) scLW.nd rfl (.inl rfl)) (pgs_cons (pg_name (i := 3) scLW.nd rfl (.inl rfl)) pgs_nil))))
      (pss_cons (ps_if (pt_val (pv 1)) (pss_one (ps_ret (pe_un un_neg (pe_op op_fdivW (pe_un un_neg (pv 2)) (pv 3))))) pss_nil)
      (pss_one ps_never)), ?_⟩
    refine ⟨_, rfl, t, _, rfl, SqT.of hT, rfl, _, _, rfl, _, _, rfl, rfl, ?_⟩
    refine ⟨_, rfl, true, rfl, iteT ?_⟩
    exact ⟨_, rfl, _, rfl, _, rfl, _, _, rfl, rfl, neg_div 100 bb b0 (by decide) (by decide), _, rfl, q⟩
theorem ok_iw {f : Addr} {fd : FuncData} (F : Fun K "_is_within" "_is_within" sIW f fd) : FnOk P w K mg base CX0 1 f fd ["whole", "high", "last"] spIW := by
  refine F.ok scIW (fun vs H Q E h => ?_) (fun cdv A outer s H vs Q E hr h => ?_)
  · obtain ⟨u, n, c, d, rfl, _⟩ := h
    rfl
  · obtain ⟨u, n, c, d, rfl, hU, bn, bd, q⟩ := h
    refine ⟨_, pss_cons (ps_asg (pv 1) (pg_tup (by rfl) (pgs_cons (pg_name (i := 3) scIW.nd rfl (.inl rfl)) (pgs_cons (pg_name (i := 4) scIW.nd rfl (.inl rfl)) pgs_nil))))
      (pss_one (ps_ret (pe_or (pe_cmpR op_lt (pe_op op_mulW (pv 0) (pv 4)) (pv 3) (nomark _)) (pe_one (pe_and (pv 2) (pe_one (pe_cmpR op_eq (pe_op op_mulW (pv 0) (pv 4)) (pv 3) (nomark _)))))))), ?_⟩
    have cm := wide_mul bn bd (by decide) (by decide) (by decide)
    refine ⟨_, rfl, u, _, rfl, SqT.of hU, rfl, _, _, rfl, _, _, rfl, rfl, ?_⟩
    refine ⟨_, rfl, _, rfl, _, _, rfl, rfl, cm, _, rfl, _, _, rfl, rfl, _, rfl, ?_⟩
    refine ite2 (fun hc => ?_) (fun hc => ?_)
    · have h1 : n * d < c := of_decide_eq_true hc
      rw [decide_eq_true (show n * d ≤ c by omega)] at q
      exact q
    · have h1 : ¬ n * d < c := fun z => hc (decide_eq_true z)
      refine ⟨_, rfl, true, rfl, iteT ⟨_, rfl, _, rfl, _, _, rfl, rfl, cm, _, rfl, rfl, ?_⟩⟩
      have e : decide (V.int (n * d) = V.int c) = decide (n * d ≤ c) := by
        rw [decide_eq_decide]
        exact ⟨fun y => by have := V.int.inj y; omega, fun y => congrArg V.int (by omega)⟩
      rw [← e] at q
      exact q
theorem ok_turned {f : Addr} {fd : FuncData} (F : Fun K "_turned" "_turned" sTurned f fd) : FnOk P w K mg base CX0 1 f fd ["fraction", "whole"] spTurned := by
  refine F.ok scTurned (fun vs H Q E h => ?_) (fun cdv A outer s H vs Q E hr h => ?_)
  · obtain ⟨t, a, b, n, rfl, _⟩ := h
    rfl
  · obtain ⟨t, a, b, n, rfl, hT, bn, bb, q⟩ := h
    refine ⟨_, pss_cons (ps_asg (pv 0) (pg_tup (by rfl) (pgs_cons (pg_name (i := 2) scTurned.nd rfl (.inl rfl)) (pgs_cons (pg_name (i := 3) scTurned.nd rfl (.inl rfl)) pgs_nil))))
      (pss_one (ps_ret (pe_tup (pa_cons (pv 3) (pa_cons (pe_op op_sub (pv 2) (pe_op op_mulW (pv 1) (pv 3))) pa_nil))))), ?_⟩
    refine ⟨_, rfl, t, _, rfl, SqT.of hT, rfl, _, _, rfl, _, _, rfl, rfl, ?_⟩
    exact ⟨_, rfl, _, rfl, _, rfl, _, rfl, _, _, rfl, rfl, wide_mul bn bb (by decide) (by decide) (by decide), _, _, rfl, rfl, (by show 2 ≤ sizeLine; decide), fun r hr => q r hr⟩
/-- what the simplest one asks of the module -/
structure Si (K : PySem.W.Frag) (mg : Str → Option Value) where
  rv : mg "reversed" = none
  fm : Addr × FuncData
  fa : Addr × FuncData
  fb : Addr × FuncData
  ft : Addr × FuncData
  fl : Addr × FuncData
  m : Df K mg "simplest_in" sSimplest ["low", "high", "first", "last"] fm.1 fm.2
  lw : Df K mg "_least_whole" sLW ["low", "first"] fa.1 fa.2
  iw : Df K mg "_is_within" sIW ["whole", "high", "last"] fb.1 fb.2
  tu : Df K mg "_turned" sTurned ["fraction", "whole"] ft.1 ft.2
  il : Df K mg "is_less" sIsLess ["one", "other"] fl.1 fl.2
theorem ok_simplest {f fA fB fC : Addr} {fd fdA fdB fdC : FuncData} (F : Fun K "simplest_in" "simplest_in" sSimplest f fd) (mr : mg "reversed" = none) (LW : Df K mg "_least_whole" sLW ["low", "first"] fA fdA) (IW : Df K mg "_is_within" sIW ["whole", "high", "last"] fB fdB)
    (TU : Df K mg "_turned" sTurned ["fraction", "whole"] fC fdC) : FnOk P w K mg base CX0 2 f fd ["low", "high", "first", "last"] spSimplest := by
  have GL : FnOk P w K mg base CX0 1 fA fdA ["low", "first"] spLW := ok_lw LW.F
  have GW : FnOk P w K mg base CX0 1 fB fdB ["whole", "high", "last"] spIW := ok_iw IW.F
  have GT : FnOk P w K mg base CX0 1 fC fdC ["fraction", "whole"] spTurned := ok_turned TU.F
  refine F.ok scSimplest (fun vs H Q E h => ?_) (fun cdv A outer s H vs Q E hr h => ?_)
  · obtain ⟨t, u, a, b, c, d, rfl, _⟩ := h
    rfl
  · obtain ⟨t, u, a, b, c, d, rfl, hT, hU, ok, q⟩ := h
    refine ⟨_, pss_cons (ps_set (i := 4) scSimplest.nd rfl (.inl rfl) (pe_lst pa_nil))
      (pss_cons (ps_set (i := 5) scSimplest.nd rfl (.inl rfl) (pe_call GL hr (by rfl) LW.g LW.F.kp LW.b .nil pass0 (pa_cons (pv 0) (pa_cons (pv 2) pa_nil))))
      (pss_cons (ps_while PassesOwn.never (pt_not (pt_val (pe_call GW hr (by rfl) IW.g IW.F.kp IW.b .nil pass0 (pa_cons (pv 5) (pa_cons (pv 1) (pa_cons (pv 3) pa_nil))))))
        (pss_cons (ps_set (i := 6) scSimplest.nd rfl (.inl rfl) (pe_op op_fdivW (pe_ix ix_tup (pv 0) pe_int (fun _ _ => rfl)) (pe_ix ix_tup (pv 0) pe_int (fun _ _ => rfl))))
        (pss_cons (ps_expr (pe_bm PySem.F.plainAttrs_list PySem.F.slot_list_append PySem.F.type_list_append mt_append (pv 4) (pa_cons (pv 6) pa_nil)))
        (pss_cons (ps_par (i := 0) (j := 1) (by rfl) scSimplest.nd rfl rfl (by decide) rfl rfl (pa_cons (pe_call GT hr (by rfl) TU.g TU.F.kp TU.b .nil pass0 (pa_cons (pv 1) (pa_cons (pv 6) pa_nil))) (pa_cons (pe_call GT hr (by rfl) TU.g TU.F.kp TU.b .nil pass0 (pa_cons (pv 0) (pa_cons (pv 6) pa_nil))) pa_nil)) (by rfl))
        (pss_cons (ps_par (i := 2) (j := 3) (by rfl) scSimplest.nd rfl rfl (by decide) rfl rfl (pa_cons (pv 3) (pa_cons (pv 2) pa_nil)) (by rfl))
        (pss_one (ps_set (i := 5) scSimplest.nd rfl (.inl rfl) (pe_call GL hr (by rfl) LW.g LW.F.kp LW.b .nil pass0 (pa_cons (pv 0) (pa_cons (pv 2) pa_nil))))))))))
      (pss_cons (ps_set (i := 7) scSimplest.nd rfl (.inl rfl) pe_int)
      (pss_cons (ps_for PassesOwn.never rfl (pi_reversed (by rfl) mr (pa_cons (pv 4) pa_nil)) (pg_name (i := 6) scSimplest.nd rfl (.inl rfl))
        (pss_one (ps_par (i := 5) (j := 7) (by rfl) scSimplest.nd rfl rfl (by decide) rfl rfl (pa_cons (pe_op op_add (pe_op op_mulW (pv 6) (pv 5)) (pv 7)) (pa_cons (pv 5) pa_nil)) (by rfl))))
      (pss_one (ps_ret (pe_tup (pa_cons (pv 5) (pa_cons (pv 7) pa_nil))))))))), ?_⟩
    refine ⟨Nat.zero_le _, fun o ho => ?_⟩
    have s1 := same_put (o := HO.lst []) ho
    refine ⟨_, rfl, _, rfl, t, a, b, rfl, s1 _ _ hT, ok.b0, lt100 (by have := ok.b0; omega) ok.b1, ?_⟩
    dsimp only [tSeq, tAsg, gName]
    refine while_by (fun σ H' => ∃ (t' u' : Addr) (rs : List Int) (a' b' c' d' : Int) (y : Option V), σ = [some (.ref t'), some (.ref u'), some (.bl true), some (.bl true), some (.ref o), some (.int (-(-a' / b'))), y, none] ∧ Same H H' ∧ H' o = some (.lst (rs.reverse.map V.int)) ∧ H' t' = some (.tup [.int a', .int b']) ∧ H' u' = some (.tup [.int c', .int d']) ∧ Ch a b c d rs a' b' c' d')
      (fun _ H' => match H' o with | some (.lst xs) => 300 - xs.length | _ => 0) ⟨t, u, [], a, b, c, d, none, rfl, s1, upd_same, s1 _ _ hT, s1 _ _ hU, rfl, rfl, rfl, rfl, ok⟩ ?_ ?_
    · rintro σ H1 ⟨t', u', rs, a', b', c', d', y, rfl, s2, hO, hT', hU', ch⟩
      have k := ch.ok
      have b0 := k.b0
      have d0 := k.d0
      have a0 := k.a0
      have few := ch.few
      have cb : (-(-a' / b')).natAbs < 2 ^ 200 := by
        have h1 : -(-a' / b') ≤ a' := (ceil_le b0).mpr (by
          have := Int.mul_le_mul_of_nonneg_right (show 1 ≤ b' by omega) a0; omega)
        have h2 : 0 ≤ -(-a' / b') := by
          rcases Int.lt_or_le (-(-a' / b')) 0 with z | z
          · have := (ceil_le (a := a') (k := -1) b0).mp (by omega); omega
          · exact z
        exact lt200 h2 (by have := k.a1; omega)
      refine ⟨_, rfl, _, rfl, _, rfl, u', _, c', d', rfl, hU', cb, lt200 (by omega) k.d1, _, rfl, ?_⟩
      refine ite2 (fun hc => ?_) (fun hc => ?_)
      · have hn : ¬ -(-a' / b') * d' ≤ c' := fun z => by rw [decide_eq_true z] at hc; cases hc
        obtain ⟨hz, he⟩ : a' % b' ≠ 0 ∧ a' / b' = c' / d' := Decidable.byContradiction fun z => hn ((within_iff k).mpr z)
        obtain ⟨T, k2⟩ := k.turn hz he
        have w0 := T.w0
        have w1 := T.w1
        have db := wide_div (i := a') b0 (lt100 (by omega) k.b1) (by decide) (by decide)
        refine ⟨_, rfl, t', _, 0, .int a', rfl, rfl, SqT.of hT', at_of (j := 0) rfl rfl, _, rfl, t', _, 1, .int b', rfl, rfl, SqT.of hT', at_of (j := 1) rfl rfl, _, _, rfl, rfl, db, ?_⟩
        refine ⟨_, rfl, .inl ⟨rfl, _, .inl (.inl hO)⟩, _, rfl, o, _, _, rfl, rfl, hO, (by rw [List.length_map, List.length_reverse]; exact small1000 (by omega)), ?_⟩
        have hOo : upd H1 o (.lst (rs.reverse.map V.int ++ [.int (a' / b')])) o = some (.lst (((a' / b') :: rs).reverse.map V.int)) := by rw [upd_same, List.reverse_cons, List.map_append]; rfl
        have nto : t' ≠ o := ne_of hT' hO (by intro z; cases z)
        have nuo : u' ≠ o := ne_of hU' hO (by intro z; cases z)
        have hT2 : upd H1 o (.lst (rs.reverse.map V.int ++ [.int (a' / b')])) t' = some (.tup [.int a', .int b']) := by rw [upd_ne nto]; exact hT'
        have hU2 : upd H1 o (.lst (rs.reverse.map V.int ++ [.int (a' / b')])) u' = some (.tup [.int c', .int d']) := by rw [upd_ne nuo]; exact hU'
        have sH : Same H (upd H1 o (.lst (rs.reverse.map V.int ++ [.int (a' / b')]))) := fun q1 z1 e1 => by
          rw [upd_ne (ne_of_none e1 ho)]
          exact s2 _ _ e1
        generalize hH2 : upd H1 o (.lst (rs.reverse.map V.int ++ [.int (a' / b')])) = H2 at hOo hT2 hU2 sH ⊢
        refine ⟨_, rfl, _, rfl, u', c', d', a' / b', rfl, hU2, lt200 w0 w1, lt200 (by omega) k.d1, fun r1 hr1 => ?_⟩
        have p1 := same_put (o := HO.tup [.int d', .int (c' - a' / b' * d')]) hr1
        refine ⟨_, rfl, _, rfl, t', a', b', a' / b', rfl, p1 _ _ hT2, lt200 w0 w1, lt200 (by omega) k.b1, fun r2 hr2 => ?_⟩
        have p2 := same_put (o := HO.tup [.int b', .int (a' - a' / b' * b')]) hr2
        refine ⟨_, _, rfl, ?_⟩
        refine ⟨_, rfl, _, rfl, _, _, rfl, ?_⟩
        have k2b := k2.b0
        refine ⟨_, rfl, _, rfl, r1, d', c' - a' / b' * d', rfl, p2 _ _ upd_same, k2b, lt100 (by omega) k2.b1, ?_⟩
        have ch2 : Ch a b c d ((a' / b') :: rs) d' (c' - a' / b' * d') b' (a' - a' / b' * b') := ⟨a', b', c', d', ch, T, rfl, rfl, rfl, rfl, k2⟩
        have few2 := ch2.few
        have hO3 := p2 _ _ (p1 _ _ hOo)
        refine ⟨⟨r1, r2, (a' / b') :: rs, d', c' - a' / b' * d', b', a' - a' / b' * b', _, rfl, (sH.trans p1).trans p2, hO3, p2 _ _ upd_same, upd_same, ch2⟩, ?_⟩
        rw [hO3, hO]
        show 300 - (((a' / b') :: rs).reverse.map V.int).length < 300 - (rs.reverse.map V.int).length
        rw [List.length_map, List.length_map, List.length_reverse, List.length_reverse, List.length_cons]
        rw [List.length_cons] at few2
        omega
      · have hn : -(-a' / b') * d' ≤ c' := Decidable.byContradiction fun z => hc (by rw [decide_eq_false z]; rfl)
        have B0 := Best.whole k.a0 b0 d0 k.le ((within_iff k).mp hn)
        dsimp only [tSeq, tAsg, gName, tC]
        refine ⟨_, rfl, o, _, rfl, SqL.of hO, for_rv (K := K) (a := o) (xs := rs.reverse.map V.int) (fun i σ H2 => ∃ (p q' : Int) (a1 b1 c1 d1 : Int) (y7 : Option V), σ = [some (.ref t'), some (.ref u'), some (.bl true), some (.bl true), some (.ref o), some (.int p), y7, some (.int q')] ∧ H2 = H1 ∧ Ch a b c d (rs.drop i) a1 b1 c1 d1 ∧ Best a1 b1 c1 d1 p q')
          ⟨_, _, a', b', c', d', _, rfl, rfl, ch, B0⟩ (fun i σ H2 _ ⟨_, _, _, _, _, _, _, _, e, _⟩ => by rw [e]; exact SqL.of hO) ?_ ?_⟩
        · rintro i v σ H2 hi hv ⟨p, q', a1, b1, c1, d1, y7, rfl, rfl, ch1, B1⟩
          rw [List.length_map, List.length_reverse] at hi hv
          obtain ⟨w2, hw, rfl⟩ : ∃ w2, rs[i]? = some w2 ∧ v = V.int w2 := by
            rw [List.getElem?_map, List.getElem?_reverse (by omega)] at hv
            rw [show rs.length - 1 - (rs.length - 1 - i) = i by omega] at hv
            obtain ⟨w2, h1, h2⟩ := Option.map_eq_some_iff.mp hv
            exact ⟨w2, h1, h2.symm⟩
          have hd : rs.drop i = w2 :: rs.drop (i + 1) := by
            obtain ⟨h1, h2⟩ := List.getElem?_eq_some_iff.mp hw
            rw [List.drop_eq_getElem_cons h1, h2]
          rw [hd] at ch1
          obtain ⟨a2, b2, c2, d2, ch2, T2, e1, e2, e3, e4, k1⟩ := ch1
          obtain ⟨pl, ql, p0⟩ := B1.small k1
          have k2 := ch2.ok
          refine ⟨_, rfl, _, rfl, _, _, rfl, rfl, wide_mul (a := 100) (b := 100) (lt100 T2.w0 T2.w1) (lt100 p0 (by have := k1.a1; omega)) (by decide) (by decide) (by decide), _, rfl, _, _, rfl, rfl, _, rfl, _, _, rfl, ?_⟩
          rw [e1, e2, e3, e4] at B1
          exact ⟨_, _, a2, b2, c2, d2, _, rfl, rfl, ch2, B1.step T2.w0 k2.b0 k2.d0 T2.e0 T2.f0⟩
        · rintro σ H2 ⟨p, q', a1, b1, c1, d1, y7, rfl, rfl, ch1, B1⟩
          rw [List.length_map, List.length_reverse, List.drop_length] at ch1
          obtain ⟨rfl, rfl, rfl, rfl, _⟩ := ch1
          refine ⟨_, rfl, _, rfl, (by show 2 ≤ sizeLine; decide), fun r hr => ?_⟩
          exact q p q' r _ B1 (s2.trans (same_put hr)) (s2.free hr) upd_same
    · rintro σ H1 Q1 Q2 mo ⟨v1, e1, v2, e2, v3, e3, u1, n1, c1, d1, e4, h1, h2, h3, kk, e5, h6⟩
      exact ⟨v1, e1, v2, e2, v3, e3, u1, n1, c1, d1, e4, h1, h2, h3, kk, e5, mo _ _ h6⟩
end
end My
set_option Elab.async false
set_option linter.all false
set_option maxRecDepth 100000
set_option maxHeartbeats 4000000
set_option exponentiation.threshold 400
namespace My
open PySem PySem.Spec PyProof.Rows L2 Gn Mt
abbrev sUnder : Stmt := top 30
abbrev sFirst : Stmt := top 32
abbrev sNear : Stmt := top 33
theorem scUnder : FnScope ["_law_one", "_law_two"] ["_law_one", "_law_two"] (defScope sUnder) := ⟨rfl, rfl, rfl, by decide +kernel, rfl, by decide +kernel, by decide +kernel⟩
theorem scFirst : FnScope ["_law_low_here", "_law_high", "_law_most", "_law_bottom", "_law_top"] ["_law_low_here", "_law_high", "_law_most"] (defScope sFirst) := ⟨rfl, rfl, rfl, by decide +kernel, rfl, by decide +kernel, by decide +kernel⟩
theorem scNear : FnScope ["_law_tin_here", "_law_x", "_law_top", "_law_bottom", "_law_far_here"] ["_law_tin_here", "_law_x"] (defScope sNear) := ⟨rfl, rfl, rfl, by decide +kernel, rfl, by decide +kernel, by decide +kernel⟩
/-- the simplest one between, whichever is less -/
def Mid (a b c d p q : Int) : Prop := (a * d ≤ c * b → Best a b c d p q) ∧ (¬ a * d ≤ c * b → Best c d a b p q)
theorem IsStep.okm {a b c d : Int} (h : IsStep a b) (k : IsStep c d) (hb : b < 2 ^ 100) (hd : d < 2 ^ 100) (le : a * d ≤ c * b) : Ok a b c d := by
  have := h.x0
  have := h.xy
  have := k.x0
  have := k.xy
  exact ⟨by omega, by omega, by omega, by omega, le, by omega, hb, by omega, hd⟩
theorem eqv_pair (a b c d : Int) : PyData.eqv (.tuple ([a, b].map PyData.int)) (.tuple ([c, d].map PyData.int)) = decide (a = c ∧ b = d) := by
  by_cases h : a = c ∧ b = d
  · obtain ⟨rfl, rfl⟩ := h
    rw [SeqAt.eqv_refl _ rfl]
    simp
  · rw [decide_eq_false h]
    simp only [List.map_cons, List.map_nil, PyData.eqv, PyData.eqvAll]
    simp only [Bool.and_true, Bool.and_eq_false_iff, beq_eq_false_iff_ne, decide_eq_false_iff_not]
    omega
/-- the arguments: two steps with bounds -/
structure Two (H : Hp) (t u : Addr) (a b c d : Int) : Prop where
  s1 : StepAt H t a b
  s2 : StepAt H u c d
  b1 : b < 2 ^ 100
  d1 : d < 2 ^ 100
theorem Two.same {H H' : Hp} {t u : Addr} {a b c d : Int} (h : Two H t u a b c d) (e : Same H H') : Two H' t u a b c d := ⟨⟨e _ _ h.s1.1, h.s1.2⟩, ⟨e _ _ h.s2.1, h.s2.2⟩, h.b1, h.d1⟩
def spSb : Sp := fun vs H Q _ => ∃ (t u : Addr) (a b c d : Int), vs = [.ref t, .ref u] ∧ Two H t u a b c d ∧ ∀ p q r H', Mid a b c d p q → Same H H' → H r = none → H' r = some (.tup [.int p, .int q]) → Q (.ref r) H'
def spParting : Sp := fun vs H Q _ => ∃ (t u : Addr) (a b c d : Int), vs = [.ref t, .ref u] ∧ Two H t u a b c d ∧ (a = c ∧ b = d → Q .non H) ∧ (¬ (a = c ∧ b = d) → ∀ p q H', Mid a b c d p q → Same H H' → Q (.int (q + 1)) H')
def spUnder : Sp := fun vs H Q _ => ∃ (t u : Addr) (a b c d : Int), vs = [.ref t, .ref u] ∧ H t = some (.tup [.int a, .int b]) ∧ H u = some (.tup [.int c, .int d]) ∧ a.natAbs < 2 ^ 300 ∧ b.natAbs < 2 ^ 300 ∧ c.natAbs < 2 ^ 300 ∧ d.natAbs < 2 ^ 300 ∧ Q (.bl (decide (a * d < c * b))) H
def spFirst : Sp := fun vs H Q _ => ∃ (t u : Addr) (a b c d m p q : Int), vs = [.ref t, .ref u, .int m] ∧ H t = some (.tup [.int a, .int b]) ∧ H u = some (.tup [.int c, .int d]) ∧ Ok a b c d ∧ 1 ≤ m ∧ m ≤ 1000 ∧ Best a b c d p q ∧
  (q ≤ m → ∀ r H', Same H H' → H r = none → H' r = some (.tup [.int p, .int q]) → Q (.ref r) H') ∧ (m < q → ∀ H', Same H H' → Q .non H')
def spNear : Sp := fun vs H Q _ => ∃ (t u : Addr) (a b : Int), vs = [.ref t, .ref u] ∧ Tin H t ∧ u ≠ t ∧ StepAt H u a b ∧ b ≤ 10 ^ 14 ∧
  ∀ x y r H', IsStep x y → y ≤ 10 ^ 29 → Sipped H H' t → H r = none → H' r = some (.tup [.int x, .int y]) → Q (.ref r) H'
section
variable {P : Program} {w : World} {K : PySem.W.Frag} {mg : Str → Option Value} {base : Heap}
theorem ok_sb {f : Addr} {fd : FuncData} (F : Fun K "_simplest_between" "_simplest_between" sSb f fd) (M : Si K mg) : FnOk P w K mg base CX0 3 f fd ["one", "other"] spSb := by
  have GM : FnOk P w K mg base CX0 2 M.fm.1 M.fm.2 ["low", "high", "first", "last"] spSimplest := ok_simplest M.m.F M.rv M.lw M.iw M.tu
  have GL : FnOk P w K mg base CX0 1 M.fl.1 M.fl.2 ["one", "other"] spLess := ok_less M.il.F
  refine F.ok scSb (fun vs H Q E h => ?_) (fun cdv A outer s H vs Q E hr h => ?_)
  · obtain ⟨t, u, a, b, c, d, rfl, _⟩ := h
    rfl
  · obtain ⟨t, u, a, b, c, d, rfl, T, q⟩ := h
    have hr1 : Room 1 _ := hr.mono (by decide)
    refine ⟨_, pss_cons (ps_if (pt_val (pe_call GL hr1 (by rfl) M.il.g M.il.F.kp M.il.b .nil pass0 (pa_cons (pv 1) (pa_cons (pv 0) pa_nil))))
        (pss_one (ps_ret (pe_call GM hr (by rfl) M.m.g M.m.F.kp M.m.b .nil pass0 (pa_cons (pv 1) (pa_cons (pv 0) (pa_cons pe_bl (pa_cons pe_bl pa_nil))))))) pss_nil)
      (pss_one (ps_ret (pe_call GM hr (by rfl) M.m.g M.m.F.kp M.m.b .nil pass0 (pa_cons (pv 0) (pa_cons (pv 1) (pa_cons pe_bl (pa_cons pe_bl pa_nil))))))), ?_⟩
    have hT := T.s1.1
    have hU := T.s2.1
    have a0 := T.s1.2.x0
    have a1 := T.s1.2.xy
    have c0 := T.s2.2.x0
    have c1 := T.s2.2.xy
    have b1 := T.b1
    have d1 := T.d1
    refine ⟨_, rfl, _, rfl, u, t, c, d, a, b, rfl, hU, hT, lt200 c0 (by omega), lt200 (by omega) d1, lt200 a0 (by omega), lt200 (by omega) b1, _, rfl, ?_⟩
    refine ite2 (fun hc => ?_) (fun hc => ?_)
    · have le : ¬ a * d ≤ c * b := by have := of_decide_eq_true hc; omega
      exact ⟨_, rfl, _, rfl, u, t, c, d, a, b, rfl, hU, hT, T.s2.2.okm T.s1.2 d1 b1 (by omega), fun p q' r H' B s e1 e2 => q p q' r H' ⟨fun y => absurd y le, fun _ => B⟩ s e1 e2⟩
    · have le : a * d ≤ c * b := by
        have : ¬ c * b < a * d := fun y => hc (decide_eq_true y)
        omega
      exact ⟨_, rfl, _, rfl, t, u, a, b, c, d, rfl, hT, hU, T.s1.2.okm T.s2.2 b1 d1 le, fun p q' r H' B s e1 e2 => q p q' r H' ⟨fun _ => B, fun n => absurd le n⟩ s e1 e2⟩
theorem ok_between {f fS fI fR fT fC : Addr} {fd fdS fdI fdR fdT fdC : FuncData} (F : Fun K "between" "between" sBetween f fd) (B : Bc mg) (M : Si K mg) (S : Df K mg "_simplest_between" sSb ["one", "other"] fS fdS)
    (D : Df K mg "is_integer" sIsInt ["given"] fI fdI) (R : Df K mg "is_fraction" sIsFr ["given"] fR fdR) (T : Df K mg "is_step" sIsStep ["given"] fT fdT) (C : Df K mg "check_step" sChStep ["given"] fC fdC) : FnOk P w K mg base CX0 5 f fd ["one", "other"] spSb := by
  have GC : FnOk P w K mg base CX0 4 fC fdC ["given"] (spIsSt .non) := ok_chStep C.F B D R T
  have GS : FnOk P w K mg base CX0 3 fS fdS ["one", "other"] spSb := ok_sb S.F M
  refine F.ok scBetween (fun vs H Q E h => ?_) (fun cdv A outer s H vs Q E hr h => ?_)
  · obtain ⟨t, u, a, b, c, d, rfl, _⟩ := h
    rfl
  · obtain ⟨t, u, a, b, c, d, rfl, W, q⟩ := h
    have hr2 : Room 3 _ := hr.mono (by decide)
    refine ⟨_, pss_cons (ps_expr (pe_call GC hr (by rfl) C.g C.F.kp C.b .nil pass0 (pa_cons (pv 0) pa_nil))) (pss_cons (ps_expr (pe_call GC hr (by rfl) C.g C.F.kp C.b .nil pass0 (pa_cons (pv 1) pa_nil)))
      (pss_one (ps_ret (pe_call GS hr2 (by rfl) S.g S.F.kp S.b .nil pass0 (pa_cons (pv 0) (pa_cons (pv 1) pa_nil)))))), ?_⟩
    exact ⟨_, rfl, t, a, b, rfl, W.s1, _, rfl, u, c, d, rfl, W.s2, _, rfl, _, rfl, t, u, a, b, c, d, rfl, W, q⟩
theorem ok_parting {f fS fI fR fT fC : Addr} {fd fdS fdI fdR fdT fdC : FuncData} (F : Fun K "parting" "parting" sParting f fd) (B : Bc mg) (M : Si K mg) (S : Df K mg "_simplest_between" sSb ["one", "other"] fS fdS)
    (D : Df K mg "is_integer" sIsInt ["given"] fI fdI) (R : Df K mg "is_fraction" sIsFr ["given"] fR fdR) (T : Df K mg "is_step" sIsStep ["given"] fT fdT) (C : Df K mg "check_step" sChStep ["given"] fC fdC) : FnOk P w K mg base CX0 5 f fd ["one", "other"] spParting := by
  have GC : FnOk P w K mg base CX0 4 fC fdC ["given"] (spIsSt .non) := ok_chStep C.F B D R T
  have GS : FnOk P w K mg base CX0 3 fS fdS ["one", "other"] spSb := ok_sb S.F M
  refine F.ok scParting (fun vs H Q E h => ?_) (fun cdv A outer s H vs Q E hr h => ?_)
  · obtain ⟨t, u, a, b, c, d, rfl, _⟩ := h
    rfl
  · obtain ⟨t, u, a, b, c, d, rfl, W, q1, q2⟩ := h
    have hr2 : Room 3 _ := hr.mono (by decide)
    refine ⟨_, pss_cons (ps_expr (pe_call GC hr (by rfl) C.g C.F.kp C.b .nil pass0 (pa_cons (pv 0) pa_nil))) (pss_cons (ps_expr (pe_call GC hr (by rfl) C.g C.F.kp C.b .nil pass0 (pa_cons (pv 1) pa_nil)))
      (pss_cons (ps_if (pt_cmpR (op_eqD hr.units) (pv 0) (pv 1) (nomark _)) (pss_one (ps_ret pe_non)) pss_nil)
      (pss_one (ps_ret (pe_op op_add (pe_ix ix_tup (pe_call GS hr2 (by rfl) S.g S.F.kp S.b .nil pass0 (pa_cons (pv 0) (pa_cons (pv 1) pa_nil))) pe_int (fun _ _ => rfl)) pe_int))))), ?_⟩
    refine ⟨_, rfl, t, a, b, rfl, W.s1, _, rfl, u, c, d, rfl, W.s2, ?_⟩
    have sm : ∀ x y : Int, SeqAt.shaped (.tuple ([x, y].map PyData.int)) = true := fun x y => rfl
    refine ⟨_, rfl, _, rfl, .tuple ([a, b].map PyData.int), .tuple ([c, d].map PyData.int), .tup (SqT.of W.s1.1) (dp_ints [a, b]), .tup (SqT.of W.s2.1) (dp_ints [c, d]), sm a b, sm c d, _, rfl, ?_⟩
    rw [eqv_pair]
    refine ite2 (fun hc => q1 (of_decide_eq_true hc)) (fun hc => ?_)
    exact ⟨_, rfl, _, rfl, t, u, a, b, c, d, rfl, W, fun p q r H' B s e1 e2 => ⟨r, _, 1, .int q, rfl, rfl, SqT.of e2, at_of (j := 1) rfl rfl, _, _, rfl, rfl, q2 (fun y => hc (decide_eq_true y)) p q H' B s⟩⟩
theorem ok_under {f : Addr} {fd : FuncData} (F : Fun K "_law_under" "_law_under" sUnder f fd) : FnOk P w K mg base CX0 1 f fd ["_law_one", "_law_two"] spUnder := by
  refine F.ok scUnder (fun vs H Q E h => ?_) (fun cdv A outer s H vs Q E hr h => ?_)
  · obtain ⟨t, u, a, b, c, d, rfl, _⟩ := h
    rfl
  · obtain ⟨t, u, a, b, c, d, rfl, hT, hU, a1, b1, c1, d1, q⟩ := h
    refine ⟨_, pss_one (ps_ret (pe_cmpR op_lt (pe_op op_mulW (pe_ix ix_tup (pv 0) pe_int (fun _ _ => rfl)) (pe_ix ix_tup (pv 1) pe_int (fun _ _ => rfl))) (pe_op op_mulW (pe_ix ix_tup (pv 1) pe_int (fun _ _ => rfl)) (pe_ix ix_tup (pv 0) pe_int (fun _ _ => rfl))) (nomark _))), ?_⟩
    refine ⟨_, rfl, t, _, 0, .int a, rfl, rfl, SqT.of hT, at_of (j := 0) rfl rfl, _, rfl, u, _, 1, .int d, rfl, rfl, SqT.of hU, at_of (j := 1) rfl rfl, _, _, rfl, rfl, wide_mul (a := 300) (b := 300) a1 d1 (by decide) (by decide) (by decide), ?_⟩
    exact ⟨_, rfl, u, _, 0, .int c, rfl, rfl, SqT.of hU, at_of (j := 0) rfl rfl, _, rfl, t, _, 1, .int b, rfl, rfl, SqT.of hT, at_of (j := 1) rfl rfl, _, _, rfl, rfl, wide_mul (a := 300) (b := 300) c1 b1 (by decide) (by decide) (by decide), _, _, rfl, rfl, q⟩
theorem ok_first {f fU : Addr} {fd fdU : FuncData} (F : Fun K "_law_first" "_law_first" sFirst f fd) (B : Bl mg) (mr : mg "range" = none) (U : Df K mg "_law_under" sUnder ["_law_one", "_law_two"] fU fdU) : FnOk P w K mg base CX0 2 f fd ["_law_low_here", "_law_high", "_law_most"] spFirst := by
  have GU : FnOk P w K mg base CX0 1 fU fdU ["_law_one", "_law_two"] spUnder := ok_under U.F
  refine F.ok scFirst (fun vs H Q E h => ?_) (fun cdv A outer s H vs Q E hr h => ?_)
  · obtain ⟨t, u, a, b, c, d, m, p, q, rfl, _⟩ := h
    rfl
  · obtain ⟨t, u, a, b, c, d, m, p, q, rfl, hT, hU, ok, m1, m2, Bs, q1, q2⟩ := h
    refine ⟨_, pss_cons (ps_for PassesOwn.never rfl (pi_range2 (by rfl) mr (pa_cons pe_int (pa_cons (pe_op op_add (pv 2) pe_int) pa_nil))) (pg_name (i := 3) scFirst.nd rfl (.inl rfl))
        (pss_cons (ps_set (i := 4) scFirst.nd rfl (.inl rfl) (pe_op op_fdivW (pe_callTy call_int1 (by rfl) B.int (by decide +kernel) (pa_cons (pe_op op_sub (pe_op op_add (pe_op op_mulW (pe_ix ix_tup (pv 0) pe_int (fun _ _ => rfl)) (pv 3)) (pe_ix ix_tup (pv 0) pe_int (fun _ _ => rfl))) pe_int) pa_nil)) (pe_ix ix_tup (pv 0) pe_int (fun _ _ => rfl))))
        (pss_one (ps_if (pt_not (pt_val (pe_call GU hr (by rfl) U.g U.F.kp U.b .nil pass0 (pa_cons (pv 1) (pa_cons (pe_tup (pa_cons (pv 4) (pa_cons (pv 3) pa_nil))) pa_nil))))) (pss_one (ps_ret (pe_tup (pa_cons (pv 4) (pa_cons (pv 3) pa_nil))))) pss_nil))))
      (pss_one (ps_ret pe_non)), ?_⟩
    have a0 := ok.a0
    have b0 := ok.b0
    have c0 := ok.c0
    have d0 := ok.d0
    have a1 := ok.a1
    have b1 := ok.b1
    have c1 := ok.c1
    have d1 := ok.d1
    refine ⟨_, rfl, _, _, rfl, rfl, 1, m + 1, rfl, ⟨by omega, by omega, by omega, by omega⟩, ?_⟩
    refine for_range (lo := 1) (n := (m + 1 - 1).toNat) (fun i σ H' => ∃ x y, σ = [some (.ref t), some (.ref u), some (.int m), x, y] ∧ Same H H' ∧ (i : Int) < q) ⟨none, none, rfl, Same.refl H, Bs.q0⟩ ?_ ?_
    · rintro i σ H1 hi ⟨x, y, rfl, s1, iq⟩
      have hs : (1 : Int) ≤ 1 + (i : Int) := by omega
      have hs2 : (1 : Int) + (i : Int) ≤ 1000 := by omega
      have hT1 := s1 _ _ hT
      have hU1 := s1 _ _ hU
      refine ⟨_, rfl, t, _, 0, .int a, rfl, rfl, SqT.of hT1, at_of (j := 0) rfl rfl, _, rfl, _, _, rfl, rfl, wide_mul (a := 100) (b := 100) (lt100 a0 a1) (Nat.lt_of_le_of_lt (show (1 + (i : Int)).natAbs ≤ 1000 by omega) (by decide)) (by decide) (by decide) (by decide), _, rfl, t, _, 1, .int b, rfl, rfl, SqT.of hT1, at_of (j := 1) rfl rfl, _, _, rfl, rfl, _, _, rfl, rfl, .inl ⟨_, rfl, _, rfl, t, _, 1, .int b, rfl, rfl, SqT.of hT1, at_of (j := 1) rfl rfl, _, _, rfl, rfl, wide_div b0 (lt100 (by omega) b1) (by decide) (by decide), ?_⟩⟩
      obtain ⟨n1, n2⟩ := div_le (a := a * (1 + (i : Int)) + b - 1) b0
      have as0 := Int.mul_nonneg a0 (show 0 ≤ 1 + (i : Int) by omega)
      have t0 : 0 ≤ (a * (1 + (i : Int)) + b - 1) / b := Int.ediv_nonneg (by omega) (by omega)
      have tl : (a * (1 + (i : Int)) + b - 1) / b ≤ a * (1 + (i : Int)) + b - 1 := Int.ediv_le_self _ (by omega)
      have tb : ((a * (1 + (i : Int)) + b - 1) / b).natAbs < 2 ^ 300 := by
        have h1 : a * (1 + (i : Int)) ≤ a * 1000 := Int.mul_le_mul_of_nonneg_left hs2 a0
        have h2 : ((a * (1 + (i : Int)) + b - 1) / b).natAbs ≤ 2 ^ 100 * 1001 := by omega
        exact Nat.lt_of_le_of_lt h2 (by decide)
      refine ⟨_, rfl, _, rfl, _, rfl, (by show 2 ≤ sizeLine; decide), fun r hr' => ?_⟩
      have s2 := same_put (o := HO.tup [.int ((a * (1 + (i : Int)) + b - 1) / b), .int (1 + (i : Int))]) hr'
      refine ⟨u, r, c, d, ((a * (1 + (i : Int)) + b - 1) / b), 1 + (i : Int), rfl, s2 _ _ hU1, upd_same, Nat.lt_trans (lt100 c0 c1) (by decide), Nat.lt_trans (lt100 (by omega) d1) (by decide), tb, Nat.lt_of_le_of_lt (show (1 + (i : Int)).natAbs ≤ 1000 by omega) (by decide), _, rfl, ?_⟩
      refine ite2 (fun hc => ?_) (fun hc => ?_)
      · -- found
        have hle : ((a * (1 + (i : Int)) + b - 1) / b) * d ≤ c * (1 + (i : Int)) := by
          have : decide (c * (1 + (i : Int)) < ((a * (1 + (i : Int)) + b - 1) / b) * d) = false := by simpa using hc
          have := of_decide_eq_false this
          omega
        have l1 := Bs.least b0 (s := 1 + (i : Int)) (by omega) hle
        have eq : 1 + (i : Int) = q := by omega
        have fp := Bs.found b0 d0
        rw [← eq] at fp
        refine ⟨_, rfl, _, rfl, (by show 2 ≤ sizeLine; decide), fun r2 hr2 => ?_⟩
        refine q1 (by omega) r2 _ ((s1.trans s2).trans (same_put hr2)) ((s1.trans s2).free hr2) ?_
        rw [upd_same]
        show some (HO.tup [V.int ((a * (1 + (i : Int)) + b - 1) / b), V.int (1 + (i : Int))]) = _
        rw [fp, eq]
      · have hlt : c * (1 + (i : Int)) < ((a * (1 + (i : Int)) + b - 1) / b) * d := by
          have : ¬ (decide (c * (1 + (i : Int)) < ((a * (1 + (i : Int)) + b - 1) / b) * d) = false) := fun e => hc (by rw [e]; rfl)
          rcases Bool.eq_false_or_eq_true (decide (c * (1 + (i : Int)) < ((a * (1 + (i : Int)) + b - 1) / b) * d)) with z | z
          · exact of_decide_eq_true z
          · exact absurd z this
        refine ⟨_, _, rfl, s1.trans s2, ?_⟩
        have ne : 1 + (i : Int) ≠ q := fun e => by
          have fp := Bs.found b0 d0
          rw [← e] at fp
          have := Bs.hi
          rw [← e, ← fp] at this
          omega
        show (((i + 1 : Nat)) : Int) < q
        omega
    · rintro σ H1 ⟨x, y, rfl, s1, iq⟩
      exact q2 (by omega) H1 s1
theorem ok_near {f fS fP fG fL : Addr} {fd fdS fdP fdG fdL : FuncData} (F : Fun K "_law_near" "_law_near" sNear f fd) (B : Bl mg) (S : Df K mg "_law_sip" sSip ["_law_tin_here", "_law_top"] fS fdS) (Pk : Df K mg "_law_pick" sPick ["_law_tin_here", "_law_menu"] fP fdP)
    (G : Df K mg "_law_gcd" sGcd ["_law_one", "_law_two"] fG fdG) (Lo : Df K mg "_law_low" sLow ["_law_top", "_law_bottom"] fL fdL) : FnOk P w K mg base CX0 3 f fd ["_law_tin_here", "_law_x"] spNear := by
  have GS : FnOk P w K mg base CX0 1 fS fdS ["_law_tin_here", "_law_top"] spSip := ok_sip S.F B
  have GP : FnOk P w K mg base CX0 2 fP fdP ["_law_tin_here", "_law_menu"] spPick := ok_pick Pk.F B S
  have GL : FnOk P w K mg base CX0 2 fL fdL ["_law_top", "_law_bottom"] spLow := ok_low Lo.F B G
  refine F.ok scNear (fun vs H Q E h => ?_) (fun cdv A outer s H vs Q E hr h => ?_)
  · obtain ⟨t, u, a, b, rfl, _⟩ := h
    rfl
  · obtain ⟨t, u, a, b, rfl, T, nut, ⟨hU, st⟩, b14, q⟩ := h
    have hr1 : Room 1 _ := hr.mono (by decide)
    refine ⟨_, pss_cons (ps_asg (pv 1) (pg_tup (by rfl) (pgs_cons (pg_name (i := 2) scNear.nd rfl (.inl rfl)) (pgs_cons (pg_name (i := 3) scNear.nd rfl (.inl rfl)) pgs_nil))))
      (pss_cons (ps_set (i := 4) scNear.nd rfl (.inl rfl) (pe_call GP hr (by rfl) Pk.g Pk.F.kp Pk.b .nil pass0 (pa_cons (pv 0) (pa_cons (pe_lst (pa_cons pe_int (pa_cons pe_int (pa_cons (pe_op op_pow pe_int pe_int) (pa_cons (pe_op op_pow pe_int pe_int) pa_nil))))) pa_nil))))
      (pss_cons (ps_set (i := 2) scNear.nd rfl (.inl rfl) (pe_op op_add (pe_op op_add (pe_op op_mulW (pv 2) (pv 4)) (pe_call GS hr1 (by rfl) S.g S.F.kp S.b .nil pass0 (pa_cons (pv 0) (pa_cons pe_int pa_nil)))) pe_int))
      (pss_one (ps_ret (pe_ifExp (pt_cmpR op_lt (pv 2) (pe_op op_mulW (pv 3) (pv 4)) (nomark _)) (pe_call GL hr (by rfl) Lo.g Lo.F.kp Lo.b .nil pass0 (pa_cons (pv 2) (pa_cons (pe_op op_mulW (pv 3) (pv 4)) pa_nil))) (pe_tup (pa_cons pe_int (pa_cons pe_int pa_nil)))))))), ?_⟩
    have a0 := st.x0
    have ab := st.xy
    refine ⟨_, rfl, u, _, rfl, SqT.of hU, rfl, _, _, rfl, _, _, rfl, rfl, ?_⟩
    refine ⟨_, rfl, _, _, rfl, rfl, ⟨by decide, by decide, by decide⟩, _, _, rfl, rfl, ⟨by decide, by decide, by decide⟩, (by show 4 ≤ sizeLine; decide), fun m hm => ?_⟩
    have S2 : Sipped H (upd H m (.lst (([10, 100, 10 ^ 6, 10 ^ 15] : List Int).map V.int))) t := Sipped.ofSame T (same_put hm)
    refine ⟨t, m, ([10, 100, 10 ^ 6, 10 ^ 15] : List Int).map V.int, rfl, S2.1, upd_same, T.not hm, by decide, by decide, fun v H2 hv S3 => ?_⟩
    obtain ⟨g, hg, rfl⟩ := List.mem_map.mp hv
    have hg1 : 10 ≤ g ∧ g ≤ 10 ^ 15 := by
      have : ∀ g ∈ ([10, 100, 10 ^ 6, 10 ^ 15] : List Int), 10 ≤ g ∧ g ≤ 10 ^ 15 := by decide
      exact this g hg
    have sml : ∀ z : Int, 0 ≤ z → z ≤ 10 ^ 15 → z.natAbs < 2 ^ 100 := fun z h0 h1 => Nat.lt_of_le_of_lt (show z.natAbs ≤ 10 ^ 15 by omega) (by decide)
    refine ⟨_, rfl, _, rfl, _, _, rfl, rfl, wide_mul (a := 100) (b := 100) (sml a a0 (by omega)) (sml g (by omega) hg1.2) (by decide) (by decide) (by decide), _, rfl, t, 9, rfl, S3.1, by decide, by decide, fun e H3 e0 e1 S4 => ?_⟩
    refine ⟨_, _, rfl, rfl, _, _, rfl, rfl, ?_⟩
    have ag := Int.mul_nonneg a0 (show 0 ≤ g by omega)
    have bg1 : b * g ≤ 10 ^ 14 * 10 ^ 15 := Int.le_trans (Int.mul_le_mul_of_nonneg_right b14 (by omega)) (Int.mul_le_mul_of_nonneg_left hg1.2 (by decide))
    have bg0 : 0 < b * g := Int.mul_pos (by omega) (by omega)
    have SS := (S2.trans S3).trans S4
    refine ⟨_, rfl, _, rfl, _, rfl, _, _, rfl, rfl, wide_mul (a := 100) (b := 100) (sml b (by omega) (by omega)) (sml g (by omega) hg1.2) (by decide) (by decide) (by decide), _, _, rfl, rfl, _, rfl, ?_⟩
    refine ite2 (fun hc => ?_) (fun hc => ?_)
    · have lt : a * g + e + 1 < b * g := of_decide_eq_true hc
      refine ⟨_, rfl, _, rfl, _, rfl, _, _, rfl, rfl, wide_mul (a := 100) (b := 100) (sml b (by omega) (by omega)) (sml g (by omega) hg1.2) (by decide) (by decide) (by decide), _, _, rfl, (by omega), bg0, ?_, fun r hr' => ?_⟩
      · exact Nat.lt_of_le_of_lt (show (b * g).natAbs ≤ 10 ^ 14 * 10 ^ 15 by omega) (by decide)
      obtain ⟨ls, ll⟩ := low_step (a := a * g + e + 1) (b := b * g) (by omega) lt
      exact q _ _ r _ ls (by omega) (SS.trans (Sipped.ofSame SS.1 (same_put hr'))) (SS.free T hr') upd_same
    · refine ⟨(by show 2 ≤ sizeLine; decide), fun r hr' => ?_⟩
      exact q 0 1 r _ ⟨by decide, by decide, by decide⟩ (by decide) (SS.trans (Sipped.ofSame SS.1 (same_put hr'))) (SS.free T hr') upd_same
end
end My
set_option Elab.async false
set_option linter.all false
set_option maxRecDepth 100000
set_option maxHeartbeats 8000000
set_option exponentiation.threshold 2000
namespace My
open PySem PySem.Spec PyProof.Rows L2 Gn Mt
/-- a conditional expression, what both ways are worth -/
theorem tIf_any {tt : TT} {ta tb : TE} {σ : L2.St} {H : Hp} {Q : VK} (Φ : V → Hp → Prop) (c : Bool) (ht : ∀ R : Bool → Hp → Prop, R c H → tt σ H R)
    (h1 : c = true → ∀ R : VK, (∀ v H', Φ v H' → R v H') → ta σ H R) (h2 : c = false → ∀ R : VK, (∀ v H', Φ v H' → R v H') → tb σ H R) (k : ∀ v H', Φ v H' → Q v H') : tIf tt ta tb σ H Q := by
  refine ht _ ?_
  cases c with
  | true => exact iteT (h1 rfl Q k)
  | false => exact iteF (h2 rfl Q k)
theorem step_eq {a b c d : Int} (h : IsStep a b) (k : IsStep c d) (e : a * d = c * b) : a = c ∧ b = d := by
  have a0 := h.x0
  have ab := h.xy
  have c0 := k.x0
  have cd := k.xy
  have h1 := h.co
  have k1 := k.co
  obtain ⟨a, rfl⟩ := Int.eq_ofNat_of_zero_le a0
  obtain ⟨b, rfl⟩ := Int.eq_ofNat_of_zero_le (show 0 ≤ b by omega)
  obtain ⟨c, rfl⟩ := Int.eq_ofNat_of_zero_le c0
  obtain ⟨d, rfl⟩ := Int.eq_ofNat_of_zero_le (show 0 ≤ d by omega)
  simp only [Int.natAbs_natCast] at h1 k1
  have e' : a * d = c * b := by exact_mod_cast e
  have d1 : b ∣ d := Nat.Coprime.dvd_of_dvd_mul_left (show Nat.Coprime b a from (Nat.gcd_comm b a).trans h1) (by rw [e']; exact Nat.dvd_mul_left b c)
  have d2 : d ∣ b := Nat.Coprime.dvd_of_dvd_mul_left (show Nat.Coprime d c from (Nat.gcd_comm d c).trans k1) (by rw [← e']; exact Nat.dvd_mul_left d a)
  have eb : b = d := Nat.dvd_antisymm d1 d2
  subst eb
  have : a = c := Nat.eq_of_mul_eq_mul_right (by omega) e'
  omega
/-- a / b up to c / d, these two the steps x and y in some order -/
structure LoHi (x1 x2 y1 y2 a b c d : Int) : Prop where
  le : a * d ≤ c * b
  or : (a = x1 ∧ b = x2 ∧ c = y1 ∧ d = y2) ∨ (a = y1 ∧ b = y2 ∧ c = x1 ∧ d = x2)
theorem LoHi.best {x1 x2 y1 y2 a b c d p q : Int} (L : LoHi x1 x2 y1 y2 a b c d) (hx : IsStep x1 x2) (hy : IsStep y1 y2) (M : Mid x1 x2 y1 y2 p q) : Best a b c d p q := by
  have le := L.le
  rcases L.or with ⟨rfl, rfl, rfl, rfl⟩ | ⟨rfl, rfl, rfl, rfl⟩
  · exact M.1 le
  · by_cases c1 : c * b ≤ a * d
    · obtain ⟨e1, e2⟩ := step_eq hy hx (Int.le_antisymm le c1)
      subst e1 e2
      exact M.1 c1
    · exact M.2 c1
theorem LoHi.swap {x1 x2 y1 y2 a b c d : Int} (L : LoHi x1 x2 y1 y2 a b c d) : LoHi y1 y2 x1 x2 a b c d := ⟨L.le, L.or.symm⟩
theorem eqv_ints : ∀ {a b : List Int}, PyData.eqvAll (a.map PyData.int) (b.map PyData.int) = true → a = b
  | [], [], _ => rfl
  | [], _ :: _, h => by simp [PyData.eqvAll] at h
  | _ :: _, [], h => by simp [PyData.eqvAll] at h
  | x :: a, y :: b, h => by
    simp only [List.map_cons, PyData.eqvAll, PyData.eqv, Bool.and_eq_true, beq_iff_eq] at h
    rw [h.1, eqv_ints h.2]
theorem eqv_ords : ∀ {G1 G2 : List (List Int)}, PyData.eqvAll (G1.map fun g => PyData.tuple (g.map PyData.int)) (G2.map fun g => PyData.tuple (g.map PyData.int)) = true → G1 = G2
  | [], [], _ => rfl
  | [], _ :: _, h => by simp [PyData.eqvAll] at h
  | _ :: _, [], h => by simp [PyData.eqvAll] at h
  | x :: a, y :: b, h => by
    simp only [List.map_cons, PyData.eqvAll, PyData.eqv, Bool.and_eq_true] at h
    rw [eqv_ints h.1, eqv_ords h.2]
theorem eqv_ord_ne {G1 G2 : List (List Int)} (h : G1 ≠ G2) : PyData.eqv (ordD G1) (ordD G2) = false := by
  cases e : PyData.eqv (ordD G1) (ordD G2) with
  | false => rfl
  | true =>
    unfold ordD at e
    simp only [PyData.eqv] at e
    exact absurd (eqv_ords e) h
/-- an order of at most n marks is small data -/
theorem ord_sm {f : Int → Int} {n : Nat} (hn : n ≤ 60) : Sm 7000000 2 (ordD (ord f (iota n))) := by
  have z := Sm.tup (c := 60 * 1923 + 3) (e := 1) (n := 60) (ds := (ord f (iota n)).map fun g => PyData.tuple (g.map PyData.int)) (fun d hd => ?_) ?_
  · exact ⟨z.sh, Nat.le_trans z.ln (by decide), z.dp, z.cl⟩
  · obtain ⟨g, hg, rfl⟩ := List.mem_map.mp hd
    obtain ⟨v, _, rfl⟩ := List.mem_map.mp hg
    refine Sm.ints (fun i hi => ?_) (Nat.le_trans (List.length_filter_le _ _) (by rw [iota_len]; exact hn))
    have := iota_mem.mp (List.mem_filter.mp hi).1
    exact Nat.lt_of_lt_of_le (show i.natAbs < 60 by omega) (by decide)
  · rw [List.length_map]
    unfold ord
    rw [List.length_map]
    refine Nat.le_trans (sortU_len _) ?_
    rw [List.length_map, iota_len]
    exact hn
def spParting2 : Sp := fun vs H Q _ => ∃ (t u : Addr) (a b c d : Int), vs = [.ref t, .ref u] ∧ Two H t u a b c d ∧ ∀ v H', Same H H' → (a = c ∧ b = d → v = .non) → (¬ (a = c ∧ b = d) → ∃ p q, Mid a b c d p q ∧ v = .int (q + 1)) → Q v H'
theorem part2 {vs : List V} {H : Hp} {Q : VK} {E : XK} (h : spParting2 vs H Q E) : spParting vs H Q E := by
  obtain ⟨t, u, a, b, c, d, e, T, k⟩ := h
  exact ⟨t, u, a, b, c, d, e, T, fun z => k _ H (Same.refl H) (fun _ => rfl) fun n => absurd z n, fun n p q H' M s => k _ H' s (fun z => absurd z n) fun _ => ⟨p, q, M, rfl⟩⟩
def spFirst2 : Sp := fun vs H Q _ => ∃ (t u : Addr) (a b c d m p q : Int), vs = [.ref t, .ref u, .int m] ∧ H t = some (.tup [.int a, .int b]) ∧ H u = some (.tup [.int c, .int d]) ∧ Ok a b c d ∧ 1 ≤ m ∧ m ≤ 1000 ∧ Best a b c d p q ∧
  ∀ v H', Same H H' → ((q ≤ m ∧ ∃ r, v = .ref r ∧ H' r = some (.tup [.int p, .int q])) ∨ (m < q ∧ v = .non)) → Q v H'
theorem first2 {vs : List V} {H : Hp} {Q : VK} {E : XK} (h : spFirst2 vs H Q E) : spFirst vs H Q E := by
  obtain ⟨t, u, a, b, c, d, m, p, q, e, h1, h2, h3, h4, h5, h6, k⟩ := h
  exact ⟨t, u, a, b, c, d, m, p, q, e, h1, h2, h3, h4, h5, h6, fun z r H' s _ hr => k _ H' s (.inl ⟨z, r, rfl, hr⟩), fun z H' s => k _ H' s (.inr ⟨z, rfl⟩)⟩
theorem LoHi.orders {x1 x2 y1 y2 a b c d p q : Int} (L : LoHi x1 x2 y1 y2 a b c d) (hx : IsStep x1 x2) (hy : IsStep y1 y2) (n : ¬ (x1 = y1 ∧ x2 = y2)) (B : Best a b c d p q) :
    ord (fun k => (x1 * k).fmod x2) (iota (q + 1).toNat) ≠ ord (fun k => (y1 * k).fmod y2) (iota (q + 1).toNat) ∧ ord (fun k => (x1 * k).fmod x2) (iota (q + 1 - 1).toNat) = ord (fun k => (y1 * k).fmod y2) (iota (q + 1 - 1).toNat) := by
  rw [show q + 1 - 1 = q by omega]
  have le := L.le
  rcases L.or with ⟨rfl, rfl, rfl, rfl⟩ | ⟨rfl, rfl, rfl, rfl⟩
  · have lt : a * d < c * b := by
      rcases Int.lt_or_eq_of_le le with h | h
      · exact h
      · exact absurd (step_eq hx hy h) n
    have P : Pair a b c d := ⟨hx.x0, hx.xy, hy.x0, hy.xy, lt⟩
    exact ⟨B.Least.unlike P, B.Least.alike P⟩
  · have lt : a * d < c * b := by
      rcases Int.lt_or_eq_of_le le with h | h
      · exact h
      · have := step_eq hy hx h
        exact absurd ⟨this.1.symm, this.2.symm⟩ n
    have P : Pair a b c d := ⟨hy.x0, hy.xy, hx.x0, hx.xy, lt⟩
    exact ⟨fun e => B.Least.unlike P e.symm, (B.Least.alike P).symm⟩
end My
set_option Elab.async false
set_option linter.all false
set_option maxRecDepth 100000
set_option maxHeartbeats 8000000
set_option exponentiation.threshold 2000
namespace My
open PySem PySem.Spec PyProof.Rows L2 Gn Mt
abbrev sRight : Stmt := top 34
theorem scRight : FnScope ["_law_tin_here", "_law_turn", "_law_x", "_law_y", "_law_low_here", "_law_high", "_law_found", "_law_told", "_law_first_here"] ["_law_tin_here"] (defScope sRight) := ⟨rfl, rfl, rfl, by decide +kernel, rfl, by decide +kernel, by decide +kernel⟩
def spRight : Sp := fun vs H Q _ => ∃ (t : Addr), vs = [.ref t] ∧ Tin H t ∧ ∀ H', Sipped H H' t → Q (.bl true) H'
structure All (K : PySem.W.Frag) (mg : Str → Option Value) where
  bl : Bl mg
  bo : Bo mg
  si : Si K mg
  fi : Addr × FuncData
  fr : Addr × FuncData
  fs : Addr × FuncData
  fc : Addr × FuncData
  fn : Addr × FuncData
  fo : Addr × FuncData
  fp : Addr × FuncData
  fb : Addr × FuncData
  fe : Addr × FuncData
  gt : Addr × FuncData
  gs : Addr × FuncData
  gp : Addr × FuncData
  gf : Addr × FuncData
  gg : Addr × FuncData
  gl : Addr × FuncData
  gu : Addr × FuncData
  ge : Addr × FuncData
  gi : Addr × FuncData
  gn : Addr × FuncData
  di : Df K mg "is_integer" sIsInt ["given"] fi.1 fi.2
  dr : Df K mg "is_fraction" sIsFr ["given"] fr.1 fr.2
  ds : Df K mg "is_step" sIsStep ["given"] fs.1 fs.2
  dc : Df K mg "check_step" sChStep ["given"] fc.1 fc.2
  dn : Df K mg "check_number" sChNum ["given", "least", "most"] fn.1 fn.2
  fN : Addr × FuncData
  dN : Df K mg "is_number" sIsNum ["given", "least", "most"] fN.1 fN.2
  dO : Df K mg "order" sOrder ["step", "count"] fo.1 fo.2
  dp : Df K mg "parting" sParting ["one", "other"] fp.1 fp.2
  dpk : KBinds K fp.2 ["one", "other"] ["other", "one"] kw2s kw2s
  db : Df K mg "between" sBetween ["one", "other"] fb.1 fb.2
  dbk : KBinds K fb.2 ["one", "other"] ["other", "one"] kw2s kw2s
  de : Df K mg "_simplest_between" sSb ["one", "other"] fe.1 fe.2
  lt : Df K mg "_law_tin" sTin ["_law_script", "_law_turn"] gt.1 gt.2
  ls : Df K mg "_law_sip" sSip ["_law_tin_here", "_law_top"] gs.1 gs.2
  lp : Df K mg "_law_pick" sPick ["_law_tin_here", "_law_menu"] gp.1 gp.2
  lf : Df K mg "_law_far" sFar ["_law_tin_here", "_law_most"] gf.1 gf.2
  lg : Df K mg "_law_gcd" sGcd ["_law_one", "_law_two"] gg.1 gg.2
  ll : Df K mg "_law_low" sLow ["_law_top", "_law_bottom"] gl.1 gl.2
  lu : Df K mg "_law_under" sUnder ["_law_one", "_law_two"] gu.1 gu.2
  le : Df K mg "_law_step" sStep ["_law_tin_here", "_law_most"] ge.1 ge.2
  li : Df K mg "_law_first" sFirst ["_law_low_here", "_law_high", "_law_most"] gi.1 gi.2
  ln : Df K mg "_law_near" sNear ["_law_tin_here", "_law_x"] gn.1 gn.2
section
variable {P : Program} {w : World} {K : PySem.W.Frag} {mg : Str → Option Value} {base : Heap}
theorem ok_right {f : Addr} {fd : FuncData} (F : Fun K "_law_right" "_law_right" sRight f fd) (M : All K mg) : FnOk P w K mg base CX0 6 f fd ["_law_tin_here"] spRight := by
  have GO : FnOk P w K mg base CX0 5 M.fo.1 M.fo.2 ["step", "count"] spOrder := ok_order M.dO.F M.bo M.di M.dr M.ds M.dc M.dn M.dN
  have GB : FnOk P w K mg base CX0 5 M.fb.1 M.fb.2 ["one", "other"] spSb := ok_between M.db.F M.bo.c M.si M.de M.di M.dr M.ds M.dc
  have GP : FnOk P w K mg base CX0 5 M.fp.1 M.fp.2 ["one", "other"] spParting2 := (ok_parting M.dp.F M.bo.c M.si M.de M.di M.dr M.ds M.dc).imp fun _ _ _ _ h => part2 h
  have LS : FnOk P w K mg base CX0 1 M.gs.1 M.gs.2 ["_law_tin_here", "_law_top"] spSip := ok_sip M.ls.F M.bl
  have LP : FnOk P w K mg base CX0 2 M.gp.1 M.gp.2 ["_law_tin_here", "_law_menu"] spPick := ok_pick M.lp.F M.bl M.ls
  have LG : FnOk P w K mg base CX0 1 M.gg.1 M.gg.2 ["_law_one", "_law_two"] spGcd := ok_gcd M.lg.F M.bl
  have LE : FnOk P w K mg base CX0 4 M.ge.1 M.ge.2 ["_law_tin_here", "_law_most"] spStep := ok_step M.le.F M.bl M.ls M.lp M.lg M.lf M.ll
  have LU : FnOk P w K mg base CX0 1 M.gu.1 M.gu.2 ["_law_one", "_law_two"] spUnder := ok_under M.lu.F
  have LI : FnOk P w K mg base CX0 2 M.gi.1 M.gi.2 ["_law_low_here", "_law_high", "_law_most"] spFirst2 := (ok_first M.li.F M.bl M.bo.range M.lu).imp fun _ _ _ _ h => first2 h
  have LN : FnOk P w K mg base CX0 3 M.gn.1 M.gn.2 ["_law_tin_here", "_law_x"] spNear := ok_near M.ln.F M.bl M.ls M.lp M.lg M.ll
  refine F.ok scRight (fun vs H Q E h => ?_) (fun cdv A outer s H vs Q E hr h => ?_)
  · obtain ⟨t, rfl, _⟩ := h
    rfl
  · obtain ⟨t, rfl, T0, q⟩ := h
    have hr1 : Room 1 _ := hr.mono (by decide)
    have hr2 : Room 2 _ := hr.mono (by decide)
    have hr3 : Room 3 _ := hr.mono (by decide)
    have hr4 : Room 4 _ := hr.mono (by decide)
    have hu := hr.units
    refine ⟨_, pss_cons (ps_for PassesOwn.never rfl (pi_range1 rfl M.bo.range (pa_cons pe_int pa_nil)) (pg_name (i := 1) scRight.nd rfl (.inl rfl))
      -- x
      (pss_cons (ps_set (i := 2) scRight.nd rfl (.inl rfl) (pe_call LE hr4 (by rfl) M.le.g M.le.F.kp M.le.b .nil pass0 (pa_cons (pv 0) (pa_cons (pe_call LP hr2 (by rfl) M.lp.g M.lp.F.kp M.lp.b .nil pass0 (pa_cons (pv 0) (pa_cons (pe_lst (pa_cons pe_int (pa_cons pe_int (pa_cons (pe_op op_pow pe_int pe_int) (pa_cons (pe_op op_pow pe_int pe_int) pa_nil))))) pa_nil))) pa_nil))))
      -- y
      (pss_cons (ps_set (i := 3) scRight.nd rfl (.inl rfl) (pe_call LP hr2 (by rfl) M.lp.g M.lp.F.kp M.lp.b .nil pass0 (pa_cons (pv 0) (pa_cons (pe_lst
          (pa_cons (pe_call LE hr4 (by rfl) M.le.g M.le.F.kp M.le.b .nil pass0 (pa_cons (pv 0) (pa_cons pe_int pa_nil))) (pa_cons (pe_call LE hr4 (by rfl) M.le.g M.le.F.kp M.le.b .nil pass0 (pa_cons (pv 0) (pa_cons (pe_op op_pow pe_int pe_int) pa_nil)))
          (pa_cons (pe_call LN hr3 (by rfl) M.ln.g M.ln.F.kp M.ln.b .nil pass0 (pa_cons (pv 0) (pa_cons (pv 2) pa_nil))) (pa_cons (pe_call LN hr3 (by rfl) M.ln.g M.ln.F.kp M.ln.b .nil pass0 (pa_cons (pv 0) (pa_cons (pv 2) pa_nil))) pa_nil))))) pa_nil))))
      -- low, high
      (pss_cons (ps_asg (pe_ifExp (pt_val (pe_call LU hr1 (by rfl) M.lu.g M.lu.F.kp M.lu.b .nil pass0 (pa_cons (pv 2) (pa_cons (pv 3) pa_nil)))) (pe_tup (pa_cons (pv 2) (pa_cons (pv 3) pa_nil))) (pe_tup (pa_cons (pv 3) (pa_cons (pv 2) pa_nil))))
          (pg_tup (by rfl) (pgs_cons (pg_name (i := 4) scRight.nd rfl (.inl rfl)) (pgs_cons (pg_name (i := 5) scRight.nd rfl (.inl rfl)) pgs_nil))))
      -- found, told
      (pss_cons (ps_par (i := 6) (j := 7) (by rfl) scRight.nd rfl rfl (by decide) rfl rfl (pa_cons (pe_call GB hr (by rfl) M.db.g M.db.F.kp M.db.b .nil pass0 (pa_cons (pv 2) (pa_cons (pv 3) pa_nil))) (pa_cons (pe_call GP hr (by rfl) M.dp.g M.dp.F.kp M.dp.b .nil pass0 (pa_cons (pv 2) (pa_cons (pv 3) pa_nil))) pa_nil)) (by rfl))
      (pss_cons (ps_if (PW.pt (pw_or (pt_val (pe_call LU hr1 (by rfl) M.lu.g M.lu.F.kp M.lu.b .nil pass0 (pa_cons (pv 6) (pa_cons (pv 4) pa_nil)))) (pw_or (pt_val (pe_call LU hr1 (by rfl) M.lu.g M.lu.F.kp M.lu.b .nil pass0 (pa_cons (pv 5) (pa_cons (pv 6) pa_nil))))
          (pw_or1 (pt_cmpR op_ne (pe_call LG hr1 (by rfl) M.lg.g M.lg.F.kp M.lg.b .nil pass0 (pa_cons (pe_ix ix_tup (pv 6) pe_int (fun _ _ => rfl)) (pa_cons (pe_ix ix_tup (pv 6) pe_int (fun _ _ => rfl)) pa_nil))) pe_int (nomark _)))))) (pss_one (ps_ret pe_bl)) pss_nil)
      (pss_cons (ps_if (PW.pt (pw_or (pt_cmpR (op_neD hu) (pe_callK0 GB hr (by rfl) M.db.g M.db.F.kp M.dbk pass0 (pk_cons (pv 2) (pk_cons (pv 3) pk_nil))) (pv 6) (nomark _)) (pw_or1 (pt_cmpR op_ne (pe_callK0 GP hr (by rfl) M.dp.g M.dp.F.kp M.dpk pass0 (pk_cons (pv 2) (pk_cons (pv 3) pk_nil))) (pv 7) (nomark _))))) (pss_one (ps_ret pe_bl)) pss_nil)
      (pss_cons (ps_if (pt_cmpR op_ne (pv 7) (pe_ifExp (pt_cmpR (op_eqD hu) (pv 2) (pv 3) (nomark _)) pe_non (pe_op op_add (pe_ix ix_tup (pv 6) pe_int (fun _ _ => rfl)) pe_int)) (nomark _)) (pss_one (ps_ret pe_bl)) pss_nil)
      (pss_cons (ps_set (i := 8) scRight.nd rfl (.inl rfl) (pe_call LI hr2 (by rfl) M.li.g M.li.F.kp M.li.b .nil pass0 (pa_cons (pv 4) (pa_cons (pv 5) (pa_cons pe_int pa_nil)))))
      (pss_cons (ps_if (PW.pt (pw_or (PW.pt (pw_and (pt_cmpR op_notN (pv 8) pe_non (nomark _)) (pw_and1 (pt_cmpR (op_neD hu) (pv 8) (pv 6) (nomark _))))) (pw_or1 (PW.pt (pw_and (pt_cmpR op_isN (pv 8) pe_non (nomark _)) (pw_and1 (pt_cmpR op_le (pe_ix ix_tup (pv 6) pe_int (fun _ _ => rfl)) pe_int (nomark _)))))))) (pss_one (ps_ret pe_bl)) pss_nil)
      (pss_one (ps_if (PW.pt (pw_and (pt_cmpR op_notN (pv 7) pe_non (nomark _)) (pw_and (pt_cmpR op_le (pv 7) pe_int (nomark _)) (pw_and1 (PW.pt (pw_or
          (pt_cmpR (op_eqD hu) (pe_call GO hr (by rfl) M.dO.g M.dO.F.kp M.dO.b .nil pass0 (pa_cons (pv 2) (pa_cons (pv 7) pa_nil))) (pe_call GO hr (by rfl) M.dO.g M.dO.F.kp M.dO.b .nil pass0 (pa_cons (pv 3) (pa_cons (pv 7) pa_nil))) (nomark _))
          (pw_or1 (pt_cmpR (op_neD hu) (pe_call GO hr (by rfl) M.dO.g M.dO.F.kp M.dO.b .nil pass0 (pa_cons (pv 2) (pa_cons (pe_op op_sub (pv 7) pe_int) pa_nil))) (pe_call GO hr (by rfl) M.dO.g M.dO.F.kp M.dO.b .nil pass0 (pa_cons (pv 3) (pa_cons (pe_op op_sub (pv 7) pe_int) pa_nil))) (nomark _)))))))))
          (pss_one (ps_ret pe_bl)) pss_nil)))))))))))) (pss_one (ps_ret pe_bl)), ?_⟩
    refine ⟨6, rfl, by decide, by decide, for_range (lo := 0) (n := 6) (fun i σ H' => ∃ a b c d e g z y, σ = [some (.ref t), a, b, c, d, e, g, z, y] ∧ Sipped H H' t) ⟨none, none, none, none, none, none, none, none, rfl, T0, fun _ _ e _ => e⟩ ?_ ?_⟩
    · rintro i σ H1 _ ⟨a, b, c, d, e, g, z, y, rfl, S1⟩
      -- x
      refine ⟨_, rfl, _, rfl, _, _, rfl, rfl, ⟨by decide, by decide, by decide⟩, _, _, rfl, rfl, ⟨by decide, by decide, by decide⟩, (by show 4 ≤ sizeLine; decide), fun m hm => ?_⟩
      have S2 : Sipped H1 (upd H1 m (.lst (([20, 60, 10 ^ 6, 10 ^ 14] : List Int).map V.int))) t := Sipped.ofSame S1.1 (same_put hm)
      refine ⟨t, m, ([20, 60, 10 ^ 6, 10 ^ 14] : List Int).map V.int, rfl, S2.1, upd_same, S1.1.not hm, by decide, by decide, fun v H2 hv S3 => ?_⟩
      obtain ⟨w0, hw, rfl⟩ := List.mem_map.mp hv
      have hw1 : 1 ≤ w0 ∧ w0 ≤ 10 ^ 14 := by
        have : ∀ w0 ∈ ([20, 60, 10 ^ 6, 10 ^ 14] : List Int), 1 ≤ w0 ∧ w0 ≤ 10 ^ 14 := by decide
        exact this w0 hw
      have big : ∀ k : Int, 0 ≤ k → k ≤ 10 ^ 29 → k.natAbs < 2 ^ 100 := fun k h0 h1 => Nat.lt_of_le_of_lt (show k.natAbs ≤ 10 ^ 29 by omega) (by decide)
      refine ⟨t, w0, rfl, S3.1, hw1.1, big _ (by omega) (by omega), fun x1 x2 p H3 sx lx S4 hp hx3 => ?_⟩
      have hpt : p ≠ t := S3.1.not hp
      have SA : Sipped H H3 t := ((S1.trans S2).trans S3).trans S4
      -- y
      refine ⟨_, rfl, _, rfl, t, 60, rfl, S4.1, by decide, by decide, fun u1 u2 r1 H4 su1 lu1 S5 hr1' hu1 => ?_⟩
      have n1 : r1 ≠ t := S4.1.not hr1'
      refine ⟨_, rfl, _, _, rfl, rfl, ⟨by decide, by decide, by decide⟩, t, 10 ^ 14, rfl, S5.1, by decide, by decide, fun v1 v2 r2 H5 sv1 lv1 S6 hr2' hv1 => ?_⟩
      have n2 : r2 ≠ t := S5.1.not hr2'
      have hx5 := S6.2 _ _ (S5.2 _ _ hx3 hpt) hpt
      refine ⟨_, rfl, _, rfl, t, p, x1, x2, rfl, S6.1, hpt, ⟨hx5, sx⟩, by omega, fun a1 a2 r3 H6 sa1 la1 S7 hr3' ha1 => ?_⟩
      have n3 : r3 ≠ t := S6.1.not hr3'
      have hx6 := S7.2 _ _ hx5 hpt
      refine ⟨_, rfl, _, rfl, t, p, x1, x2, rfl, S7.1, hpt, ⟨hx6, sx⟩, by omega, fun b1 b2 r4 H7 sb1 lb1 S8 hr4' hb1 => ?_⟩
      have n4 : r4 ≠ t := S7.1.not hr4'
      refine ⟨(by show 4 ≤ sizeLine; decide), fun l hl => ?_⟩
      have s9 := same_put (o := HO.lst [.ref r1, .ref r2, .ref r3, .ref r4]) hl
      have S9 := Sipped.ofSame S8.1 s9
      refine ⟨t, l, [.ref r1, .ref r2, .ref r3, .ref r4], rfl, S9.1, upd_same, S8.1.not hl, (by show 0 < 4; decide), (by show 4 ≤ 1000; decide), fun v H8 hv8 S10 => ?_⟩
      have S19 := S9.trans S10
      have k1 := S19.2 _ _ (S8.2 _ _ (S7.2 _ _ (S6.2 _ _ hu1 n1) n1) n1) n1
      have k2 := S19.2 _ _ (S8.2 _ _ (S7.2 _ _ hv1 n2) n2) n2
      have k3 := S19.2 _ _ (S8.2 _ _ ha1 n3) n3
      have k4 := S19.2 _ _ hb1 n4
      obtain ⟨yy, y1, y2, rfl, sy, hy2⟩ : ∃ yy y1 y2, v = V.ref yy ∧ StepAt H8 yy y1 y2 ∧ y2 ≤ 10 ^ 29 := by
        rcases List.mem_cons.mp hv8 with rfl | hv8
        · exact ⟨r1, u1, u2, rfl, ⟨k1, su1⟩, by omega⟩
        rcases List.mem_cons.mp hv8 with rfl | hv8
        · exact ⟨r2, v1, v2, rfl, ⟨k2, sv1⟩, by omega⟩
        rcases List.mem_cons.mp hv8 with rfl | hv8
        · exact ⟨r3, a1, a2, rfl, ⟨k3, sa1⟩, la1⟩
        · obtain rfl := List.mem_singleton.mp hv8
          exact ⟨r4, b1, b2, rfl, ⟨k4, sb1⟩, lb1⟩
      have hx8 := S19.2 _ _ (S8.2 _ _ hx6 hpt) hpt
      have SB : Sipped H H8 t := ((((SA.trans S5).trans S6).trans S7).trans S8).trans S19
      have W8 : Two H8 p yy x1 x2 y1 y2 := ⟨⟨hx8, sx⟩, sy, by omega, by omega⟩
      have x0 := sx.x0
      have xx := sx.xy
      have y0 := sy.2.x0
      have yl := sy.2.xy
      have bg : ∀ k : Int, 0 ≤ k → k ≤ 10 ^ 29 → k.natAbs < 2 ^ 300 := fun k h0 h1 => Nat.lt_trans (big k h0 h1) (by decide)
      -- low, high
      dsimp only [gName, tSeq, tAsg]
      refine tIf_any (fun v H9 => ∃ (r lo hi : Addr) (a b c d : Int), v = .ref r ∧ H9 r = some (.tup [.ref lo, .ref hi]) ∧ Same H8 H9 ∧ StepAt H9 lo a b ∧ StepAt H9 hi c d ∧ b ≤ 10 ^ 29 ∧ d ≤ 10 ^ 29 ∧ LoHi x1 x2 y1 y2 a b c d) (decide (x1 * y2 < y1 * x2))
        (fun R z => ⟨_, rfl, _, rfl, p, yy, x1, x2, y1, y2, rfl, hx8, sy.1, bg _ x0 (by omega), bg _ (by omega) (by omega), bg _ y0 (by omega), bg _ (by omega) hy2, _, rfl, z⟩) (fun hc R z => ?_) (fun hc R z => ?_) ?_
      · have lt := of_decide_eq_true hc
        refine ⟨_, rfl, _, rfl, (by show 2 ≤ sizeLine; decide), fun r hr' => ?_⟩
        have s := same_put (o := HO.tup [.ref p, .ref yy]) hr'
        exact z _ _ ⟨r, p, yy, x1, x2, y1, y2, rfl, upd_same, s, ⟨s _ _ hx8, sx⟩, ⟨s _ _ sy.1, sy.2⟩, by omega, hy2, ⟨by omega, .inl ⟨rfl, rfl, rfl, rfl⟩⟩⟩
      · have lt := of_decide_eq_false hc
        refine ⟨_, rfl, _, rfl, (by show 2 ≤ sizeLine; decide), fun r hr' => ?_⟩
        have s := same_put (o := HO.tup [.ref yy, .ref p]) hr'
        exact z _ _ ⟨r, yy, p, y1, y2, x1, x2, rfl, upd_same, s, ⟨s _ _ sy.1, sy.2⟩, ⟨s _ _ hx8, sx⟩, hy2, by omega, ⟨by omega, .inr ⟨rfl, rfl, rfl, rfl⟩⟩⟩
      rintro v H9 ⟨r, lo, hi, a, b, c, d, rfl, hr9, s10, slo, shi, hb29, hd29, LH⟩
      refine ⟨r, _, rfl, SqT.of hr9, rfl, _, _, rfl, _, _, rfl, rfl, ?_⟩
      have W9 := W8.same s10
      have ok : Ok a b c d := slo.2.okm shi.2 (by omega) (by omega) LH.le
      have a0 := slo.2.x0
      have ab := slo.2.xy
      have c0 := shi.2.x0
      have cd := shi.2.xy
      -- found, told
      refine ⟨_, rfl, _, rfl, p, yy, x1, x2, y1, y2, rfl, W9, fun fp fq fr H10 mid s11 hfr hf10 => ?_⟩
      have B := LH.best sx sy.2 mid
      obtain ⟨fpl, fql, fp0⟩ := B.small ok
      have fq0 := B.q0
      refine ⟨_, rfl, _, rfl, p, yy, x1, x2, y1, y2, rfl, W9.same s11, fun told H11 s12 told1 told2 => ?_⟩
      have W11 := (W9.same s11).same s12
      have told3 : ¬ (x1 = y1 ∧ x2 = y2) → told = .int (fq + 1) := fun n => by
        obtain ⟨p', q', mid', e⟩ := told2 n
        rw [e, ((LH.best sx sy.2 mid').one B).2]
      refine ⟨_, _, rfl, ?_⟩
      have hf11 := s12 _ _ hf10
      have hlo11 := s12 _ _ (s11 _ _ slo.1)
      have hhi11 := s12 _ _ (s11 _ _ shi.1)
      -- under(found, low)
      refine ⟨_, rfl, _, rfl, fr, lo, fp, fq, a, b, rfl, hf11, hlo11, bg _ fp0 (by omega), bg _ (by omega) (by omega), bg _ a0 (by omega), bg _ (by omega) hb29, _, rfl, ?_⟩
      rw [decide_eq_false (show ¬ fp * b < a * fq by have := B.lo; omega)]
      refine iteF ⟨_, rfl, _, rfl, hi, fr, c, d, fp, fq, rfl, hhi11, hf11, bg _ c0 (by omega), bg _ (by omega) hd29, bg _ fp0 (by omega), bg _ (by omega) (by omega), _, rfl, ?_⟩
      rw [decide_eq_false (show ¬ c * fq < fp * d by have := B.hi; omega)]
      refine iteF ⟨_, rfl, fr, _, 0, .int fp, rfl, rfl, SqT.of hf11, at_of (j := 0) rfl rfl, _, rfl, fr, _, 1, .int fq, rfl, rfl, SqT.of hf11, at_of (j := 1) rfl rfl, fp, fq, rfl, fp0, by omega, ?_⟩
      rw [B.co ok]
      refine ⟨rfl, _, rfl, iteNS rfl ?_⟩
      -- between(other=x, one=y) != found
      have W11' : Two H11 yy p y1 y2 x1 x2 := ⟨W11.s2, W11.s1, W11.d1, W11.b1⟩
      refine ⟨_, rfl, _, rfl, yy, p, y1, y2, x1, x2, rfl, W11', fun gp gq gr H12 mid2 s13 hgr hg12 => ?_⟩
      have B2 := LH.swap.best sy.2 sx mid2
      obtain ⟨rfl, rfl⟩ := B2.one B
      have shp : ∀ u v : Int, SeqAt.shaped (.tuple ([u, v].map PyData.int)) = true := fun u v => rfl
      refine ⟨_, rfl, .tuple ([gp, gq].map PyData.int), .tuple ([gp, gq].map PyData.int), .tup (SqT.of hg12) (dp_ints [gp, gq]), .tup (SqT.of (s13 _ _ hf11)) (dp_ints [gp, gq]), shp _ _, shp _ _, _, rfl, ?_⟩
      rw [SeqAt.eqv_refl _ rfl]
      refine iteF ?_
      -- parting(other=x, one=y) != told
      refine ⟨_, rfl, _, rfl, yy, p, y1, y2, x1, x2, rfl, W11'.same s13, fun told' H13 s14 t1 t2 => ?_⟩
      have et : told' = told := by
        by_cases n : x1 = y1 ∧ x2 = y2
        · rw [told1 n, t1 ⟨n.1.symm, n.2.symm⟩]
        · obtain ⟨p', q', mid', e⟩ := t2 fun z => n ⟨z.1.symm, z.2.symm⟩
          rw [told3 n, e, ((LH.swap.best sy.2 sx mid').one B2).2]
      have sc : scal told told = true := by
        by_cases n : x1 = y1 ∧ x2 = y2
        · rw [told1 n]; rfl
        · rw [told3 n]; rfl
      subst et
      refine ⟨_, rfl, sc, _, rfl, iteNS rfl ?_⟩
      have W13 := (W11.same s13).same s14
      have hf13 := s14 _ _ (s13 _ _ hf11)
      -- told != (None if x == y else found[1] + 1)
      refine ⟨_, rfl, tIf_any (fun v H' => v = told' ∧ H' = H13) (decide (x1 = y1 ∧ x2 = y2)) (fun R z => ⟨_, rfl, _, rfl, .tuple ([x1, x2].map PyData.int), .tuple ([y1, y2].map PyData.int), .tup (SqT.of W13.s1.1) (dp_ints [x1, x2]), .tup (SqT.of W13.s2.1) (dp_ints [y1, y2]), shp _ _, shp _ _, _, rfl, (by rw [eqv_pair]; exact z)⟩) (fun hc R z => ?_) (fun hc R z => ?_) ?_⟩
      · exact z _ _ ⟨(told1 (of_decide_eq_true hc)).symm, rfl⟩
      · exact ⟨_, rfl, fr, _, 1, .int gq, rfl, rfl, SqT.of hf13, at_of (j := 1) rfl rfl, _, _, rfl, rfl, z _ _ ⟨(told3 (of_decide_eq_false hc)).symm, rfl⟩⟩
      rintro v H' ⟨rfl, rfl⟩
      refine ⟨sc, _, rfl, iteNS rfl ?_⟩
      -- first
      have hlo13 := s14 _ _ (s13 _ _ hlo11)
      have hhi13 := s14 _ _ (s13 _ _ hhi11)
      refine ⟨_, rfl, _, rfl, lo, hi, a, b, c, d, 300, gp, gq, rfl, hlo13, hhi13, ok, by decide, by decide, B, fun fv H14 s15 fx => ?_⟩
      have hf14 := s15 _ _ hf13
      have W14 := W13.same s15
      have SE : Sipped H H14 t := SB.trans (Sipped.ofSame SB.1 (((((s10.trans s11).trans s12).trans s13).trans s14).trans s15))
      -- told, the orders
      rcases fx with ⟨h1, r8, rfl, hr8⟩ | ⟨h1, rfl⟩
      · refine ⟨_, rfl, rfl, _, rfl, ?_⟩
        refine iteT ⟨_, rfl, _, rfl, .tuple ([gp, gq].map PyData.int), .tuple ([gp, gq].map PyData.int), .tup (SqT.of hr8) (dp_ints [gp, gq]), .tup (SqT.of hf14) (dp_ints [gp, gq]), shp _ _, shp _ _, _, rfl, ?_⟩
        rw [SeqAt.eqv_refl _ rfl]
        refine iteF ⟨_, rfl, rfl, _, rfl, iteF (iteF ?_)⟩
        by_cases n : x1 = y1 ∧ x2 = y2
        · obtain rfl := told1 n
          refine ⟨_, rfl, rfl, _, rfl, iteF (iteF ?_)⟩
          exact ⟨_, _, _, _, _, _, _, _, rfl, SE⟩
        · obtain rfl := told3 n
          obtain ⟨hne, heq⟩ := LH.orders sx sy.2 n B
          refine ⟨_, rfl, rfl, _, rfl, iteT ⟨_, rfl, _, _, rfl, rfl, _, rfl, ite2 (fun hc => ?_) (fun hc => iteF ⟨_, _, _, _, _, _, _, _, rfl, SE⟩)⟩⟩
          have h60 : gq + 1 ≤ 60 := of_decide_eq_true hc
          have gq0 : 0 < gq := B.q0
          refine ⟨_, rfl, _, rfl, p, x1, x2, gq + 1, rfl, W14.s1, by omega, h60, fun o1 H15 s16 f16 od1 => ?_⟩
          have W15 := W14.same s16
          refine ⟨_, rfl, _, rfl, yy, y1, y2, gq + 1, rfl, W15.s2, by omega, h60, fun o2 H16 s17 f17 od2 => ?_⟩
          have W16 := W15.same s17
          refine ⟨ordD _, ordD _, (od1.same s17).dp, od2.dp, (ord_sm (by omega)).shaped (by decide), (ord_sm (by omega)).shaped (by decide), _, rfl, ?_⟩
          rw [eqv_ord_ne hne]
          refine iteF ⟨_, rfl, _, rfl, _, _, rfl, rfl, p, x1, x2, gq + 1 - 1, rfl, W16.s1, by omega, by omega, fun o3 H17 s18 f18 od3 => ?_⟩
          have W17 := W16.same s18
          refine ⟨_, rfl, _, rfl, _, _, rfl, rfl, yy, y1, y2, gq + 1 - 1, rfl, W17.s2, by omega, by omega, fun o4 H18 s19 f19 od4 => ?_⟩
          rw [heq] at od3
          refine ⟨ordD _, ordD _, (od3.same s19).dp, od4.dp, (ord_sm (by omega)).shaped (by decide), (ord_sm (by omega)).shaped (by decide), _, rfl, ?_⟩
          rw [SeqAt.eqv_refl _ (ord_sm (by omega)).cl]
          refine iteF ?_
          exact ⟨_, _, _, _, _, _, _, _, rfl, SE.trans (Sipped.ofSame SE.1 (((s16.trans s17).trans s18).trans s19))⟩
      · refine ⟨_, rfl, rfl, _, rfl, iteF (iteF ⟨_, rfl, rfl, _, rfl, ?_⟩)⟩
        refine iteT ⟨_, rfl, fr, _, 1, .int gq, rfl, rfl, SqT.of hf14, at_of (j := 1) rfl rfl, _, _, rfl, rfl, _, rfl, ?_⟩
        rw [decide_eq_false (by omega)]
        refine iteF ?_
        by_cases n : x1 = y1 ∧ x2 = y2
        · obtain rfl := told1 n
          refine ⟨_, rfl, rfl, _, rfl, iteF (iteF ?_)⟩
          exact ⟨_, _, _, _, _, _, _, _, rfl, SE⟩
        · obtain rfl := told3 n
          obtain ⟨hne, heq⟩ := LH.orders sx sy.2 n B
          refine ⟨_, rfl, rfl, _, rfl, iteT ⟨_, rfl, _, _, rfl, rfl, _, rfl, ite2 (fun hc => ?_) (fun hc => iteF ⟨_, _, _, _, _, _, _, _, rfl, SE⟩)⟩⟩
          have h60 : gq + 1 ≤ 60 := of_decide_eq_true hc
          have gq0 : 0 < gq := B.q0
          refine ⟨_, rfl, _, rfl, p, x1, x2, gq + 1, rfl, W14.s1, by omega, h60, fun o1 H15 s16 f16 od1 => ?_⟩
          have W15 := W14.same s16
          refine ⟨_, rfl, _, rfl, yy, y1, y2, gq + 1, rfl, W15.s2, by omega, h60, fun o2 H16 s17 f17 od2 => ?_⟩
          have W16 := W15.same s17
          refine ⟨ordD _, ordD _, (od1.same s17).dp, od2.dp, (ord_sm (by omega)).shaped (by decide), (ord_sm (by omega)).shaped (by decide), _, rfl, ?_⟩
          rw [eqv_ord_ne hne]
          refine iteF ⟨_, rfl, _, rfl, _, _, rfl, rfl, p, x1, x2, gq + 1 - 1, rfl, W16.s1, by omega, by omega, fun o3 H17 s18 f18 od3 => ?_⟩
          have W17 := W16.same s18
          refine ⟨_, rfl, _, rfl, _, _, rfl, rfl, yy, y1, y2, gq + 1 - 1, rfl, W17.s2, by omega, by omega, fun o4 H18 s19 f19 od4 => ?_⟩
          rw [heq] at od3
          refine ⟨ordD _, ordD _, (od3.same s19).dp, od4.dp, (ord_sm (by omega)).shaped (by decide), (ord_sm (by omega)).shaped (by decide), _, rfl, ?_⟩
          rw [SeqAt.eqv_refl _ (ord_sm (by omega)).cl]
          refine iteF ?_
          exact ⟨_, _, _, _, _, _, _, _, rfl, SE.trans (Sipped.ofSame SE.1 (((s16.trans s17).trans s18).trans s19))⟩
    · rintro σ H1 ⟨a, b, c, d, e, g, z, y, rfl, S1⟩
      exact q _ S1
end
end My
set_option Elab.async false
set_option linter.all false
set_option maxRecDepth 100000
set_option maxHeartbeats 8000000
set_option exponentiation.threshold 2000
namespace My
open PySem PySem.Spec PyProof.Rows L2 Gn Mt
abbrev sLaw : Stmt := top 35
theorem scLaw : FnScope ["_law_script", "_law_turn"] ["_law_script"] (defScope sLaw) := ⟨rfl, rfl, rfl, by decide +kernel, rfl, by decide +kernel, by decide +kernel⟩
def spLaw (K : PySem.W.Frag) : Sp := fun vs H Q _ => ∃ (a : Addr) (ns : List Int), vs = [.ref a] ∧ SqL K H a (ns.map V.int) ∧ ns.length ≤ 63 ∧ ∀ H', Q (.bl true) H'
theorem st38 : IsStep 3 8 := ⟨by decide, by decide, by decide⟩
theorem st25 : IsStep 2 5 := ⟨by decide, by decide, by decide⟩
theorem st10 : IsStep 1 10 := ⟨by decide, by decide, by decide⟩
theorem stbig : IsStep (10 ^ 29) (10 ^ 30 - 1) := ⟨by decide, by decide, by decide⟩
theorem b1 {p q : Int} (M : Mid 3 8 2 5 p q) : p = 2 ∧ q = 5 := by
  have B := M.1 (by decide)
  refine B.one ⟨by decide, by decide, by decide, fun r s s0 h1 h2 => ?_⟩
  have : s = 1 ∨ s = 2 ∨ s = 3 ∨ s = 4 ∨ 5 ≤ s := by omega
  rcases this with rfl | rfl | rfl | rfl | h <;> omega
theorem b2 {p q : Int} (M : Mid (10 ^ 29) (10 ^ 30 - 1) 1 10 p q) : p = 1 ∧ q = 10 := by
  have B := M.2 (by decide)
  exact B.one ⟨by decide, by decide, by decide, fun r s s0 h1 h2 => by omega⟩
def D0 : PyData := .list [.int 6, .tuple ([2, 5].map PyData.int), .none, .int 11]
structure Bw (mg : Str → Option Value) : Prop where
  all : mg "all" = none
  max : mg "max" = none
  min : mg "min" = none
section
variable {P : Program} {w : World} {K : PySem.W.Frag} {mg : Str → Option Value} {base : Heap}
theorem ok_law {f fR : Addr} {fd fdR : FuncData} (F : Fun K "law" "law" sLaw f fd) (M : All K mg) (W : Bw mg) (R : Df K mg "_law_right" sRight ["_law_tin_here"] fR fdR) : FnOk P w K mg base CX0 7 f fd ["_law_script"] (spLaw K) := by
  have GB : FnOk P w K mg base CX0 5 M.fb.1 M.fb.2 ["one", "other"] spSb := ok_between M.db.F M.bo.c M.si M.de M.di M.dr M.ds M.dc
  have GP : FnOk P w K mg base CX0 5 M.fp.1 M.fp.2 ["one", "other"] spParting2 := (ok_parting M.dp.F M.bo.c M.si M.de M.di M.dr M.ds M.dc).imp fun _ _ _ _ h => part2 h
  have LT : FnOk P w K mg base CX0 1 M.gt.1 M.gt.2 ["_law_script", "_law_turn"] (spTin K) := ok_tin M.lt.F M.bl
  have GR : FnOk P w K mg base CX0 6 fR fdR ["_law_tin_here"] spRight := ok_right R.F M
  refine F.ok scLaw (fun vs H Q E h => ?_) (fun cdv A outer s H vs Q E hr h => ?_)
  · obtain ⟨a, ns, rfl, _⟩ := h
    rfl
  · obtain ⟨a, ns, rfl, hS, hlen, q⟩ := h
    have hr1 : Room 1 _ := hr.mono (by decide)
    have hr5 : Room 5 _ := hr.mono (by decide)
    have hu := hr.units
    refine ⟨_, pss_cons (ps_if (pt_cmpR (op_neD hu)
        (pe_lst (pa_cons (pe_call GP hr5 (by rfl) M.dp.g M.dp.F.kp M.dp.b .nil pass0 (pa_cons (pe_tup (pa_cons pe_int (pa_cons pe_int pa_nil))) (pa_cons (pe_tup (pa_cons pe_int (pa_cons pe_int pa_nil))) pa_nil)))
          (pa_cons (pe_call GB hr5 (by rfl) M.db.g M.db.F.kp M.db.b .nil pass0 (pa_cons (pe_tup (pa_cons pe_int (pa_cons pe_int pa_nil))) (pa_cons (pe_tup (pa_cons pe_int (pa_cons pe_int pa_nil))) pa_nil)))
          (pa_cons (pe_call GP hr5 (by rfl) M.dp.g M.dp.F.kp M.dp.b .nil pass0 (pa_cons (pe_tup (pa_cons pe_int (pa_cons pe_int pa_nil))) (pa_cons (pe_tup (pa_cons pe_int (pa_cons pe_int pa_nil))) pa_nil)))
          (pa_cons (pe_call GP hr5 (by rfl) M.dp.g M.dp.F.kp M.dp.b .nil pass0 (pa_cons (pe_tup (pa_cons (pe_op op_pow pe_int pe_int) (pa_cons (pe_op op_sub (pe_op op_pow pe_int pe_int) pe_int) pa_nil))) (pa_cons (pe_tup (pa_cons pe_int (pa_cons pe_int pa_nil))) pa_nil))) pa_nil)))))
        (pe_lst (pa_cons pe_int (pa_cons (pe_tup (pa_cons pe_int (pa_cons pe_int pa_nil))) (pa_cons pe_non (pa_cons pe_int pa_nil))))) (nomark _)) (pss_one (ps_ret pe_bl)) pss_nil)
      (pss_one (ps_ret (pe_callB (cr_all rfl) (by rfl) W.all (by decide +kernel) (pa_cons
        (pe_lc (te := tCall spRight [] E0 (tCons (tCall (spTin K) [] E0 (tCons (tVar 0) (tCons (tVar 1) tNil))) tNil)) (own := [("_law_turn", 1)]) (g := gName 1) (tt := tYes) rfl scLaw.nd
          (pi_range1 rfl M.bo.range (pa_cons (pe_callB (call_max2 rfl) (by rfl) W.max (by decide +kernel) (pa_cons pe_int (pa_cons (pe_callB (call_min2 rfl) (by rfl) W.min (by decide +kernel) (pa_cons (pe_callB call_len_seq (by rfl) M.bl.len PySem.boot_len (pa_cons (pv 0) pa_nil)) (pa_cons pe_int pa_nil))) pa_nil))) pa_nil))
          (blkOk_by (N := ["_law_script", "_law_turn"]) (sc := defScope sLaw) (by decide +kernel)) (fun _ _ _ _ _ => pg_name (i := 1) scLaw.nd rfl (.inl rfl)) (fun _ _ _ _ _ => pts_nil)
          (fun _ _ _ _ _ => pe_call GR hr (by rfl) R.g R.F.kp R.b .nil pass0 (pa_cons (pe_call LT hr1 (by rfl) M.lt.g M.lt.F.kp M.lt.b .nil pass0 (pa_cons (pv 0) (pa_cons (pv 1) pa_nil))) pa_nil))) pa_nil)))), ?_⟩
    -- parting((3, 8), (2, 5))
    refine ⟨(by show 2 ≤ sizeLine; decide), fun t1 ht1 => ⟨(by show 2 ≤ sizeLine; decide), fun t2 ht2 => ?_⟩⟩
    have a1 := same_put (o := HO.tup [.int 3, .int 8]) ht1
    have a2 := same_put (o := HO.tup [.int 2, .int 5]) ht2
    refine ⟨t1, t2, 3, 8, 2, 5, rfl, ⟨⟨a2 _ _ upd_same, st38⟩, ⟨upd_same, st25⟩, by decide, by decide⟩, fun v1 H1 a3 _ k1 => ?_⟩
    obtain ⟨p1, q1, m1, rfl⟩ := k1 (by decide)
    obtain ⟨rfl, rfl⟩ := b1 m1
    -- between((3, 8), (2, 5))
    refine ⟨(by show 2 ≤ sizeLine; decide), fun t3 ht3 => ⟨(by show 2 ≤ sizeLine; decide), fun t4 ht4 => ?_⟩⟩
    have a4 := same_put (o := HO.tup [.int 3, .int 8]) ht3
    have a5 := same_put (o := HO.tup [.int 2, .int 5]) ht4
    refine ⟨t3, t4, 3, 8, 2, 5, rfl, ⟨⟨a5 _ _ upd_same, st38⟩, ⟨upd_same, st25⟩, by decide, by decide⟩, fun p2 q2 r2 H2 m2 a6 _ e2 => ?_⟩
    obtain ⟨rfl, rfl⟩ := b1 m2
    -- parting((3, 8), (3, 8))
    refine ⟨(by show 2 ≤ sizeLine; decide), fun t5 ht5 => ⟨(by show 2 ≤ sizeLine; decide), fun t6 ht6 => ?_⟩⟩
    have a7 := same_put (o := HO.tup [.int 3, .int 8]) ht5
    have a8 := same_put (o := HO.tup [.int 3, .int 8]) ht6
    refine ⟨t5, t6, 3, 8, 3, 8, rfl, ⟨⟨a8 _ _ upd_same, st38⟩, ⟨upd_same, st38⟩, by decide, by decide⟩, fun v3 H3 a9 k3 _ => ?_⟩
    obtain rfl := k3 ⟨rfl, rfl⟩
    -- parting((10 ** 29, 10 ** 30 - 1), (1, 10))
    refine ⟨_, _, rfl, rfl, ⟨by decide, by decide, by decide⟩, _, _, rfl, rfl, ⟨by decide, by decide, by decide⟩, _, _, rfl, rfl, (by show 2 ≤ sizeLine; decide), fun t7 ht7 => ⟨(by show 2 ≤ sizeLine; decide), fun t8 ht8 => ?_⟩⟩
    have a10 := same_put (o := HO.tup [.int (10 ^ 29), .int (10 ^ 30 - 1)]) ht7
    have a11 := same_put (o := HO.tup [.int 1, .int 10]) ht8
    refine ⟨t7, t8, 10 ^ 29, 10 ^ 30 - 1, 1, 10, rfl, ⟨⟨a11 _ _ upd_same, stbig⟩, ⟨upd_same, st10⟩, by decide, by decide⟩, fun v4 H4 a12 _ k4 => ?_⟩
    obtain ⟨p4, q4, m4, rfl⟩ := k4 (by decide)
    obtain ⟨rfl, rfl⟩ := b2 m4
    refine ⟨(by show 4 ≤ sizeLine; decide), fun l1 hl1 => ?_⟩
    have a13 := same_put (o := HO.lst [.int (5 + 1), .ref r2, .non, .int (10 + 1)]) hl1
    have aL := a1.trans (a2.trans (a3.trans (a4.trans (a5.trans (a6.trans (a7.trans (a8.trans (a9.trans (a10.trans (a11.trans (a12.trans a13)))))))))))
    have er := (a7.trans (a8.trans (a9.trans (a10.trans (a11.trans (a12.trans a13)))))) _ _ e2
    have dl : Dp K _ (.ref l1) D0 := .lst (SqL.of (upd_same (H := H4) (a := l1) (o := HO.lst [.int (5 + 1), .ref r2, .non, .int (10 + 1)]))) (.cons (.int 6) (.cons (.tup (SqT.of er) (dp_ints [2, 5])) (.cons .non (.cons (.int 11) .nil))))
    refine ⟨(by show 2 ≤ sizeLine; decide), fun u1 hu1 => ⟨(by show 4 ≤ sizeLine; decide), fun l2 hl2 => ?_⟩⟩
    have c1 := same_put (o := HO.tup [.int 2, .int 5]) hu1
    have c2 := same_put (o := HO.lst [.int 6, .ref u1, .non, .int 11]) hl2
    have dr : Dp K _ (.ref l2) D0 := .lst (SqL.of upd_same) (.cons (.int 6) (.cons (.tup (SqT.of (c2 _ _ upd_same)) (dp_ints [2, 5])) (.cons .non (.cons (.int 11) .nil))))
    refine ⟨D0, D0, dp_same (c1.trans c2) _ _ dl, dr, by decide, by decide, _, rfl, ?_⟩
    rw [SeqAt.eqv_refl D0 (by decide)]
    refine iteF ?_
    have aZ := (aL.trans c1).trans c2
    have hS2 := aZ.seq hS
    refine ⟨_, rfl, a, _, rfl, .inl hS2, _, _, rfl, _, _, rfl, ?_⟩
    have hN : ∀ L : Int, 0 ≤ (if (if (5 : Int) < L then 5 else L) > 2 then (if (5 : Int) < L then 5 else L) else 2) ∧ (if (if (5 : Int) < L then 5 else L) > 2 then (if (5 : Int) < L then 5 else L) else 2) ≤ 6 := fun L => by
      split <;> split <;> omega
    have hN' := hN (((ns.map V.int).length : Nat) : Int)
    generalize (if (if (5 : Int) < (((ns.map V.int).length : Nat) : Int) then 5 else (((ns.map V.int).length : Nat) : Int)) > 2 then (if (5 : Int) < (((ns.map V.int).length : Nat) : Int) then 5 else (((ns.map V.int).length : Nat) : Int)) else 2) = N at hN' ⊢
    refine ⟨N, rfl, by omega, by omega, fun D hD => ?_⟩
    have s0 := same_put (o := HO.lst []) hD
    refine lc_range (lo := 0) (n := N.toNat) (fun i H2 => H2 D = some (.lst ((List.replicate i true).map V.bl)) ∧ Same _ H2) ⟨upd_same, s0⟩ ?_ ?_
    · rintro i H2 hi ⟨g1, g2⟩
      rw [Int.zero_add]
      refine ⟨rfl, _, rfl, _, rfl, a, ns, _, rfl, g2.seq hS2, by omega, by omega, fun p H3 s3 hp T => ⟨p, rfl, T, fun H4 s4 => ?_⟩⟩
      have nDp : D ≠ p := ne_of_none g1 hp
      refine ⟨_, s4.2 _ _ (s3 _ _ g1) nDp, ?_, ?_, fun b z e => ?_⟩
      · rw [List.length_map, List.length_replicate]
        exact small1000 (by omega)
      · rw [upd_same, List.replicate_succ', List.map_append]; rfl
      · rw [upd_ne (ne_of_none e hD)]
        have z2 := g2 _ _ e
        exact s4.2 _ _ (s3 _ _ z2) (ne_of_none z2 hp)
    · rintro H2 ⟨g1, g2⟩
      refine ⟨D, List.replicate N.toNat true, rfl, SqL.of g1, ?_⟩
      have e : (List.replicate N.toNat true).all id = true := by
        rw [List.all_eq_true]
        intro b hb
        exact (List.mem_replicate.mp hb).2
      rw [e]
      exact q _
end
end My
set_option Elab.async false
set_option linter.all false
set_option maxRecDepth 100000
set_option maxHeartbeats 8000000
namespace My
open PySem PySem.Spec PyProof.Rows L2 Gn Mt
theorem all_mk {l : PySem.W.OpenLaw} {w : World} {K : PySem.W.Frag} {h : Heap} {mg : Str → Option Value} {fa : Addr} (X : K.In h) (G : h.Ns mainGlobals mg) (hfa : mg "law" = some (.ref fa))
    {f0 : Addr} {od0 an0 : Option Addr} {sl0 : Array (Option Value)} {oc0 kV0 dc0 pm0 cd0 ct0 : Value} {f1 : Addr} {od1 an1 : Option Addr} {sl1 : Array (Option Value)} {oc1 kV1 dc1 pm1 cd1 ct1 : Value} {f2 : Addr} {od2 an2 : Option Addr} {sl2 : Array (Option Value)} {oc2 kV2 dc2 pm2 cd2 ct2 : Value} {f3 : Addr} {od3 an3 : Option Addr} {sl3 : Array (Option Value)} {oc3 kV3 dc3 pm3 cd3 ct3 : Value} {f4 : Addr} {od4 an4 : Option Addr} {sl4 : Array (Option Value)} {oc4 kV4 dc4 pm4 cd4 ct4 : Value} {f5 : Addr} {od5 an5 : Option Addr} {sl5 : Array (Option Value)} {oc5 kV5 dc5 pm5 cd5 ct5 : Value} {f6 : Addr} {od6 an6 : Option Addr} {sl6 : Array (Option Value)} {oc6 kV6 dc6 pm6 cd6 ct6 : Value} {f7 : Addr} {od7 an7 : Option Addr} {sl7 : Array (Option Value)} {oc7 kV7 dc7 pm7 cd7 ct7 : Value} {f8 : Addr} {od8 an8 : Option Addr} {sl8 : Array (Option Value)} {oc8 kV8 dc8 pm8 cd8 ct8 : Value} {f9 : Addr} {od9 an9 : Option Addr} {sl9 : Array (Option Value)} {oc9 kV9 dc9 pm9 cd9 ct9 : Value} {f10 : Addr} {od10 an10 : Option Addr} {sl10 : Array (Option Value)} {oc10 kV10 dc10 pm10 cd10 ct10 : Value} {f11 : Addr} {od11 an11 : Option Addr} {sl11 : Array (Option Value)} {oc11 kV11 dc11 pm11 cd11 ct11 : Value} {f12 : Addr} {od12 an12 : Option Addr} {sl12 : Array (Option Value)} {oc12 kV12 dc12 pm12 cd12 ct12 : Value} {f13 : Addr} {od13 an13 : Option Addr} {sl13 : Array (Option Value)} {oc13 kV13 dc13 pm13 cd13 ct13 : Value} {f14 : Addr} {od14 an14 : Option Addr} {sl14 : Array (Option Value)} {oc14 kV14 dc14 pm14 cd14 ct14 : Value} {f15 : Addr} {od15 an15 : Option Addr} {sl15 : Array (Option Value)} {oc15 kV15 dc15 pm15 cd15 ct15 : Value} {f16 : Addr} {od16 an16 : Option Addr} {sl16 : Array (Option Value)} {oc16 kV16 dc16 pm16 cd16 ct16 : Value} {f17 : Addr} {od17 an17 : Option Addr} {sl17 : Array (Option Value)} {oc17 kV17 dc17 pm17 cd17 ct17 : Value} {f18 : Addr} {od18 an18 : Option Addr} {sl18 : Array (Option Value)} {oc18 kV18 dc18 pm18 cd18 ct18 : Value} {f19 : Addr} {od19 an19 : Option Addr} {sl19 : Array (Option Value)} {oc19 kV19 dc19 pm19 cd19 ct19 : Value} {f20 : Addr} {od20 an20 : Option Addr} {sl20 : Array (Option Value)} {oc20 kV20 dc20 pm20 cd20 ct20 : Value} {f21 : Addr} {od21 an21 : Option Addr} {sl21 : Array (Option Value)} {oc21 kV21 dc21 pm21 cd21 ct21 : Value} {f22 : Addr} {od22 an22 : Option Addr} {sl22 : Array (Option Value)} {oc22 kV22 dc22 pm22 cd22 ct22 : Value} {f23 : Addr} {od23 an23 : Option Addr} {sl23 : Array (Option Value)} {oc23 kV23 dc23 pm23 cd23 ct23 : Value} {f24 : Addr} {od24 an24 : Option Addr} {sl24 : Array (Option Value)} {oc24 kV24 dc24 pm24 cd24 ct24 : Value} {f25 : Addr} {od25 an25 : Option Addr} {sl25 : Array (Option Value)} {oc25 kV25 dc25 pm25 cd25 ct25 : Value} {f26 : Addr} {od26 an26 : Option Addr} {sl26 : Array (Option Value)} {oc26 kV26 dc26 pm26 cd26 ct26 : Value} {tk1 : Tok}
    (a0 : PySem.W.nsIn K mainGlobals "is_integer" = some (some (.ref f0))) (l0 : K.lookup f0 = some ⟨oc0, od0, .func (PySem.W.fnOf "is_integer" "is_integer" (defArgs sIsInt) (defBody sIsInt) (defScope sIsInt) .none kV0 dc0 pm0 an0 cd0 ct0), sl0⟩) (c0 : PySem.W.codeIn K cd0 "is_integer" = true) (k0 : PySem.W.keepIn K (.ref f0) = true)
    (a1 : PySem.W.nsIn K mainGlobals "is_fraction" = some (some (.ref f1))) (l1 : K.lookup f1 = some ⟨oc1, od1, .func (PySem.W.fnOf "is_fraction" "is_fraction" (defArgs sIsFr) (defBody sIsFr) (defScope sIsFr) .none kV1 dc1 pm1 an1 cd1 ct1), sl1⟩) (c1 : PySem.W.codeIn K cd1 "is_fraction" = true) (k1 : PySem.W.keepIn K (.ref f1) = true)
    (a2 : PySem.W.nsIn K mainGlobals "is_step" = some (some (.ref f2))) (l2 : K.lookup f2 = some ⟨oc2, od2, .func (PySem.W.fnOf "is_step" "is_step" (defArgs sIsStep) (defBody sIsStep) (defScope sIsStep) .none kV2 dc2 pm2 an2 cd2 ct2), sl2⟩) (c2 : PySem.W.codeIn K cd2 "is_step" = true) (k2 : PySem.W.keepIn K (.ref f2) = true)
    (a3 : PySem.W.nsIn K mainGlobals "check_step" = some (some (.ref f3))) (l3 : K.lookup f3 = some ⟨oc3, od3, .func (PySem.W.fnOf "check_step" "check_step" (defArgs sChStep) (defBody sChStep) (defScope sChStep) .none kV3 dc3 pm3 an3 cd3 ct3), sl3⟩) (c3 : PySem.W.codeIn K cd3 "check_step" = true) (k3 : PySem.W.keepIn K (.ref f3) = true)
    (a4 : PySem.W.nsIn K mainGlobals "check_number" = some (some (.ref f4))) (l4 : K.lookup f4 = some ⟨oc4, od4, .func (PySem.W.fnOf "check_number" "check_number" (defArgs sChNum) (defBody sChNum) (defScope sChNum) .none kV4 dc4 pm4 an4 cd4 ct4), sl4⟩) (c4 : PySem.W.codeIn K cd4 "check_number" = true) (k4 : PySem.W.keepIn K (.ref f4) = true)
    (a5 : PySem.W.nsIn K mainGlobals "order" = some (some (.ref f5))) (l5 : K.lookup f5 = some ⟨oc5, od5, .func (PySem.W.fnOf "order" "order" (defArgs sOrder) (defBody sOrder) (defScope sOrder) .none kV5 dc5 pm5 an5 cd5 ct5), sl5⟩) (c5 : PySem.W.codeIn K cd5 "order" = true) (k5 : PySem.W.keepIn K (.ref f5) = true)
    (a6 : PySem.W.nsIn K mainGlobals "parting" = some (some (.ref f6))) (l6 : K.lookup f6 = some ⟨oc6, od6, .func (PySem.W.fnOf "parting" "parting" (defArgs sParting) (defBody sParting) (defScope sParting) .none kV6 dc6 pm6 an6 cd6 ct6), sl6⟩) (c6 : PySem.W.codeIn K cd6 "parting" = true) (k6 : PySem.W.keepIn K (.ref f6) = true)
    (a7 : PySem.W.nsIn K mainGlobals "between" = some (some (.ref f7))) (l7 : K.lookup f7 = some ⟨oc7, od7, .func (PySem.W.fnOf "between" "between" (defArgs sBetween) (defBody sBetween) (defScope sBetween) .none kV7 dc7 pm7 an7 cd7 ct7), sl7⟩) (c7 : PySem.W.codeIn K cd7 "between" = true) (k7 : PySem.W.keepIn K (.ref f7) = true)
    (a8 : PySem.W.nsIn K mainGlobals "_simplest_between" = some (some (.ref f8))) (l8 : K.lookup f8 = some ⟨oc8, od8, .func (PySem.W.fnOf "_simplest_between" "_simplest_between" (defArgs sSb) (defBody sSb) (defScope sSb) .none kV8 dc8 pm8 an8 cd8 ct8), sl8⟩) (c8 : PySem.W.codeIn K cd8 "_simplest_between" = true) (k8 : PySem.W.keepIn K (.ref f8) = true)
    (a9 : PySem.W.nsIn K mainGlobals "simplest_in" = some (some (.ref f9))) (l9 : K.lookup f9 = some ⟨oc9, od9, .func (PySem.W.fnOf "simplest_in" "simplest_in" (defArgs sSimplest) (defBody sSimplest) (defScope sSimplest) .none kV9 dc9 pm9 an9 cd9 ct9), sl9⟩) (c9 : PySem.W.codeIn K cd9 "simplest_in" = true) (k9 : PySem.W.keepIn K (.ref f9) = true)
    (a10 : PySem.W.nsIn K mainGlobals "_least_whole" = some (some (.ref f10))) (l10 : K.lookup f10 = some ⟨oc10, od10, .func (PySem.W.fnOf "_least_whole" "_least_whole" (defArgs sLW) (defBody sLW) (defScope sLW) .none kV10 dc10 pm10 an10 cd10 ct10), sl10⟩) (c10 : PySem.W.codeIn K cd10 "_least_whole" = true) (k10 : PySem.W.keepIn K (.ref f10) = true)
    (a11 : PySem.W.nsIn K mainGlobals "_is_within" = some (some (.ref f11))) (l11 : K.lookup f11 = some ⟨oc11, od11, .func (PySem.W.fnOf "_is_within" "_is_within" (defArgs sIW) (defBody sIW) (defScope sIW) .none kV11 dc11 pm11 an11 cd11 ct11), sl11⟩) (c11 : PySem.W.codeIn K cd11 "_is_within" = true) (k11 : PySem.W.keepIn K (.ref f11) = true)
    (a12 : PySem.W.nsIn K mainGlobals "_turned" = some (some (.ref f12))) (l12 : K.lookup f12 = some ⟨oc12, od12, .func (PySem.W.fnOf "_turned" "_turned" (defArgs sTurned) (defBody sTurned) (defScope sTurned) .none kV12 dc12 pm12 an12 cd12 ct12), sl12⟩) (c12 : PySem.W.codeIn K cd12 "_turned" = true) (k12 : PySem.W.keepIn K (.ref f12) = true)
    (a13 : PySem.W.nsIn K mainGlobals "is_less" = some (some (.ref f13))) (l13 : K.lookup f13 = some ⟨oc13, od13, .func (PySem.W.fnOf "is_less" "is_less" (defArgs sIsLess) (defBody sIsLess) (defScope sIsLess) .none kV13 dc13 pm13 an13 cd13 ct13), sl13⟩) (c13 : PySem.W.codeIn K cd13 "is_less" = true) (k13 : PySem.W.keepIn K (.ref f13) = true)
    (a14 : PySem.W.nsIn K mainGlobals "is_number" = some (some (.ref f14))) (l14 : K.lookup f14 = some ⟨oc14, od14, .func (PySem.W.fnOf "is_number" "is_number" (defArgs sIsNum) (defBody sIsNum) (defScope sIsNum) .none kV14 dc14 pm14 an14 cd14 ct14), sl14⟩) (c14 : PySem.W.codeIn K cd14 "is_number" = true) (k14 : PySem.W.keepIn K (.ref f14) = true)
    (a15 : PySem.W.nsIn K mainGlobals "_law_tin" = some (some (.ref f15))) (l15 : K.lookup f15 = some ⟨oc15, od15, .func (PySem.W.fnOf "_law_tin" "_law_tin" (defArgs sTin) (defBody sTin) (defScope sTin) .none kV15 dc15 pm15 an15 cd15 ct15), sl15⟩) (c15 : PySem.W.codeIn K cd15 "_law_tin" = true) (k15 : PySem.W.keepIn K (.ref f15) = true)
    (a16 : PySem.W.nsIn K mainGlobals "_law_sip" = some (some (.ref f16))) (l16 : K.lookup f16 = some ⟨oc16, od16, .func (PySem.W.fnOf "_law_sip" "_law_sip" (defArgs sSip) (defBody sSip) (defScope sSip) .none kV16 dc16 pm16 an16 cd16 ct16), sl16⟩) (c16 : PySem.W.codeIn K cd16 "_law_sip" = true) (k16 : PySem.W.keepIn K (.ref f16) = true)
    (a17 : PySem.W.nsIn K mainGlobals "_law_pick" = some (some (.ref f17))) (l17 : K.lookup f17 = some ⟨oc17, od17, .func (PySem.W.fnOf "_law_pick" "_law_pick" (defArgs sPick) (defBody sPick) (defScope sPick) .none kV17 dc17 pm17 an17 cd17 ct17), sl17⟩) (c17 : PySem.W.codeIn K cd17 "_law_pick" = true) (k17 : PySem.W.keepIn K (.ref f17) = true)
    (a18 : PySem.W.nsIn K mainGlobals "_law_far" = some (some (.ref f18))) (l18 : K.lookup f18 = some ⟨oc18, od18, .func (PySem.W.fnOf "_law_far" "_law_far" (defArgs sFar) (defBody sFar) (defScope sFar) .none kV18 dc18 pm18 an18 cd18 ct18), sl18⟩) (c18 : PySem.W.codeIn K cd18 "_law_far" = true) (k18 : PySem.W.keepIn K (.ref f18) = true)
    (a19 : PySem.W.nsIn K mainGlobals "_law_gcd" = some (some (.ref f19))) (l19 : K.lookup f19 = some ⟨oc19, od19, .func (PySem.W.fnOf "_law_gcd" "_law_gcd" (defArgs sGcd) (defBody sGcd) (defScope sGcd) .none kV19 dc19 pm19 an19 cd19 ct19), sl19⟩) (c19 : PySem.W.codeIn K cd19 "_law_gcd" = true) (k19 : PySem.W.keepIn K (.ref f19) = true)
    (a20 : PySem.W.nsIn K mainGlobals "_law_low" = some (some (.ref f20))) (l20 : K.lookup f20 = some ⟨oc20, od20, .func (PySem.W.fnOf "_law_low" "_law_low" (defArgs sLow) (defBody sLow) (defScope sLow) .none kV20 dc20 pm20 an20 cd20 ct20), sl20⟩) (c20 : PySem.W.codeIn K cd20 "_law_low" = true) (k20 : PySem.W.keepIn K (.ref f20) = true)
    (a21 : PySem.W.nsIn K mainGlobals "_law_under" = some (some (.ref f21))) (l21 : K.lookup f21 = some ⟨oc21, od21, .func (PySem.W.fnOf "_law_under" "_law_under" (defArgs sUnder) (defBody sUnder) (defScope sUnder) .none kV21 dc21 pm21 an21 cd21 ct21), sl21⟩) (c21 : PySem.W.codeIn K cd21 "_law_under" = true) (k21 : PySem.W.keepIn K (.ref f21) = true)
    (a22 : PySem.W.nsIn K mainGlobals "_law_step" = some (some (.ref f22))) (l22 : K.lookup f22 = some ⟨oc22, od22, .func (PySem.W.fnOf "_law_step" "_law_step" (defArgs sStep) (defBody sStep) (defScope sStep) .none kV22 dc22 pm22 an22 cd22 ct22), sl22⟩) (c22 : PySem.W.codeIn K cd22 "_law_step" = true) (k22 : PySem.W.keepIn K (.ref f22) = true)
    (a23 : PySem.W.nsIn K mainGlobals "_law_first" = some (some (.ref f23))) (l23 : K.lookup f23 = some ⟨oc23, od23, .func (PySem.W.fnOf "_law_first" "_law_first" (defArgs sFirst) (defBody sFirst) (defScope sFirst) .none kV23 dc23 pm23 an23 cd23 ct23), sl23⟩) (c23 : PySem.W.codeIn K cd23 "_law_first" = true) (k23 : PySem.W.keepIn K (.ref f23) = true)
    (a24 : PySem.W.nsIn K mainGlobals "_law_near" = some (some (.ref f24))) (l24 : K.lookup f24 = some ⟨oc24, od24, .func (PySem.W.fnOf "_law_near" "_law_near" (defArgs sNear) (defBody sNear) (defScope sNear) .none kV24 dc24 pm24 an24 cd24 ct24), sl24⟩) (c24 : PySem.W.codeIn K cd24 "_law_near" = true) (k24 : PySem.W.keepIn K (.ref f24) = true)
    (a25 : PySem.W.nsIn K mainGlobals "_law_right" = some (some (.ref f25))) (l25 : K.lookup f25 = some ⟨oc25, od25, .func (PySem.W.fnOf "_law_right" "_law_right" (defArgs sRight) (defBody sRight) (defScope sRight) .none kV25 dc25 pm25 an25 cd25 ct25), sl25⟩) (c25 : PySem.W.codeIn K cd25 "_law_right" = true) (k25 : PySem.W.keepIn K (.ref f25) = true)
    (a26 : PySem.W.nsIn K mainGlobals "law" = some (some (.ref f26))) (l26 : K.lookup f26 = some ⟨oc26, od26, .func (PySem.W.fnOf "law" "law" (defArgs sLaw) (defBody sLaw) (defScope sLaw) .none kV26 dc26 pm26 an26 cd26 ct26), sl26⟩) (c26 : PySem.W.codeIn K cd26 "law" = true) (k26 : PySem.W.keepIn K (.ref f26) = true)
    (z0 : PySem.W.nsIn K mainGlobals "len" = some none)
    (z1 : PySem.W.nsIn K mainGlobals "int" = some none)
    (z2 : PySem.W.nsIn K mainGlobals "abs" = some none)
    (z3 : PySem.W.nsIn K mainGlobals "sorted" = some none)
    (z4 : PySem.W.nsIn K mainGlobals "tuple" = some none)
    (z5 : PySem.W.nsIn K mainGlobals "isinstance" = some none)
    (z6 : PySem.W.nsIn K mainGlobals "bool" = some none)
    (z7 : PySem.W.nsIn K mainGlobals "range" = some none)
    (z8 : PySem.W.nsIn K mainGlobals "reversed" = some none)
    (z9 : PySem.W.nsIn K mainGlobals "all" = some none)
    (z10 : PySem.W.nsIn K mainGlobals "max" = some none)
    (z11 : PySem.W.nsIn K mainGlobals "min" = some none)
    (m0 : PySem.W.nsIn K mainGlobals "gcd" = some (some (.builtin "math.gcd")))
    (m1 : PySem.W.nsIn K mainGlobals "_MOST_ORDERED" = some (some (.int 60 tk1)))
    : ∃ fd : FuncData, (∀ (s : Shared) (v : Value), BindsTo s fd ⟨[v], []⟩ [("_law_script", v)]) ∧ ∀ base : Heap, K.In base → base.Ns mainGlobals mg → FnG l.prog w K mg base CX0 7 fa fd ["_law_script"] (spLaw K) := by
  cases hfa.symm.trans (PySem.W.mg_of X G a26)
  have F0 := fun_mk (st := sIsInt) l0 c0 k0
  have d0 : Df K mg "is_integer" sIsInt ["given"] f0 _ := ⟨F0, PySem.W.mg_of X G a0, F0.binds fun _ _ _ _ _ _ us hl => match us, hl with | [_], _ => rfl⟩
  have F1 := fun_mk (st := sIsFr) l1 c1 k1
  have d1 : Df K mg "is_fraction" sIsFr ["given"] f1 _ := ⟨F1, PySem.W.mg_of X G a1, F1.binds fun _ _ _ _ _ _ us hl => match us, hl with | [_], _ => rfl⟩
  have F2 := fun_mk (st := sIsStep) l2 c2 k2
  have d2 : Df K mg "is_step" sIsStep ["given"] f2 _ := ⟨F2, PySem.W.mg_of X G a2, F2.binds fun _ _ _ _ _ _ us hl => match us, hl with | [_], _ => rfl⟩
  have F3 := fun_mk (st := sChStep) l3 c3 k3
  have d3 : Df K mg "check_step" sChStep ["given"] f3 _ := ⟨F3, PySem.W.mg_of X G a3, F3.binds fun _ _ _ _ _ _ us hl => match us, hl with | [_], _ => rfl⟩
  have F4 := fun_mk (st := sChNum) l4 c4 k4
  have d4 : Df K mg "check_number" sChNum ["given", "least", "most"] f4 _ := ⟨F4, PySem.W.mg_of X G a4, F4.binds fun _ _ _ _ _ _ us hl => match us, hl with | [_, _, _], _ => rfl⟩
  have F5 := fun_mk (st := sOrder) l5 c5 k5
  have d5 : Df K mg "order" sOrder ["step", "count"] f5 _ := ⟨F5, PySem.W.mg_of X G a5, F5.binds fun _ _ _ _ _ _ us hl => match us, hl with | [_, _], _ => rfl⟩
  have F6 := fun_mk (st := sParting) l6 c6 k6
  have d6 : Df K mg "parting" sParting ["one", "other"] f6 _ := ⟨F6, PySem.W.mg_of X G a6, F6.binds fun _ _ _ _ _ _ us hl => match us, hl with | [_, _], _ => rfl⟩
  have F7 := fun_mk (st := sBetween) l7 c7 k7
  have d7 : Df K mg "between" sBetween ["one", "other"] f7 _ := ⟨F7, PySem.W.mg_of X G a7, F7.binds fun _ _ _ _ _ _ us hl => match us, hl with | [_, _], _ => rfl⟩
  have F8 := fun_mk (st := sSb) l8 c8 k8
  have d8 : Df K mg "_simplest_between" sSb ["one", "other"] f8 _ := ⟨F8, PySem.W.mg_of X G a8, F8.binds fun _ _ _ _ _ _ us hl => match us, hl with | [_, _], _ => rfl⟩
  have F9 := fun_mk (st := sSimplest) l9 c9 k9
  have d9 : Df K mg "simplest_in" sSimplest ["low", "high", "first", "last"] f9 _ := ⟨F9, PySem.W.mg_of X G a9, F9.binds fun _ _ _ _ _ _ us hl => match us, hl with | [_, _, _, _], _ => rfl⟩
  have F10 := fun_mk (st := sLW) l10 c10 k10
  have d10 : Df K mg "_least_whole" sLW ["low", "first"] f10 _ := ⟨F10, PySem.W.mg_of X G a10, F10.binds fun _ _ _ _ _ _ us hl => match us, hl with | [_, _], _ => rfl⟩
  have F11 := fun_mk (st := sIW) l11 c11 k11
  have d11 : Df K mg "_is_within" sIW ["whole", "high", "last"] f11 _ := ⟨F11, PySem.W.mg_of X G a11, F11.binds fun _ _ _ _ _ _ us hl => match us, hl with | [_, _, _], _ => rfl⟩
  have F12 := fun_mk (st := sTurned) l12 c12 k12
  have d12 : Df K mg "_turned" sTurned ["fraction", "whole"] f12 _ := ⟨F12, PySem.W.mg_of X G a12, F12.binds fun _ _ _ _ _ _ us hl => match us, hl with | [_, _], _ => rfl⟩
  have F13 := fun_mk (st := sIsLess) l13 c13 k13
  have d13 : Df K mg "is_less" sIsLess ["one", "other"] f13 _ := ⟨F13, PySem.W.mg_of X G a13, F13.binds fun _ _ _ _ _ _ us hl => match us, hl with | [_, _], _ => rfl⟩
  have F14 := fun_mk (st := sIsNum) l14 c14 k14
  have d14 : Df K mg "is_number" sIsNum ["given", "least", "most"] f14 _ := ⟨F14, PySem.W.mg_of X G a14, F14.binds fun _ _ _ _ _ _ us hl => match us, hl with | [_, _, _], _ => rfl⟩
  have F15 := fun_mk (st := sTin) l15 c15 k15
  have d15 : Df K mg "_law_tin" sTin ["_law_script", "_law_turn"] f15 _ := ⟨F15, PySem.W.mg_of X G a15, F15.binds fun _ _ _ _ _ _ us hl => match us, hl with | [_, _], _ => rfl⟩
  have F16 := fun_mk (st := sSip) l16 c16 k16
  have d16 : Df K mg "_law_sip" sSip ["_law_tin_here", "_law_top"] f16 _ := ⟨F16, PySem.W.mg_of X G a16, F16.binds fun _ _ _ _ _ _ us hl => match us, hl with | [_, _], _ => rfl⟩
  have F17 := fun_mk (st := sPick) l17 c17 k17
  have d17 : Df K mg "_law_pick" sPick ["_law_tin_here", "_law_menu"] f17 _ := ⟨F17, PySem.W.mg_of X G a17, F17.binds fun _ _ _ _ _ _ us hl => match us, hl with | [_, _], _ => rfl⟩
  have F18 := fun_mk (st := sFar) l18 c18 k18
  have d18 : Df K mg "_law_far" sFar ["_law_tin_here", "_law_most"] f18 _ := ⟨F18, PySem.W.mg_of X G a18, F18.binds fun _ _ _ _ _ _ us hl => match us, hl with | [_, _], _ => rfl⟩
  have F19 := fun_mk (st := sGcd) l19 c19 k19
  have d19 : Df K mg "_law_gcd" sGcd ["_law_one", "_law_two"] f19 _ := ⟨F19, PySem.W.mg_of X G a19, F19.binds fun _ _ _ _ _ _ us hl => match us, hl with | [_, _], _ => rfl⟩
  have F20 := fun_mk (st := sLow) l20 c20 k20
  have d20 : Df K mg "_law_low" sLow ["_law_top", "_law_bottom"] f20 _ := ⟨F20, PySem.W.mg_of X G a20, F20.binds fun _ _ _ _ _ _ us hl => match us, hl with | [_, _], _ => rfl⟩
  have F21 := fun_mk (st := sUnder) l21 c21 k21
  have d21 : Df K mg "_law_under" sUnder ["_law_one", "_law_two"] f21 _ := ⟨F21, PySem.W.mg_of X G a21, F21.binds fun _ _ _ _ _ _ us hl => match us, hl with | [_, _], _ => rfl⟩
  have F22 := fun_mk (st := sStep) l22 c22 k22
  have d22 : Df K mg "_law_step" sStep ["_law_tin_here", "_law_most"] f22 _ := ⟨F22, PySem.W.mg_of X G a22, F22.binds fun _ _ _ _ _ _ us hl => match us, hl with | [_, _], _ => rfl⟩
  have F23 := fun_mk (st := sFirst) l23 c23 k23
  have d23 : Df K mg "_law_first" sFirst ["_law_low_here", "_law_high", "_law_most"] f23 _ := ⟨F23, PySem.W.mg_of X G a23, F23.binds fun _ _ _ _ _ _ us hl => match us, hl with | [_, _, _], _ => rfl⟩
  have F24 := fun_mk (st := sNear) l24 c24 k24
  have d24 : Df K mg "_law_near" sNear ["_law_tin_here", "_law_x"] f24 _ := ⟨F24, PySem.W.mg_of X G a24, F24.binds fun _ _ _ _ _ _ us hl => match us, hl with | [_, _], _ => rfl⟩
  have F25 := fun_mk (st := sRight) l25 c25 k25
  have d25 : Df K mg "_law_right" sRight ["_law_tin_here"] f25 _ := ⟨F25, PySem.W.mg_of X G a25, F25.binds fun _ _ _ _ _ _ us hl => match us, hl with | [_], _ => rfl⟩
  have F26 := fun_mk (st := sLaw) l26 c26 k26
  have n0 := PySem.W.mg_none_of X G z0
  have n1 := PySem.W.mg_none_of X G z1
  have n2 := PySem.W.mg_none_of X G z2
  have n3 := PySem.W.mg_none_of X G z3
  have n4 := PySem.W.mg_none_of X G z4
  have n5 := PySem.W.mg_none_of X G z5
  have n6 := PySem.W.mg_none_of X G z6
  have n7 := PySem.W.mg_none_of X G z7
  have n8 := PySem.W.mg_none_of X G z8
  have n9 := PySem.W.mg_none_of X G z9
  have n10 := PySem.W.mg_none_of X G z10
  have n11 := PySem.W.mg_none_of X G z11
  have v0 := PySem.W.mg_of X G m0
  have v1 := PySem.W.mg_of X G m1
  have bl : Bl mg := ⟨n0, n1, n2⟩
  have bc : Bc mg := ⟨n5, n1, n6, n4, n0, v0⟩
  have si : Si K mg := { rv := n8, fm := ⟨f9, _⟩, m := d9, fa := ⟨f10, _⟩, lw := d10, fb := ⟨f11, _⟩, iw := d11, ft := ⟨f12, _⟩, tu := d12, fl := ⟨f13, _⟩, il := d13 }
  have M : All K mg := { bl := bl, bo := ⟨bc, n7, n3, _, v1⟩, si := si, fi := ⟨f0, _⟩, di := d0, fr := ⟨f1, _⟩, dr := d1, fs := ⟨f2, _⟩, ds := d2, fc := ⟨f3, _⟩, dc := d3, fn := ⟨f4, _⟩, dn := d4, fo := ⟨f5, _⟩, dO := d5, fp := ⟨f6, _⟩, dp := d6, fb := ⟨f7, _⟩, db := d7, fe := ⟨f8, _⟩, de := d8, fN := ⟨f14, _⟩, dN := d14, gt := ⟨f15, _⟩, lt := d15, gs := ⟨f16, _⟩, ls := d16, gp := ⟨f17, _⟩, lp := d17, gf := ⟨f18, _⟩, lf := d18, gg := ⟨f19, _⟩, lg := d19, gl := ⟨f20, _⟩, ll := d20, gu := ⟨f21, _⟩, lu := d21, ge := ⟨f22, _⟩, le := d22, gi := ⟨f23, _⟩, li := d23, gn := ⟨f24, _⟩, ln := d24, dpk := kwOf2s F6 fun _ _ _ _ _ _ _ _ => rfl, dbk := kwOf2s F7 fun _ _ _ _ _ _ _ _ => rfl }
  exact ⟨_, fun s v => .of_eq rfl, fun base _ _ => FnG.of (ok_law F26 M ⟨n9, n10, n11⟩ d25)⟩
theorem walk {l : PySem.W.OpenLaw} {q : Program} {loose : List Str} {XP : (Str → Option Value) → Heap → Prop} {YP : World → Heap → Prop} {d : DefRec} {K : Params → PySem.W.Frag} (hn : l.most = some 63) (hdf : d.params.defaults = [])
    (hY : ∀ (w : World) (h : Heap), YP w h → (K w.params).In h) (F : ∀ (w : World) (mg : Str → Option Value) (fa : Addr) (h : Heap), (K w.params).In h → h.Ns mainGlobals mg → mg d.name = some (.ref fa) →
      ∃ fd : FuncData, (∀ (s : Shared) (u : Value), BindsTo s fd ⟨[u], []⟩ [("_law_script", u)]) ∧ ∀ base : Heap, (K w.params).In base → base.Ns mainGlobals mg → FnG l.prog w (K w.params) mg base CX0 7 fa fd ["_law_script"] (spLaw (K w.params))) :
    PySem.W.WalkO q loose XP YP l.row.toRowW d [] (fun f vs => PySem.call f vs) :=
  walkG (n := 63) (k := 7) (x := "_law_script") (CX := fun _ => CX0) (sp := fun w => spLaw (K w.params)) hn (by decide) hdf ⟨rfl, by decide, by decide⟩ hY F (fun _ _ a ns hl _ hS => ⟨a, ns, rfl, hS, hl, fun _ => rfl⟩) fun _ _ _ _ _ z => z
end My
open PySem PySem.W PyProof.Rows
set_option maxRecDepth 100000 in
set_option maxHeartbeats 0 in
theorem PySem.Challenge.cw_rimorders_k04_whole_where_orders_part_holds : PySem.Challenge.rw_rimorders_k04_whole_where_orders_part.Holds := by
  w_on; o_law; k_head; (case hw => w_witness2)
  k_fill
  refine My.walk (l := PySem.Challenge.rw_rimorders_k04_whole_where_orders_part) rfl rfl (fun w h Y => PySem.W.kIn_of Y) ?F
  case F =>
    intro w mg fa h KX G hmg
    refine' My.all_mk KX G hmg ?a0 ?l0 ?c0 ?k0 ?a1 ?l1 ?c1 ?k1 ?a2 ?l2 ?c2 ?k2 ?a3 ?l3 ?c3 ?k3 ?a4 ?l4 ?c4 ?k4 ?a5 ?l5 ?c5 ?k5 ?a6 ?l6 ?c6 ?k6 ?a7 ?l7 ?c7 ?k7 ?a8 ?l8 ?c8 ?k8 ?a9 ?l9 ?c9 ?k9 ?a10 ?l10 ?c10 ?k10 ?a11 ?l11 ?c11 ?k11 ?a12 ?l12 ?c12 ?k12 ?a13 ?l13 ?c13 ?k13 ?a14 ?l14 ?c14 ?k14 ?a15 ?l15 ?c15 ?k15 ?a16 ?l16 ?c16 ?k16 ?a17 ?l17 ?c17 ?k17 ?a18 ?l18 ?c18 ?k18 ?a19 ?l19 ?c19 ?k19 ?a20 ?l20 ?c20 ?k20 ?a21 ?l21 ?c21 ?k21 ?a22 ?l22 ?c22 ?k22 ?a23 ?l23 ?c23 ?k23 ?a24 ?l24 ?c24 ?k24 ?a25 ?l25 ?c25 ?k25 ?a26 ?l26 ?c26 ?k26 ?z0 ?z1 ?z2 ?z3 ?z4 ?z5 ?z6 ?z7 ?z8 ?z9 ?z10 ?z11 ?m0 ?m1
    (case a0 => k_is)
    (case l0 => k_is)
    (case c0 => k_is)
    (case k0 => k_is)
    (case a1 => k_is)
    (case l1 => k_is)
    (case c1 => k_is)
    (case k1 => k_is)
    (case a2 => k_is)
    (case l2 => k_is)
    (case c2 => k_is)
    (case k2 => k_is)
    (case a3 => k_is)
    (case l3 => k_is)
    (case c3 => k_is)
    (case k3 => k_is)
    (case a4 => k_is)
    (case l4 => k_is)
    (case c4 => k_is)
    (case k4 => k_is)
    (case a5 => k_is)
    (case l5 => k_is)
    (case c5 => k_is)
    (case k5 => k_is)
    (case a6 => k_is)
    (case l6 => k_is)
    (case c6 => k_is)
    (case k6 => k_is)
    (case a7 => k_is)
    (case l7 => k_is)
    (case c7 => k_is)
    (case k7 => k_is)
    (case a8 => k_is)
    (case l8 => k_is)
    (case c8 => k_is)
    (case k8 => k_is)
    (case a9 => k_is)
    (case l9 => k_is)
    (case c9 => k_is)
    (case k9 => k_is)
    (case a10 => k_is)
    (case l10 => k_is)
    (case c10 => k_is)
    (case k10 => k_is)
    (case a11 => k_is)
    (case l11 => k_is)
    (case c11 => k_is)
    (case k11 => k_is)
    (case a12 => k_is)
    (case l12 => k_is)
    (case c12 => k_is)
    (case k12 => k_is)
    (case a13 => k_is)
    (case l13 => k_is)
    (case c13 => k_is)
    (case k13 => k_is)
    (case a14 => k_is)
    (case l14 => k_is)
    (case c14 => k_is)
    (case k14 => k_is)
    (case a15 => k_is)
    (case l15 => k_is)
    (case c15 => k_is)
    (case k15 => k_is)
    (case a16 => k_is)
    (case l16 => k_is)
    (case c16 => k_is)
    (case k16 => k_is)
    (case a17 => k_is)
    (case l17 => k_is)
    (case c17 => k_is)
    (case k17 => k_is)
    (case a18 => k_is)
    (case l18 => k_is)
    (case c18 => k_is)
    (case k18 => k_is)
    (case a19 => k_is)
    (case l19 => k_is)
    (case c19 => k_is)
    (case k19 => k_is)
    (case a20 => k_is)
    (case l20 => k_is)
    (case c20 => k_is)
    (case k20 => k_is)
    (case a21 => k_is)
    (case l21 => k_is)
    (case c21 => k_is)
    (case k21 => k_is)
    (case a22 => k_is)
    (case l22 => k_is)
    (case c22 => k_is)
    (case k22 => k_is)
    (case a23 => k_is)
    (case l23 => k_is)
    (case c23 => k_is)
    (case k23 => k_is)
    (case a24 => k_is)
    (case l24 => k_is)
    (case c24 => k_is)
    (case k24 => k_is)
    (case a25 => k_is)
    (case l25 => k_is)
    (case c25 => k_is)
    (case k25 => k_is)
    (case a26 => k_is)
    (case l26 => k_is)
    (case c26 => k_is)
    (case k26 => k_is)
    (case z0 => k_is)
    (case z1 => k_is)
    (case z2 => k_is)
    (case z3 => k_is)
    (case z4 => k_is)
    (case z5 => k_is)
    (case z6 => k_is)
    (case z7 => k_is)
    (case z8 => k_is)
    (case z9 => k_is)
    (case z10 => k_is)
    (case z11 => k_is)
    (case m0 => k_is)
    (case m1 => k_is)
