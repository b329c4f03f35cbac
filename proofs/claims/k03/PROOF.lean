import PyProof.Rows.All
import Wide.All
import OpenK.AllK
import Wide.FinOn
import HandS.ForMost
import HandS.ForExc
import HandS.Strs
import HandS.SetFor
import HandS.SetKeys
import HandS.TupAny
import HandS.Style
import HandS.Gcd
import HandS.Wide
import HandS.IsInst
import HandS.Conv
import HandS.Flow
import PyProof.ReprRoads
import HandS.More
import PyProof.ReprLen
import PySem.Challenge.RW_rimorders_k03_whole_who_comes_behind
set_option Elab.async false
set_option linter.all false
set_option maxRecDepth 100000
set_option maxHeartbeats 4000000
/-! general rules of mine: repr of data, set of a list of ints, t[:0:-1] -/
namespace Gn
open PySem PySem.Spec PyProof.Rows L2
section
variable {X : Cx}
/-! repr of lists and tuples -/
mutual
theorem dp_nodict {K : PySem.W.Frag} {H : Hp} : ∀ (d : PyData) (v : V), Dp K H v d → d.hasDict = false
  | .none, _, _ => by simp only [PyData.hasDict]
  | .bool _, _, _ => by simp only [PyData.hasDict]
  | .int _, _, _ => by simp only [PyData.hasDict]
  | .str _, _, _ => by simp only [PyData.hasDict]
  | .list ds, _, h => by
    cases h with
    | lst _ ha => simp only [PyData.hasDict]; exact dps_nodict ds _ ha
  | .tuple ds, _, h => by
    cases h with
    | tup _ ha => simp only [PyData.hasDict]; exact dps_nodict ds _ ha
  | .dict _, _, h => by cases h
theorem dps_nodict {K : PySem.W.Frag} {H : Hp} : ∀ (ds : List PyData) (vs : List V), DpAll K H vs ds → PyData.hasDictAll ds = false
  | [], _, _ => by simp only [PyData.hasDictAll]
  | d :: ds, _, h => by
    cases h with
    | cons h1 h2 => simp only [PyData.hasDictAll, dp_nodict d _ h1, dps_nodict ds _ h2, Bool.or_self]
end
/-- repr(x), x a list or a tuple of data -/
def rRepr (K : PySem.W.Frag) : List V → Hp → VK → Prop := fun xs H Q => ∃ a d, xs = [V.ref a] ∧ Dp K H (.ref a) d ∧ d.showable = true ∧ d.depth < 60 ∧ d.shown.length ≤ sizeLine ∧ Q (.str d.shown) H
theorem cr_repr (hg : X.A.guards = some []) (hu : X.A.units + 64 < cLine) : CallR X (.builtin "repr") (rRepr X.K) := by
  intro pins s σ H xs us Q I r h
  obtain ⟨a, d, rfl, hd, hs, hdp, hz, q⟩ := h
  rw [Vals.ref1 r]
  obtain ⟨as, rd⟩ := Dp.reads I d _ _ hd rfl
  exact repr_of_reads' rd hs (PySem.PyData.noDict_hsm (dp_nodict d _ hd)) hg (by omega) (fun _ _ e => e) (fun h' u tk k => ⟨.str d.shown, H, I.kept (t' := tk) k, ⟨u, rfl⟩, q⟩) hz
end
end Gn
set_option Elab.async false
set_option linter.all false
set_option maxRecDepth 100000
set_option maxHeartbeats 4000000
namespace Gn
open PySem PySem.Spec PyProof.Rows L2
/-- the empty set object as the machine lays it -/
abbrev eSet (w : World) : Obj := { cls := .type "set", dict := none, data := .set #[] 0 (.fresh 0 0 (!w.params.followText "set-order")) }
section
variable {P : Program} {w : World} {A : Around} {E : Value → Shared → Prop} {s : Shared}
/-- what the init leaves: a set of the ints ns at S, no older object changed -/
abbrev Filled (w : World) (ns : List Int) (s0 : Shared) (S : Addr) (s2 : Shared) : Prop := ∃ (h' : Heap) (tk c : Nat), s2 = { s0 with heap := h', toks := tk } ∧ SetR w h' S (fun j => decide (j ∈ ns)) c ∧ c ≤ ns.length ∧ ∀ b o, s0.heap.get? b = some o → h'.get? b = some o
set_option maxHeartbeats 6000000 in
/-- set(l), l a list of ints -/
theorem set_of_ints {l : Addr} {its : Array Value} (ns : List Int) {Q : Value → Shared → Prop} (hh : A.handled = none) (hl : s.heap.IsList l its) (hi : IntsAre its.toList ns) (hb : ns.length + 1 < scanBound)
    (h : ∀ s2, Filled w ns s s.heap.objs.size s2 → Q (.ref s.heap.objs.size) s2) : wpAny (model P w) A (call (.type "set") [.ref l]) Q E s := by
  have hN : its.size = ns.length := by have q := IntsAre.length hi; rw [Array.length_toList] at q; exact q
  obtain ⟨c, tl, hmro⟩ := F.called_set.mro; have hmade := F.called_set.made; have hsub := F.called_set.sub
  refine wpAny_call (codeAny_of_tree ?_); show wpAny _ _ (callAny (.type "set") _) _ _ _
  refine wpAny_pure ⟨Code.quiet_builtin _ (by decide +kernel), codeAny_builtin F.entry_type_call ?_⟩; rw [Around.under_plain (weight_type_call_type "set" [.ref l] []) rfl]
  have h1 := F.called_set.notType; have h2 := F.called_set.canCreate; have hct := F.typeCall_set_1 (.ref l)
  repeat (any_goals (first | assumption | wp_step))
  refine codeAny_mono (code_set_led1 (.ref l) (E := E) (Q₁ := fun v z => v = .ref s.heap.objs.size ∧ z = { s with heap := s.heap.push (eSet w) }) ⟨rfl, rfl⟩) fun r z hr => ?_
  cases r with
  | error e => exact hr
  | ok fl =>
    cases fl with
    | ret obj =>
      obtain ⟨rfl, rfl⟩ := hr
      have hS : (s.heap.push (eSet w)).get? s.heap.objs.size = some (eSet w) := Heap.get?_push_size _ rfl
      have hT : Shared.TypeIs { s with heap := s.heap.push (eSet w) } (.ref s.heap.objs.size) "set" := ⟨_, hS, rfl⟩
      have hli := F.called_set.init.lookup; have hbi := F.called_set.init.bind (.ref s.heap.objs.size)
      repeat (any_goals (first | assumption | wp_step))
      refine codeAny_mono (codeAny_call_builtin (R := wants (fun r z => r = .none ∧ Filled w ns s s.heap.objs.size z) E) F.called_set.init.plain F.entry_set_init (check_set_init_1 hT ?_)) fun r2 z2 hr2 => ?_
      · obtain ⟨⟨lc, ld, lx, ls⟩, hol, hcl, nl, hdl⟩ := hl
        simp only at hcl hdl
        subst hcl; subst hdl
        have hol' : (s.heap.push (eSet w)).get? l = some { cls := .type "list", dict := ld, data := .seq its nl, slots := ls } := Heap.get?_push_of_some _ hol
        have hsls := F.sub_list_set; have hslf := F.sub_list_frozenset; have hne : (Value.type "list" == Value.type "dict") = false := by decide
        have hl1 : (s.heap.push (eSet w)).IsList l its := ⟨_, hol', rfl, nl, rfl⟩
        unfold Builtin.«set.__init__» noKeywords Builtin.Frozenset.updateFrom
        generalize hPI : pyIter = PI
        wp_walk
        subst hPI
        refine wpAny_pyIter_list hl1 (wpAny_bind (wpAny_runValue ?_))
        have hlS : l < s.heap.objs.size := Heap.lt_size hol
        have h3 : A.in1.in1.in1.handled = none := by simp [hh]
        have z1 : (s.heap.push (eSet w)).objs.size = s.heap.objs.size + 1 := Heap.size_push ..
        have nI : l ≠ (s.heap.push (eSet w)).objs.size := by rw [z1]; exact Nat.ne_of_lt (Nat.lt_succ_of_lt hlS)
        have nF : s.heap.objs.size ∉ [(s.heap.push (eSet w)).objs.size, l] := by
          rw [z1]; intro q; rcases List.mem_cons.mp q with q | q
          · exact Nat.succ_ne_self _ q.symm
          · exact Nat.ne_of_gt hlS (List.mem_singleton.mp q)
        have hval : ∀ (i : Nat) (v : Value), its[i]? = some v → ∃ k t, ns[i]? = some k ∧ v = .int k t := fun i v hv => by
          have hil : i < ns.length := by rw [← hN]; exact (Array.getElem?_eq_some_iff.mp hv).1
          obtain ⟨t, e⟩ := IntsAre.int_at hi i v (by rw [Array.getElem?_toList]; exact hv)
          exact ⟨ns[i], t, List.getElem?_eq_getElem hil, by rw [e, List.getD_eq_getElem?_getD, List.getElem?_eq_getElem hil] <;> rfl⟩
        refine set_update_ints ((Walks.list h3 _ l nI its).toS) s.heap.objs.size nF ns hN hb hval (its.size - 0) 0 _ (by omega) (Nat.zero_le _) ⟨⟨_, Heap.get?_push_size _ rfl, rfl, rfl⟩, (hl1.push _)⟩ ⟨0, Nat.le_refl 0, setR_new_at (Heap.get?_push_of_some _ hS)⟩ ?_
        intro z' c' hm hc' hS'
        obtain ⟨h', g2, d', tk', os'⟩ := z'
        obtain rfl : g2 = s.gens := hm.gens
        obtain rfl : d' = s.drawn := hm.drawn
        obtain rfl : os' = s.os := hm.os
        show wpAny _ _ _ _ _ _
        refine wpAny_pure ?_; show wpAny _ _ (ret Value.none) _ _ _; rw [hN] at hc'
        refine wpAny_pure ⟨rfl, h', tk', c', rfl, hS', hc', fun b o e => ?_⟩
        have hb0 : b < s.heap.objs.size := Heap.lt_size e
        refine hm.heap b o (fun q => ?_) (Heap.get?_push_of_some _ (Heap.get?_push_of_some _ e))
        rcases List.mem_cons.mp q with q | q
        · exact Nat.ne_of_lt hb0 q
        · exact Nat.ne_of_lt (Nat.lt_succ_of_lt hb0) ((List.mem_singleton.mp q).trans z1)
      · cases r2 with
        | error e => exact hr2
        | ok fl2 =>
          cases fl2 with
          | ret r =>
            obtain ⟨rfl, h', tk, c', rfl, hS', hc', hk'⟩ := hr2
            repeat (any_goals (first | assumption | wp_step))
            exact h _ ⟨_, _, _, rfl, hS', hc', hk'⟩
          | _ => exact hr2.elim
    | _ => exact hr.elim
end
section
variable {X : Cx}
/-- set(l) of a list of fewer than 64 ints -/
def rSetI (K : PySem.W.Frag) (w : World) : List V → Hp → VK → Prop := fun xs H Q => ∃ (l : Addr) (ns : List Int), xs = [.ref l] ∧ SqL K H l (ns.map V.int) ∧ ns.length < 64 ∧ ∀ p c, H p = none → c ≤ ns.length → Q (.ref p) (upd H p (SetO w p (fun j => decide (j ∈ ns)) c))
theorem cr_setI (hc : X.calm = true) : CallR X (.type "set") (rSetI X.K X.w) := by
  intro pins s σ H xs us Q I r h
  obtain ⟨l, ns, rfl, hl, hf, q⟩ := h
  rw [Vals.ref1 r]
  obtain ⟨its, rv, pl, hz⟩ := I.list hl
  refine set_of_ints ns (I.ok.hd hc) pl.isList (by simpa using intsAre_of rv) (by unfold scanBound; omega) fun s2 hs => ?_
  obtain ⟨h', tk, c, rfl, hS, hcn, k⟩ := hs
  exact ⟨.ref s.heap.objs.size, _, I.laid (t' := tk) k (Nat.le_refl _) (setO_new hS), rfl, q _ c (I.hok.fresh (Nat.le_refl _)) hcn⟩
end
end Gn
set_option Elab.async false
set_option linter.all false
set_option maxRecDepth 100000
set_option maxHeartbeats 4000000
namespace Gn
open PySem PySem.Spec PyProof.Rows L2
/-! t[:0:-1], t a tuple -/
theorem back_adjust (n : Nat) : Builtin.Slice.slicePlaces (Builtin.Slice.sliceAdjust none (some 0) (-1) (n : Int)).1 (Builtin.Slice.sliceAdjust none (some 0) (-1) (n : Int)).2 (-1) = n - 1 ∧ (Builtin.Slice.sliceAdjust none (some 0) (-1) (n : Int)).1 = (n : Int) - 1 := by
  have a : (Builtin.Slice.sliceAdjust none (some 0) (-1) (n : Int)) = ((n : Int) - 1, min 0 ((n : Int) - 1)) := by
    simp only [Builtin.Slice.sliceAdjust, show ((-1 : Int) < 0) = True by decide, show ((0 : Int) < 0) = False by decide, if_true, if_false]
  rw [a]
  refine ⟨?_, rfl⟩
  unfold Builtin.Slice.slicePlaces
  simp only [show ((-1 : Int) > 0) = False by decide, if_false, show (-(-1) : Int) = 1 by decide, Int.ediv_one]
  split <;> omega
theorem back_pick (xs : Array Value) : ((List.range (xs.size - 1)).filterMap fun (m : Nat) => xs[(((xs.size : Nat) : Int) - 1 + (m : Int) * (-1)).toNat]?).toArray = (xs.toList.drop 1).reverse.toArray := by
  congr 1
  have g : ∀ k, k ≤ xs.size - 1 → ((List.range k).filterMap fun (m : Nat) => xs[(((xs.size : Nat) : Int) - 1 + (m : Int) * (-1)).toNat]?) = ((xs.toList.drop 1).reverse).take k := by
    intro k
    induction k with
    | zero => intro _; rfl
    | succ k ih =>
      intro hk
      have i1 : (((xs.size : Nat) : Int) - 1 + (k : Int) * (-1)).toNat = xs.size - 1 - k := by omega
      have i2 : xs.size - 1 - k < xs.size := by omega
      have hl : k < (xs.toList.drop 1).reverse.length := by rw [List.length_reverse, List.length_drop, Array.length_toList]; omega
      rw [List.range_succ, List.filterMap_append, ih (by omega), List.take_add_one, List.getElem?_eq_getElem hl]
      congr 1
      simp only [List.filterMap_cons, List.filterMap_nil, i1, Array.getElem?_eq_getElem i2, Option.toList]
      congr 1
      rw [List.getElem_reverse, List.getElem_drop]
      simp only [List.length_drop, Array.length_toList, Array.getElem_toList]
      congr 1
      omega
  rw [g _ (Nat.le_refl _)]
  refine List.take_of_length_le ?_
  rw [List.length_reverse, List.length_drop, Array.length_toList]
  exact Nat.le_refl _
section
variable {prog : Program} {w : World} {A : Around} {E : Value → Shared → Prop} {s : Shared}
theorem back_item {t sl : Addr} {its : Array Value} {vl vu vs : Value} {Q : Value → Shared → Prop} (ht : IsTup s.heap t its) (hs : s.heap.IsSliceOf sl vl vu vs) (pl : IsPart vl none) (pu : IsPart vu (some 0)) (ps : IsPart vs (some (-1)))
    (h : Q (.ref s.heap.objs.size) { s with heap := s.heap.push { cls := .type "tuple", data := .seq (its.toList.drop 1).reverse.toArray } }) (hz : its.size ≤ sizeLine) : wpAny (model prog w) A (getItem (.ref t) (.ref sl)) Q E s := by
  have hfit : sizeOk (.seq (its.toList.drop 1).reverse.toArray) := by
    show ((its.toList.drop 1).reverse).toArray.size ≤ sizeLine
    rw [List.size_toArray, List.length_reverse, List.length_drop, Array.length_toList]; omega
  obtain ⟨os, hos, hcs, hds⟩ := id hs
  unfold getItem
  try with_reducible refine wpAny_holding ?_
  first | refine wpAny_bind (wpAny_pure ?_) | skip
  refine wpAny_bind (wpAny_sequenceKey ht.typeIs (by decide) (wpAny_bind (wpAny_callSpecial?_slot (name := Str.ofString "__getitem__") ht.typeIs PyProof.Rows.slot_tuple_getitem (wpAny_call_entry PyProof.Rows.slot_tuple_getitem ht.typeIs PyProof.Rows.entry_tuple_getitem ?_ (PyProof.Rows.args_tuple_getitem _ _)))))
  show wpAny _ _ (Builtin.Tuple.tupleItemsOf (.ref t) >>= _) _ _ s
  refine wpAny_bind (PyProof.Rows.tupleItemsOf_ ht (wpAny_bind (wpAny_typeOf (show s.TypeIs (.ref sl) "slice" from ⟨os, hos, hcs⟩) ?_)))
  rw [if_pos (by decide)]
  refine wpAny_bind ?_
  unfold Builtin.Slice.sliceApplied Builtin.Slice.sliceFields
  refine wpAny_bind (wpAny_bind (wpAny_field hos hds (x := vl) rfl (wpAny_bind (wpAny_field hos hds (x := vu) rfl (wpAny_bind (wpAny_field hos hds (x := vs) rfl (wpAny_pure (wpAny_bind (HT.slicePart_ ps ?_)))))))))
  show wpAny _ _ (if ((-1 : Int) == 0) = true then _ else _) _ _ s
  rw [if_neg (by decide)]
  refine wpAny_bind (HT.slicePart_ pl (wpAny_bind (HT.slicePart_ pu (wpAny_bind (wpAny_pure ?_)))))
  have e1 := (back_adjust its.size).1
  have e2 := (back_adjust its.size).2
  show wpAny _ _ (pure ((Builtin.Slice.sliceAdjust none (some 0) (-1) (its.size : Int)).1, (-1 : Int), Builtin.Slice.slicePlaces (Builtin.Slice.sliceAdjust none (some 0) (-1) (its.size : Int)).1 (Builtin.Slice.sliceAdjust none (some 0) (-1) (its.size : Int)).2 (-1))) _ _ s
  rw [e1, e2]
  refine wpAny_pure ?_
  have no : ¬ ((((its.size : Nat) : Int) - 1 == 0 && (-1 : Int) == 1 && (its.size - 1) == its.size) = true) := by
    rw [show ((-1 : Int) == 1) = false by decide]; simp
  show wpAny _ _ (if ((((its.size : Nat) : Int) - 1 == 0 && (-1 : Int) == 1 && (its.size - 1) == its.size) = true) then _ else _) _ _ s
  rw [if_neg no, back_pick]
  first
    | exact wpAny_bind (m := Builtin.Tuple.tupleExact _) (wpAny_newObj_type (wpAny_pure ⟨_, rfl, wpAny_pure h⟩) hfit)
    | exact wpAny_bind (wpAny_bind (m := Builtin.Tuple.tupleExact _) (wpAny_newObj_type (wpAny_pure ⟨_, rfl, wpAny_pure h⟩) hfit))
    | exact wpAny_bind (wpAny_bind (m := Builtin.Tuple.tupleExact _) (wpAny_newObj_type (wpAny_pure (wpAny_pure ⟨_, rfl, wpAny_pure h⟩)) hfit))
end
def tBack (K : PySem.W.Frag) (te : TE) : TE := fun σ H Q => te σ H fun x H1 => ∃ a xs, x = .ref a ∧ SqT K H1 a xs ∧ ∀ p, H1 p = none → Q (.ref p) (upd H1 p (.tup (xs.drop 1).reverse))
section
variable {X : Cx}
theorem pe_back {e : Expr} {te : TE} {k k0 : Nat} {p0 p1 p2 p3 pos : Pos} (he : PE X e te) : PE X (.Subscript e (.Slice none (some (.Constant (.int 0) k0 p0)) (some (.UnaryOp .USub (.Constant (.int 1) k p1) p2)) p3) pos) (tBack X.K te) := by
  refine ⟨fun pins s σ H Q I h => ?_⟩
  refine Subscript_ (thn (he.run pins s σ H _ I h) fun v s1 ⟨x, H1, I1, r1, q1⟩ => ?_)
  obtain ⟨a, xs, ex, hx, q⟩ := q1
  subst ex
  cases r1
  have hup : PO X (some (.Constant (.int 0) k0 p0)) (tPart (tC (.int 0))) := po_some pe_int
  have hst : PO X (some (.UnaryOp .USub (.Constant (.int 1) k p1) p2)) (tPart (tUn (rU fun i => .int (-i)) (tC (.int 1)))) := po_some (pe_un un_neg pe_int)
  refine wpAny_Slice (thn (po_none.run pins s1 σ H1 (fun o H2 => o = none ∧ H2 = H1) I1 ⟨rfl, rfl⟩) fun vl s2 ⟨l, H2, I2, pl, el, e2⟩ => ?_)
  subst el e2
  refine thn (hup.run pins s2 σ H2 (fun o H3 => o = some 0 ∧ H3 = H2) I2 ⟨0, rfl, rfl, rfl⟩) fun vu s3 ⟨u, H3, I3, pu, eu, e3⟩ => ?_
  subst eu e3
  refine thn (hst.run pins s3 σ H3 (fun o H4 => o = some (-1) ∧ H4 = H3) I3 ⟨1, rfl, -1, rfl, rfl, rfl⟩) fun vs s4 ⟨o, H4, I4, ps, eo, e4⟩ => ?_
  subst eo e4
  have I5 : Inv X pins σ H4 { s4 with heap := s4.heap.push { cls := .type "slice", data := .fields #[vl, vu, vs] } } := I4.kept (t' := s4.toks) fun b ob q => Heap.get?_push_of_some _ q
  obtain ⟨its, r, ht, hz⟩ := I5.tuple hx
  have hlen := r.length
  show wpAny (model X.prog X.w) X.A (subscriptTail e (.Slice none (some (.Constant (.int 0) k0 p0)) (some (.UnaryOp .USub (.Constant (.int 1) k p1) p2)) p3) (.ref a) (.ref s4.heap.objs.size)) (EP X pins σ Q) X.xe { s4 with heap := s4.heap.push { cls := .type "slice", data := .fields #[vl, vu, vs] } }
  refine tail_any (ops := [.ref a, .ref s4.heap.objs.size]) ht.typeIs (PyProof.Rows.slot_tuple_getitem.lookup) ?_ (by with_unfolding_all rfl)
  refine back_item ht (Heap.IsSliceOf.new _ vl vu vs) pl pu ps ?_ (by rw [List.size_toArray]; omega)
  refine ⟨.ref _, _, I5.laid (t' := s4.toks) (o := .tup (xs.drop 1).reverse) (fun b ob q => Heap.get?_push_of_some _ q) (Nat.le_refl _) ?_, rfl, q _ (I5.hok.fresh (Nat.le_refl _))⟩
  exact ⟨by rw [List.length_reverse, List.length_drop]; omega, _, (Vals.drop 1 r).reverse, ⟨_, Heap.get?_push_size _ rfl, rfl, _, rfl⟩⟩
end
end Gn
set_option Elab.async false
set_option linter.all false
set_option maxRecDepth 100000
set_option maxHeartbeats 4000000
namespace Gn
open PySem PySem.Spec PyProof.Rows L2
/-- a def's promise where no repr runs around (the guards are known to be none) -/
structure FnG (P : Program) (w : World) (K : PySem.W.Frag) (mg : Str → Option Value) (base : Heap) (CX : CXT) (k : Nat) (f : Addr) (fd : FuncData) (ps : List Str) (sp : Sp) : Prop where
  len : ∀ vs H Q E, sp vs H Q E → vs.length = ps.length
  run : ∀ (A : Around) (outer : List Env) (s : Shared) (H : Hp) (args : Args) (us : List Value) (vs : List V) (Q : VK) (E : XK), A.guards = some [] → Room k A → Env0 P w K mg base A outer s H → BindsTo s fd args (ps.zip us) → Vals vs us → sp vs H Q E →
    codeAny (model P w) A (.call (.ref f) args) (CR CX outer P w H s Q E) s
section
variable {P : Program} {w : World} {K : PySem.W.Frag} {mg : Str → Option Value} {base : Heap}
theorem FnG.of {CX : CXT} {k : Nat} {f : Addr} {fd : FuncData} {ps : List Str} {sp : Sp} (F : FnOk P w K mg base CX k f fd ps sp) : FnG P w K mg base CX k f fd ps sp := ⟨F.len, fun A o s H a us vs Q E _ => F.run A o s H a us vs Q E⟩
theorem funG {CX : CXT} {x qual : Str} {st : Stmt} {f : Addr} {fd : FuncData} {N ps : List Str} {k : Nat} {sp : Sp} (F : Fun K x qual st f fd) (S : FnScope N ps (defScope st)) (len : ∀ vs H Q E, sp vs H Q E → vs.length = ps.length)
    (hbody : ∀ (cdv : Value) (A : Around) (outer : List Env) (s : Shared) (H : Hp) (vs : List V) (Q : VK) (E : XK), (A.deeper (envOfC qual (defScope st) s.heap.objs.size f cdv)).guards = some [] → Room k (A.deeper (envOfC qual (defScope st) s.heap.objs.size f cdv)) → sp vs H Q E →
      ∃ t, PSs (cxOf CX P w K mg base N qual (defScope st) f cdv A outer s H E) (defBody st) t ∧ t { nx := fun _ H' => Q .non H', rt := Q } (start N vs) H) : FnG P w K mg base CX (k + 1) f fd ps sp := by
  obtain ⟨oc, od, kV, doc, pm, an, cdv, ct, osl, rfl, lk, hcd⟩ := F.ex
  refine ⟨len, fun A outer s H args us vs Q E hg hr e0 hb r hsp => ?_⟩
  have KX : K.In s.heap := e0.mod.kin.keeps fun b o e => (e0.bs b o e).1
  have hkind : ∀ y ∈ ps.zip us, (defScope st).names.lookup y.1 = some .local ∨ ((defScope st).names.lookup y.1 = some .cell ∧ ((cellsFrom (s.heap.objs.size + 1) (defScope st).names []).lookup y.1).isSome = true) := fun y hy =>
    (S.par y.1 (List.of_mem_zip hy).1).elim .inl fun q => .inr ⟨q, PySem.W.cellsFrom_some _ _ _ (.inl q)⟩
  refine codeAny_call_function hr.depth (KX _ _ lk) rfl S.co S.gen rfl (PySem.W.codeRec_of KX hcd) (hb _ _ _ _ (wpAny_newFunctionEnv_cells S.kind hkind fun env he s1 x => ?_))
  subst he
  refine ⟨(e0.mod.nolimit.keeps fun b o e => (e0.bs b o e).1).keeps x.toInCall.keep, codeAny_func ?_⟩
  obtain ⟨t, ht, hq⟩ := hbody cdv A outer s H vs Q E hg (hr.deeper _) hsp
  have I : Inv (cxOf CX P w K mg base N qual (defScope st) f cdv A outer s H E) [] (start N vs) H s1 := inv_start S hr.hd e0 (len _ _ _ _ hsp) r x
  refine wpAny_mono (ht.run [] s1 (start N vs) H _ I hq) (fun fl s' hs => ?_) fun _ _ hs => hs
  cases fl with
  | ret u => obtain ⟨v, σ', H', J, rv, q⟩ := hs; exact ⟨v, H', J.os, J.bare, J.base, J.hok, rv, q⟩
  | next => obtain ⟨σ', H', J, q⟩ := hs; exact ⟨V.non, H', J.os, J.bare, J.base, J.hok, rfl, q⟩
  | brk => obtain ⟨_, _, _, q⟩ := hs; exact False.elim q
  | cont => obtain ⟨_, _, _, q⟩ := hs; exact False.elim q
/-- as Fun.ok: nothing leaves the def -/
theorem funG0 {x qual : Str} {st : Stmt} {f : Addr} {fd : FuncData} {N ps : List Str} {k : Nat} {sp : Sp} (F : Fun K x qual st f fd) (S : FnScope N ps (defScope st)) (len : ∀ vs H Q E, sp vs H Q E → vs.length = ps.length)
    (hbody : ∀ (cdv : Value) (A : Around) (outer : List Env) (s : Shared) (H : Hp) (vs : List V) (Q : VK) (E : XK), (A.deeper (envOfC qual (defScope st) s.heap.objs.size f cdv)).guards = some [] → Room k (A.deeper (envOfC qual (defScope st) s.heap.objs.size f cdv)) → sp vs H Q E →
      ∃ t, PSs (cxOf CX0 P w K mg base N qual (defScope st) f cdv A outer s H E).nox (defBody st) t ∧ t { nx := fun _ H' => Q .non H', rt := Q } (start N vs) H) : FnG P w K mg base CX0 (k + 1) f fd ps sp :=
  funG F S len fun cdv A outer s H vs Q E hg hr hsp => by
    obtain ⟨t, h, q⟩ := hbody cdv A outer s H vs Q E hg hr hsp
    exact ⟨t, h.nox, q⟩
end
section
variable {X : Cx} {CX : CXT} {k : Nat} {f : Addr} {fd : FuncData} {ps ks : List Str} {sp : Sp} {dvs : List V} {ds : List Value} {E : XK} {x : Str} {p pos : Pos} {e : Expr} {es : List Expr} {kws : List Keyword} {t tk : TA}
theorem back_of {pins : List (Addr × Obj)} {σ : L2.St} {H : Hp} {s s' : Shared} {Q : VK} (hx : Passes CX X E) (I : Inv X pins σ H s) {r : Result} (h : CR CX X.stack X.prog X.w H s Q E r s') :
    match r with | .ok (.ret u) => EP X pins σ Q u s' | .ok _ => False | .error e => X.xe e s' := by
  cases r with
  | error e => exact hx pins σ H s e s' I h
  | ok fl => cases fl with
    | ret u => exact I.after h
    | next => exact h
    | brk => exact h
    | cont => exact h
theorem run_fnG {pins : List (Addr × Obj)} {σ : L2.St} {H : Hp} {s : Shared} {Q : VK} {us : List Value} {vs : List V} (F : FnG X.prog X.w X.K X.mg X.base CX k f fd ps sp) (hg : X.A.guards = some []) (hr : Room k X.A) (hb : Binds X.K fd ps ds) (hd : Vals dvs ds) (hx : Passes CX X E)
    (I : Inv X pins σ H s) (r : Vals vs us) (h : sp (vs ++ dvs) H Q E) : wpAny (model X.prog X.w) X.A (call (.ref f) us) (EP X pins σ Q) X.xe s := by
  have r2 : Vals (vs ++ dvs) (us ++ ds) := r.append hd
  refine wpAny_call (codeAny_mono (F.run X.A X.stack s H ⟨us, []⟩ (us ++ ds) (vs ++ dvs) Q E hg hr I.env0 (hb s us I.kIn (by rw [← r2.length]; exact F.len _ _ _ _ h)) r2 h) fun r s' hq => ?_)
  have z := back_of hx I hq
  cases r with
  | error e => exact z
  | ok fl => cases fl with
    | ret u => exact z
    | next => exact z.elim
    | brk => exact z.elim
    | cont => exact z.elim
theorem pe_callG (F : FnG X.prog X.w X.K X.mg X.base CX k f fd ps sp) (hgu : X.A.guards = some []) (hr : Room k X.A) (hg : Gl X x) (hm : X.mg x = some (.ref f)) (hk : PySem.W.keepIn X.K (.ref f) = true) (hb : Binds X.K fd ps ds) (hd : Vals dvs ds) (hx : Passes CX X E)
    (ha : PA X (e :: es) t) (hdb : (x == ("__debug__" : Str)) = false := by decide) (he : starEach (e :: es) X.env = (false, eval e X.env) :: starEach es X.env := by rfl) (hpl : (backTo pos (starEach es X.env)).any (·.1) = false := by rfl) :
    PE X (.Call (.Name x p) (e :: es) [] pos) (tCall sp dvs E t) := ⟨fun pins s σ H Q I h =>
  wpAny_Call_Name_kw (ld_glob I hg hm (PySem.W.callWith_K (h₀ := X.base) I.ok.mod.kin hk (thn (ha.run pos pins s σ H _ I h) fun us s1 ⟨vs, H1, I1, r, q⟩ => ⟨I1.kIn, run_fnG F hgu hr hb hd hx I1 r q⟩) he hpl) hdb)⟩
end
/-! the end of a law -/
section
variable {P : Program} {w : World} {K : PySem.W.Frag} {mg mb : Str → Option Value}
theorem lawG {CX : CXT} {k : Nat} {fa a : Addr} {fd : FuncData} {x : Str} {sp : Sp} {s₁ : Shared} {vs : List Value} {ns : List Int}
    (KX : K.In s₁.heap) (hns : s₁.heap.Ns mainGlobals mg) (hb : s₁.heap.Ns builtinsNs mb) (hbb : ∀ x : Str, x ≠ "__name__" → mb x = bootBuiltins x) (hlim : s₁.heap.NoLimit) (hg : s₁.gens = #[])
    (ha : s₁.heap.get? a = some { cls := .type "list", data := .seq vs.toArray }) (hi : IntsAre vs ns) (hl : ns.length ≤ sizeLine) (hr : Room k callerA)
    (F : ∀ base : Heap, K.In base → base.Ns mainGlobals mg → FnG P w K mg base CX k fa fd [x] sp) (hbind : ∀ (s : Shared) (u : Value), BindsTo s fd ⟨[u], []⟩ [(x, u)])
    (hsp : ∀ H : Hp, Only H → SqL K H a (ns.map V.int) → sp [.ref a] H (fun v _ => v = .bl true) fun _ _ _ => False) (hCX : ∀ H e s', CX [] H s₁ (fun _ _ _ => False) e s' → False) :
    codeAny (model P w) callerA (.call (.ref fa) ⟨[.ref a], []⟩) (fun r s' => r = .ok (.ret (.bool true)) ∧ OldK s₁.heap s'.heap ∧ s'.os = s₁.os ∧ AllBare s'.gens) s₁ := by
  have rv := vals_ints hi
  have main : ∀ H : Hp, Only H → SqL K H a (ns.map V.int) → HOk P w H s₁.heap → (∀ b, H b ≠ none → b = a ∧ K.lookup a = none) →
      codeAny (model P w) callerA (.call (.ref fa) ⟨[.ref a], []⟩) (fun r s' => r = .ok (.ret (.bool true)) ∧ OldK s₁.heap s'.heap ∧ s'.os = s₁.os ∧ AllBare s'.gens) s₁ := by
    intro H hO hS hok hA
    have untr : ∀ {b : Addr}, b ≠ a ∨ K.lookup a ≠ none → H b = none := fun {b} h => by
      cases q : H b with
      | none => rfl
      | some u => have z := hA b (by rw [q]; simp); exact (h.elim (fun n => n z.1) fun n => n z.2).elim
    have ns_of : ∀ {b : Addr} {m : Str → Option Value}, s₁.heap.Ns b m → (hidT s₁.heap H).Ns b m := fun {b m} ⟨o, es, ep, e, d, r⟩ => ⟨o, es, ep, hidT_get e (untr (.inl fun z => by
      subst z
      rw [ha] at e
      cases e
      exact absurd (show Data.seq vs.toArray _ = Data.dict es ep from d) (fun z => by cases z))), d, r⟩
    have kb : K.In (hidT s₁.heap H) := fun b o e => hidT_get (KX b o e) (by
      by_cases z : b = a
      · exact untr (.inr fun y => by subst z; rw [y] at e; cases e)
      · exact untr (.inl z))
    have md : Mod K mg (hidT s₁.heap H) := ⟨kb, ns_of hns, ⟨mb, ns_of hb, hbb⟩, let ⟨mc, h1, h2⟩ := hlim; ⟨mc, ns_of h1, h2⟩⟩
    have e0 : Env0 P w K mg (hidT s₁.heap H) callerA [] s₁ H := ⟨rfl, md, fun b o e => of_hidT e, Nat.le_of_eq (hidT_size _ _), trivial, fun b hb => absurd (show b ∈ ([] : List Addr) from hb) (by simp), hok, .of_eq hg⟩
    refine codeAny_mono ((F _ kb (ns_of hns)).run callerA [] s₁ H ⟨[.ref a], []⟩ [.ref a] [.ref a] _ _ rfl hr e0 (hbind s₁ (.ref a)) (.cons rfl .nil) (hsp H hO hS)) fun r s' h => ?_
    cases r with
    | error e => exact (hCX H e s' h).elim
    | ok fl => cases fl with
      | next => exact False.elim h
      | brk => exact False.elim h
      | cont => exact False.elim h
      | ret u =>
        obtain ⟨v, H', os, bare, un, hok', r', q⟩ := h
        obtain rfl : v = .bl true := q
        obtain rfl : u = Value.bool true := r'
        refine ⟨rfl, OldK.of_keep fun b o e => ?_, os, bare⟩
        rcases hO b with z | ⟨ob, xs, z⟩
        · exact un.keep b o e z (fun y => nomatch y) (fun y => nomatch y)
        · obtain ⟨e1, _⟩ := hok b _ z
          obtain ⟨e2, _⟩ := hok' b _ (un.frzs b ob _ z)
          exact e2.trans (e1.symm.trans e)
  cases hk : K.lookup a with
  | some o =>
    have e := KX a o hk
    rw [ha] at e
    cases e
    exact main (fun _ => none) (fun _ => .inl rfl) (.inr ⟨_, vs.toArray, _, hk, rfl, rfl, rfl, by rw [List.size_toArray, hi.length]; exact hl, by simpa using rv⟩) (fun b u z => by cases (show (none : Option HO) = some u from z)) fun b z => absurd rfl z
  | none =>
    have at_ : ∀ {b : Addr} {u : HO}, (if b = a then some (HO.frz { cls := .type "list", data := .seq vs.toArray } (.lst (ns.map V.int))) else none) = some u → b = a ∧ u = .frz { cls := .type "list", data := .seq vs.toArray } (.lst (ns.map V.int)) := fun {b u} z => by
      by_cases y : b = a
      · rw [if_pos y] at z; exact ⟨y, (Option.some.inj z).symm⟩
      · rw [if_neg y] at z; cases z
    refine main (fun b => if b = a then some (.frz { cls := .type "list", data := .seq vs.toArray } (.lst (ns.map V.int))) else none) (fun b => ?_) (.inl (.inr ⟨{ cls := .type "list", data := .seq vs.toArray }, if_pos rfl⟩)) (fun b u z => ?_) fun b z => ⟨?_, hk⟩
    · by_cases y : b = a
      · exact .inr ⟨_, _, if_pos y⟩
      · exact .inl (if_neg y)
    · obtain ⟨rfl, rfl⟩ := at_ z
      exact ⟨ha, by rw [List.length_map]; exact hl, vs, _, rv, ha⟩
    · by_cases y : b = a
      · exact y
      · exact absurd (if_neg y) z
theorem walkG {l : PySem.W.OpenLaw} {n k : Nat} {q : Program} {loose : List Str} {XP : (Str → Option Value) → Heap → Prop} {YP : World → Heap → Prop} {d : DefRec} {K : Params → PySem.W.Frag} {CX : World → CXT} {sp : World → Sp} {x : Str}
    (hn : l.most = some n) (hn2 : n ≤ sizeLine) (hdf : d.params.defaults = []) (hr : Room k callerA) (hY : ∀ (w : World) (h : Heap), YP w h → (K w.params).In h)
    (F : ∀ (w : World) (mg : Str → Option Value) (fa : Addr) (h : Heap), (K w.params).In h → h.Ns mainGlobals mg → mg d.name = some (.ref fa) →
      ∃ fd : FuncData, (∀ (s : Shared) (u : Value), BindsTo s fd ⟨[u], []⟩ [(x, u)]) ∧ ∀ base : Heap, (K w.params).In base → base.Ns mainGlobals mg → FnG l.prog w (K w.params) mg base (CX w) k fa fd [x] (sp w))
    (hsp : ∀ (w : World) (H : Hp) (a : Addr) (ns : List Int), ns.length ≤ n → Only H → SqL (K w.params) H a (ns.map V.int) → sp w [.ref a] H (fun v _ => v = .bl true) fun _ _ _ => False)
    (hCX : ∀ (w : World) (H : Hp) (s : Shared) (e : Value) (s' : Shared), CX w [] H s (fun _ _ _ => False) e s' → False) : PySem.W.WalkO q loose XP YP l.row.toRowW d [] (fun f vs => PySem.call f vs) :=
  Att.attach_call hn hdf fun w s₀ s₁ mg mb fa o pm cd doc a vs ns G Y ho hd hcd hmg hobj hints hlen hg => by
    obtain ⟨fd, hb, hF⟩ := F w mg fa _ (hY w _ Y) G.T.g hmg
    exact lawG (hY w _ Y) G.T.g G.T.b G.T.builtins G.T.nolimit hg hobj hints (Nat.le_trans hlen hn2) hr hF hb (fun H hO hS => hsp w H a ns hlen hO hS) fun H e s' => hCX w H s₁ e s'
end
end Gn
set_option Elab.async false
set_option linter.all false
set_option maxRecDepth 100000
set_option maxHeartbeats 4000000
namespace Gn
open PySem PySem.Spec PyProof.Rows L2
section
variable {X : Cx} {CX : CXT} {k : Nat} {f : Addr} {fd : FuncData} {ps ks : List Str} {sp : Sp} {E : XK} {x : Str} {p pos : Pos} {kws : List Keyword} {tk : TA} {g : List Value → List Value → List Value} {gV : List V → List V → List V}
/-- f(k = v, ..): keywords alone -/
theorem pe_callK0 (F : FnOk X.prog X.w X.K X.mg X.base CX k f fd ps sp) (hr : Room k X.A) (hg : Gl X x) (hm : X.mg x = some (.ref f)) (hk : PySem.W.keepIn X.K (.ref f) = true) (hb : KBinds X.K fd ps ks g gV) (hx : Passes CX X E) (hkw : PK X kws tk)
    (hall : (backToKw pos (keywordEach kws X.env)).all (·.1.isSome) = true := by rfl) (hks : (backToKw pos (keywordEach kws X.env)).filterMap (·.1) = ks := by rfl) (hdb : (x == ("__debug__" : Str)) = false := by decide)
    (hpl : ((backTo pos (starEach [] X.env)).any (·.1) || (backToKw pos (keywordEach kws X.env)).any (·.1.isNone)) = false := by rfl) : PE X (.Call (.Name x p) [] kws pos) (tCallK sp gV E tNil tk) := ⟨fun pins s σ H Q I h =>
  wpAny_Call_Name_kw (ld_glob I hg hm (PySem.W.callWith_KW0 (h₀ := X.base) I.ok.mod.kin hk hall (thn (hkw.run pos pins s σ H _ I h) fun ws s2 ⟨zs, H2, I2, rz, q2⟩ => ⟨I2.kIn, by
    rw [hks]
    exact run_fnk (us := []) (vs := []) F hr hb hx I2 .nil rz q2⟩) hpl) hdb)⟩
end
/-! keywords in the parameters' order, and two the other way round -/
def kw1 {α : Type} : List α → List α → List α
  | [], [a] => [a]
  | _, _ => []
def kw2 {α : Type} : List α → List α → List α
  | [], [a, b] => [a, b]
  | _, _ => []
def kw2s {α : Type} : List α → List α → List α
  | [], [a, b] => [b, a]
  | _, _ => []
section
variable {K : PySem.W.Frag} {fd : FuncData} {ps ks : List Str}
theorem kb1 {p : Str} (h : ∀ a : Value, bindArgs fd ⟨[], [(p, a)]⟩ = pure [(p, a)]) : KBinds K fd [p] [p] kw1 kw1 :=
  ⟨fun s us ws _ hl => match us, ws, hl with
    | [], [a], _ => .of_eq (h a)
    | [], [], z => (nomatch z)
    | [], _ :: _ :: _, z => (nomatch z)
    | _ :: _, _, z => (nomatch z), fun {vs us zs ws} r rz => by
    cases r with
    | nil => cases rz with
      | nil => exact .nil
      | cons a b => cases b with
        | nil => exact .cons a .nil
        | cons _ _ => exact .nil
    | cons _ _ => exact .nil⟩
theorem kb2 {p q : Str} (h : ∀ a b : Value, bindArgs fd ⟨[], [(p, a), (q, b)]⟩ = pure [(p, a), (q, b)]) : KBinds K fd [p, q] [p, q] kw2 kw2 :=
  ⟨fun s us ws _ hl => match us, ws, hl with
    | [], [a, b], _ => .of_eq (h a b)
    | [], [], z => (nomatch z)
    | [], [_], z => (nomatch z)
    | [], _ :: _ :: _ :: _, z => (nomatch z)
    | _ :: _, _, z => (nomatch z), fun {vs us zs ws} r rz => by
    cases r with
    | nil => cases rz with
      | nil => exact .nil
      | cons a b => cases b with
        | nil => exact .nil
        | cons c d => cases d with
          | nil => exact .cons a (.cons c .nil)
          | cons _ _ => exact .nil
    | cons _ _ => exact .nil⟩
theorem kb2s {p q : Str} (h : ∀ a b : Value, bindArgs fd ⟨[], [(q, b), (p, a)]⟩ = pure [(p, a), (q, b)]) : KBinds K fd [p, q] [q, p] kw2s kw2s :=
  ⟨fun s us ws _ hl => match us, ws, hl with
    | [], [b, a], _ => .of_eq (h a b)
    | [], [], z => (nomatch z)
    | [], [_], z => (nomatch z)
    | [], _ :: _ :: _ :: _, z => (nomatch z)
    | _ :: _, _, z => (nomatch z), fun {vs us zs ws} r rz => by
    cases r with
    | nil => cases rz with
      | nil => exact .nil
      | cons a b => cases b with
        | nil => exact .nil
        | cons c d => cases d with
          | nil => exact .cons c (.cons a .nil)
          | cons _ _ => exact .nil
    | cons _ _ => exact .nil⟩
end
end Gn
namespace Gn
open PySem PySem.Spec PyProof.Rows L2
/-- a conditional expression whose two ways change nothing -/
theorem tif {c : Bool} {ta tb : TE} {σ : L2.St} {H : Hp} {Q : VK} (v1 v2 : V) (h1 : c = true → ∀ R : VK, R v1 H → ta σ H R) (h2 : c = false → ∀ R : VK, R v2 H → tb σ H R) (k : ∀ v, (c = true → v = v1) → (c = false → v = v2) → Q v H) : if c = true then ta σ H Q else tb σ H Q := by
  cases c with
  | true => exact iteT (h1 rfl Q (k v1 (fun _ => rfl) (fun z => nomatch z)))
  | false => exact iteF (h2 rfl Q (k v2 (fun z => nomatch z) (fun _ => rfl)))
theorem cut_mem {xs : List V} {lo hi : Option Int} {x : V} (h : x ∈ cutV xs lo hi) : x ∈ xs := by
  unfold cutV at h
  exact List.mem_of_mem_drop (List.mem_of_mem_take h)
theorem int_at {ns : List Int} {x : V} (h : x ∈ ns.map V.int) : ∃ z, x = V.int z := by
  obtain ⟨z, _, e⟩ := List.mem_map.mp h
  exact ⟨z, e.symm⟩
theorem same_put {H : Hp} {p : Addr} {o : HO} (h : H p = none) : Same H (upd H p o) := fun b x e => by
  rw [upd_ne (ne_of_none e h)]
  exact e
theorem fmod_ge {a b : Int} (h : 0 < b) : 0 ≤ a.fmod b := by
  rw [Int.fmod_eq_emod_of_nonneg _ (by omega)]; exact Int.emod_nonneg _ (by omega)
theorem fmod_lt {a b : Int} (h : 0 < b) : a.fmod b < b := by
  rw [Int.fmod_eq_emod_of_nonneg _ (by omega)]; exact Int.emod_lt_of_pos _ h
end Gn
set_option Elab.async false
set_option linter.all false
set_option maxRecDepth 100000
set_option maxHeartbeats 4000000
namespace Gn
open PySem PySem.Spec PyProof.Rows L2
/-- tuple(xs) of a list: a new tuple -/
def rTupL (K : PySem.W.Frag) : List V → Hp → VK → Prop := fun xs H Q => ∃ p ys, xs = [V.ref p] ∧ SqL K H p ys ∧ ∀ l, H l = none → Q (.ref l) (upd H l (.tup ys))
theorem cr_tupL {X : Cx} : CallR X (.type "tuple") (rTupL X.K) := by
  intro pins s σ H xs us Q I r h
  obtain ⟨p, ys, e, h1, h2⟩ := h
  exact call_tuple_of pins s σ H xs us Q I r ⟨p, ys, e, .inl ⟨h1, h2⟩⟩
end Gn
set_option Elab.async false
set_option linter.all false
set_option maxRecDepth 100000
set_option maxHeartbeats 4000000
namespace Gn
open PySem PySem.Spec PyProof.Rows L2
/-- small data: may be shown, may be compared; its text has at most c signs, its depth is at most e -/
structure Sm (c e : Nat) (d : PyData) : Prop where
  sh : d.showable = true
  ln : d.shown.length ≤ c
  dp : d.depth ≤ e
  cl : d.canLay0 = true
theorem sum_le {c : Nat} : ∀ {ts : List Str}, (∀ t ∈ ts, t.length ≤ c) → (ts.map (·.length)).sum ≤ ts.length * c
  | [], _ => by simp
  | t :: ts, h => by
    have h1 := h t List.mem_cons_self
    have h2 := sum_le fun x hx => h x (List.mem_cons_of_mem t hx)
    rw [List.map_cons, List.sum_cons, List.length_cons, Nat.succ_mul]
    omega
theorem Sm.all {c e : Nat} : ∀ {ds : List PyData}, (∀ d ∈ ds, Sm c e d) → PyData.showableAll ds = true ∧ (∀ t ∈ PyData.shownAll ds, t.length ≤ c) ∧ (PyData.shownAll ds).length = ds.length ∧ PyData.depthAll ds ≤ e ∧ PyData.canLayAll0 ds = true
  | [], _ => ⟨rfl, (fun t h => by simp [PyData.shownAll] at h), rfl, Nat.zero_le _, rfl⟩
  | d :: ds, h => by
    have a := h d List.mem_cons_self
    obtain ⟨b1, b2, b3, b4, b5⟩ := Sm.all fun x hx => h x (List.mem_cons_of_mem d hx)
    refine ⟨by simp only [PyData.showableAll, a.sh, b1, Bool.and_self], fun t ht => ?_, by simp only [PyData.shownAll, List.length_cons, b3], by simp only [PyData.depthAll]; exact Nat.max_le.mpr ⟨a.dp, b4⟩, by simp only [PyData.canLayAll0, a.cl, b5, Bool.and_self]⟩
    simp only [PyData.shownAll] at ht
    rcases List.mem_cons.mp ht with rfl | ht
    · exact a.ln
    · exact b2 t ht
theorem Sm.tup {c e n : Nat} {ds : List PyData} (h : ∀ d ∈ ds, Sm c e d) (hn : ds.length ≤ n) : Sm (n * (c + 2) + 3) (e + 1) (.tuple ds) := by
  obtain ⟨b1, b2, b3, b4, b5⟩ := Sm.all h
  refine ⟨by simpa only [PyData.showable] using b1, ?_, by simp only [PyData.depth]; omega, by simpa only [PyData.canLay0] using b5⟩
  simp only [PyData.shown]
  have z := tupleText_len_le (PyData.shownAll ds)
  have y := sum_le b2
  rw [b3] at z y
  have w := Nat.mul_le_mul_right (c + 2) hn
  rw [Nat.mul_add] at w
  omega
theorem Sm.lst {c e n : Nat} {ds : List PyData} (h : ∀ d ∈ ds, Sm c e d) (hn : ds.length ≤ n) : Sm (n * (c + 2) + 3) (e + 1) (.list ds) := by
  obtain ⟨b1, b2, b3, b4, b5⟩ := Sm.all h
  refine ⟨by simpa only [PyData.showable] using b1, ?_, by simp only [PyData.depth]; omega, by simpa only [PyData.canLay0] using b5⟩
  simp only [PyData.shown]
  have z := listText_len_le (PyData.shownAll ds)
  have y := sum_le b2
  rw [b3] at z y
  have w := Nat.mul_le_mul_right (c + 2) hn
  rw [Nat.mul_add] at w
  omega
theorem Sm.int {i : Int} (h : i.natAbs < 2 ^ 1000) : Sm 1921 0 (.int i) := by
  have hl : i.natAbs.log2 < 1920 := Nat.lt_trans (PySem.Flt.log2_lt_of (by decide) h) (by decide)
  exact ⟨by simp only [PyData.showable, hl, decide_true], by simp only [PyData.shown]; exact int_text_len_1921 hl, by simp only [PyData.depth]; exact Nat.le_refl 0, rfl⟩
theorem Sm.shaped {c e : Nat} {d : PyData} (h : Sm c e d) (he : e ≤ 64) : SeqAt.shaped d = true := by
  unfold SeqAt.shaped
  rw [h.cl, decide_eq_true (Nat.le_trans h.dp he)]; rfl
theorem Sm.ints {n : Nat} {ns : List Int} (h : ∀ i ∈ ns, i.natAbs < 2 ^ 1000) (hn : ns.length ≤ n) : Sm (n * 1923 + 3) 1 (.tuple (ns.map PyData.int)) :=
  Sm.tup (c := 1921) (e := 0) (fun d hd => by
    obtain ⟨i, hi, rfl⟩ := List.mem_map.mp hd
    exact Sm.int (h i hi)) (by rw [List.length_map]; exact hn)
end Gn
set_option Elab.async false
set_option linter.all false
set_option maxRecDepth 100000
set_option maxHeartbeats 4000000
namespace Gn
open PySem PySem.Spec PyProof.Rows L2
/-- a conditional expression whose two ways give the same data -/
theorem tIf_dp {tt : TT} {ta tb : TE} {σ : L2.St} {H : Hp} {Q : VK} {K : PySem.W.Frag} {d : PyData} (c : Bool) (ht : ∀ R : Bool → Hp → Prop, R c H → tt σ H R)
    (h1 : c = true → ∀ R : VK, (∀ v H', Same H H' → Dp K H' v d → R v H') → ta σ H R) (h2 : c = false → ∀ R : VK, (∀ v H', Same H H' → Dp K H' v d → R v H') → tb σ H R)
    (k : ∀ v H', Same H H' → Dp K H' v d → Q v H') : tIf tt ta tb σ H Q := by
  refine ht _ ?_
  cases c with
  | true => exact iteT (h1 rfl Q k)
  | false => exact iteF (h2 rfl Q k)
/-- t[lo:hi], whether it is all of t or not -/
theorem slA_of {K : PySem.W.Frag} {a : Addr} {xs : List V} {lo hi : Option Int} {H : Hp} {Q : VK} (h : SqT K H a xs) (k : ∀ b H', Same H H' → SqT K H' b (cutV xs lo hi) → Q (.ref b) H') : rSlA K (.ref a) lo hi H Q := by
  refine ⟨a, xs, rfl, h, fun hw => k a H (Same.refl H) ?_, fun _ p hp => k p _ (same_put hp) (SqT.of upd_same)⟩
  have e : cutV xs lo hi = xs := by
    unfold cutV
    rw [hw.1, hw.2, List.drop_zero, Nat.sub_zero, List.take_length]
  rw [e]; exact h
/-- t + u, whether one of them is empty or not -/
theorem catA_of {K : PySem.W.Frag} {a b : Addr} {xs ys : List V} {H : Hp} {Q : VK} (h1 : SqT K H a xs) (h2 : SqT K H b ys) (hz : xs.length + ys.length ≤ sizeLine) (k : ∀ c H', Same H H' → SqT K H' c (xs ++ ys) → Q (.ref c) H') : rCatA K (.ref a) (.ref b) H Q := by
  refine ⟨a, b, xs, ys, rfl, rfl, h1, h2, hz, fun e => k b H (Same.refl H) ?_, fun _ e => k a H (Same.refl H) ?_, fun _ _ p hp => k p _ (same_put hp) (SqT.of upd_same)⟩
  · rw [e]; exact h2
  · rw [e, List.append_nil]; exact h1
theorem cut_one (xs : List V) : cutV xs none (some 1) = xs.take 1 := by
  unfold cutV
  rw [show HT.sIx xs.length 0 none = 0 from HT.sIx_none .., show HT.sIx xs.length xs.length (some 1) = min 1 xs.length from HT.sIx_nat xs.length xs.length 1, List.drop_zero, Nat.sub_zero]
  cases xs with
  | nil => rfl
  | cons x r => rw [show min 1 (x :: r).length = 1 by rw [List.length_cons]; omega]
/-- keywords of a def of the text -/
theorem kwOf1 {K : PySem.W.Frag} {x qual : Str} {st : Stmt} {f : Addr} {fd : FuncData} {p : Str} (F : Fun K x qual st f fd)
    (h : ∀ (kV doc pm : Value) (an : Option Addr) (cdv ct a : Value), bindArgs (PySem.W.fnOf x qual (defArgs st) (defBody st) (defScope st) .none kV doc pm an cdv ct) ⟨[], [(p, a)]⟩ = pure [(p, a)]) : KBinds K fd [p] [p] kw1 kw1 := by
  obtain ⟨oc, od, kV, doc, pm, an, cdv, ct, osl, rfl, lk, hcd⟩ := F.ex
  exact kb1 fun a => h kV doc pm an cdv ct a
theorem kwOf2 {K : PySem.W.Frag} {x qual : Str} {st : Stmt} {f : Addr} {fd : FuncData} {p q : Str} (F : Fun K x qual st f fd)
    (h : ∀ (kV doc pm : Value) (an : Option Addr) (cdv ct a b : Value), bindArgs (PySem.W.fnOf x qual (defArgs st) (defBody st) (defScope st) .none kV doc pm an cdv ct) ⟨[], [(p, a), (q, b)]⟩ = pure [(p, a), (q, b)]) : KBinds K fd [p, q] [p, q] kw2 kw2 := by
  obtain ⟨oc, od, kV, doc, pm, an, cdv, ct, osl, rfl, lk, hcd⟩ := F.ex
  exact kb2 fun a b => h kV doc pm an cdv ct a b
theorem kwOf2s {K : PySem.W.Frag} {x qual : Str} {st : Stmt} {f : Addr} {fd : FuncData} {p q : Str} (F : Fun K x qual st f fd)
    (h : ∀ (kV doc pm : Value) (an : Option Addr) (cdv ct a b : Value), bindArgs (PySem.W.fnOf x qual (defArgs st) (defBody st) (defScope st) .none kV doc pm an cdv ct) ⟨[], [(q, b), (p, a)]⟩ = pure [(p, a), (q, b)]) : KBinds K fd [p, q] [q, p] kw2s kw2s := by
  obtain ⟨oc, od, kV, doc, pm, an, cdv, ct, osl, rfl, lk, hcd⟩ := F.ex
  exact kb2s fun a b => h kV doc pm an cdv ct a b
end Gn
set_option Elab.async false
set_option linter.all false
set_option maxRecDepth 100000
set_option maxHeartbeats 4000000
namespace Gn
open PySem PySem.Spec PyProof.Rows L2
/-- for x in reversed(xs): what holds behind i turns -/
theorem for_rv {K : PySem.W.Frag} {a : Addr} {xs : List V} {g : TG} {tb : TS} {D : Ends} {σ : L2.St} {H : Hp} (Pv : Nat → L2.St → Hp → Prop) (h0 : Pv 0 σ H) (hl : ∀ i σ H, i ≤ xs.length → Pv i σ H → SqL K H a xs)
    (hs : ∀ i x σ H, i < xs.length → xs[xs.length - 1 - i]? = some x → Pv i σ H → g x σ H fun σ2 H2 => tb { D with nx := Pv (i + 1), ct := Pv (i + 1), bk := D.nx } σ2 H2) (hd : ∀ σ H, Pv xs.length σ H → D.nx σ H) :
    ∃ W : Nat → Nat → L2.St → Hp → Prop, (∃ m, W 0 m σ H) ∧ ∀ i m σ H, W i m σ H →
      ((Itv K a xs.length).stop i H ∧ D.nx σ H) ∨ ((Itv K a xs.length).go i H ∧ ∃ N : L2.St → Hp → Prop, (∀ σ' H', N σ' H' → ∃ m', m' < m ∧ W (i + 1) m' σ' H') ∧ ∀ x H', (Itv K a xs.length).yld i H x H' → g x σ H' fun σ2 H2 => tb { D with nx := N, ct := N, bk := D.nx } σ2 H2) := by
  refine ⟨fun i m σ H => m = xs.length - i ∧ i ≤ xs.length ∧ Pv i σ H, ⟨xs.length, by simp, Nat.zero_le _, h0⟩, fun i m σ H ⟨em, hi, p⟩ => ?_⟩
  subst em
  have q := hl i σ H hi p
  rcases Nat.lt_or_ge i xs.length with c | c
  · have c2 : xs.length - 1 - i < xs.length := by omega
    refine .inr ⟨⟨c, xs, xs[xs.length - 1 - i], q, List.getElem?_eq_getElem c2⟩, Pv (i + 1), fun σ' H' p' => ⟨xs.length - (i + 1), by omega, rfl, c, p'⟩, fun x H' y => ?_⟩
    obtain ⟨rfl, y⟩ := y
    exact hs i x σ _ c (y xs q) p
  · obtain rfl : i = xs.length := by omega
    exact .inl ⟨Nat.le_refl _, hd σ H p⟩
end Gn
namespace Gn
open PySem PySem.Spec PyProof.Rows L2
/-- a test and a second one, their answers as one -/
theorem and_join {c : Bool} {t : TT} {σ : L2.St} {H : Hp} {Q : Bool → Hp → Prop} (e : Bool) (h1 : c = true → ∀ R : Bool → Hp → Prop, R e H → t σ H R) (h2 : c = false → e = false) (k : Q e H) : if c = true then t σ H Q else Q false H := by
  cases c with
  | true => exact iteT (h1 rfl Q k)
  | false => rw [h2 rfl] at k; exact iteF k
end Gn
set_option Elab.async false
set_option maxRecDepth 100000
/-! orders as lists: places sorted, marks at one place together. Plain lists of ints -/
namespace Mt
def insU (v : Int) : List Int → List Int
  | [] => [v]
  | a :: l => if v < a then v :: a :: l else if v = a then a :: l else a :: insU v l
/-- sorted, each once -/
def sortU (l : List Int) : List Int := l.foldr insU []
theorem insU_mem {v u : Int} : ∀ {l : List Int}, u ∈ insU v l ↔ u = v ∨ u ∈ l
  | [] => by simp [insU]
  | a :: l => by
    unfold insU
    split
    · simp
    · split
      · rename_i h1 h2
        subst h2
        simp
      · simp only [List.mem_cons, insU_mem (l := l)]
        constructor
        · rintro (h | h | h)
          · exact .inr (.inl h)
          · exact .inl h
          · exact .inr (.inr h)
        · rintro (h | h | h)
          · exact .inr (.inl h)
          · exact .inl h
          · exact .inr (.inr h)
theorem insU_pw {v : Int} : ∀ {l : List Int}, l.Pairwise (· < ·) → (insU v l).Pairwise (· < ·)
  | [], _ => by simp [insU]
  | a :: l, h => by
    obtain ⟨h1, h2⟩ := List.pairwise_cons.mp h
    unfold insU
    split
    · rename_i c
      refine List.pairwise_cons.mpr ⟨fun b hb => ?_, h⟩
      rcases List.mem_cons.mp hb with rfl | hb
      · exact c
      · exact Int.lt_trans c (h1 b hb)
    · split
      · exact h
      · rename_i c d
        refine List.pairwise_cons.mpr ⟨fun b hb => ?_, insU_pw h2⟩
        rcases insU_mem.mp hb with rfl | hb
        · omega
        · exact h1 b hb
theorem sortU_mem {v : Int} : ∀ {l : List Int}, v ∈ sortU l ↔ v ∈ l
  | [] => by simp [sortU]
  | a :: l => by
    show v ∈ insU a (sortU l) ↔ _
    rw [insU_mem, sortU_mem, List.mem_cons]
theorem sortU_pw : ∀ l : List Int, (sortU l).Pairwise (· < ·)
  | [] => List.Pairwise.nil
  | a :: l => insU_pw (sortU_pw l)
/-- a strictly rising list is told by its members -/
theorem strict_one : ∀ {l m : List Int}, l.Pairwise (· < ·) → m.Pairwise (· < ·) → (∀ v, v ∈ l ↔ v ∈ m) → l = m
  | [], [], _, _, _ => rfl
  | [], b :: m, _, _, h => by have := (h b).mpr List.mem_cons_self; simp at this
  | a :: l, [], _, _, h => by have := (h a).mp List.mem_cons_self; simp at this
  | a :: l, b :: m, h1, h2, h => by
    obtain ⟨p1, q1⟩ := List.pairwise_cons.mp h1
    obtain ⟨p2, q2⟩ := List.pairwise_cons.mp h2
    have e : a = b := by
      rcases List.mem_cons.mp ((h a).mp List.mem_cons_self) with x | x
      · exact x
      · rcases List.mem_cons.mp ((h b).mpr List.mem_cons_self) with y | y
        · exact y.symm
        · have := p2 a x; have := p1 b y; omega
    subst e
    have : l = m := strict_one q1 q2 fun v => by
      constructor
      · intro hv
        rcases List.mem_cons.mp ((h v).mp (List.mem_cons_of_mem _ hv)) with x | x
        · subst x; have := p1 v hv; omega
        · exact x
      · intro hv
        rcases List.mem_cons.mp ((h v).mpr (List.mem_cons_of_mem _ hv)) with x | x
        · subst x; have := p2 v hv; omega
        · exact x
    rw [this]
theorem le_nodup_lt {l : List Int} (h : l.Pairwise (· ≤ ·)) (n : l.Nodup) : l.Pairwise (· < ·) := by
  induction l with
  | nil => exact .nil
  | cons a l ih =>
    obtain ⟨p, q⟩ := List.pairwise_cons.mp h
    obtain ⟨r, s⟩ := List.nodup_cons.mp n
    refine List.pairwise_cons.mpr ⟨fun b hb => ?_, ih q s⟩
    have h1 := p b hb
    have h2 : a ≠ b := fun e => r (by rw [e]; exact hb)
    omega
/-- a rising list is told by what it is a permutation of -/
theorem le_one : ∀ {l m : List Int}, l.Pairwise (· ≤ ·) → m.Pairwise (· ≤ ·) → l.Perm m → l = m
  | [], m, _, _, h => by rw [List.nil_perm] at h; exact h.symm
  | a :: l, [], _, _, h => by have := h.length_eq; simp at this
  | a :: l, b :: m, h1, h2, h => by
    obtain ⟨p1, q1⟩ := List.pairwise_cons.mp h1
    obtain ⟨p2, q2⟩ := List.pairwise_cons.mp h2
    have e : a = b := by
      rcases List.mem_cons.mp (h.mem_iff.mp (List.mem_cons_self (a := a) (l := l))) with x | x
      · exact x
      · rcases List.mem_cons.mp (h.mem_iff.mpr (List.mem_cons_self (a := b) (l := m))) with y | y
        · exact y.symm
        · have := p2 a x; have := p1 b y; omega
    subst e
    rw [le_one q1 q2 ((List.perm_cons a).mp h)]
def iota (n : Nat) : List Int := (List.range n).map Int.ofNat
theorem iota_len (n : Nat) : (iota n).length = n := by simp [iota]
theorem iota_succ (n : Nat) : iota (n + 1) = iota n ++ [(n : Int)] := by simp [iota, List.range_succ]
theorem iota_mem {n : Nat} {k : Int} : k ∈ iota n ↔ 0 ≤ k ∧ k < n := by
  unfold iota
  rw [List.mem_map]
  constructor
  · rintro ⟨m, hm, rfl⟩
    have := List.mem_range.mp hm
    exact ⟨Int.natCast_nonneg _, by show (m : Int) < n; omega⟩
  · rintro ⟨h1, h2⟩
    exact ⟨k.toNat, List.mem_range.mpr (by omega), by show ((k.toNat : Nat) : Int) = k; omega⟩
theorem iota_pw (n : Nat) : (iota n).Pairwise (· < ·) := by
  unfold iota
  rw [List.pairwise_map]
  exact List.pairwise_lt_range.imp fun h => by show ((_ : Nat) : Int) < ((_ : Nat) : Int); omega
/-- the marks at the place v -/
def grp (f : Int → Int) (ms : List Int) (v : Int) : List Int := ms.filter fun k => f k == v
/-- the order: places rising, the marks at each -/
def ord (f : Int → Int) (ms : List Int) : List (List Int) := (sortU (ms.map f)).map (grp f ms)
theorem grp_snoc {f : Int → Int} {ms : List Int} {k v : Int} : grp f (ms ++ [k]) v = if f k = v then grp f ms v ++ [k] else grp f ms v := by
  unfold grp
  rw [List.filter_append]
  by_cases h : f k = v
  · rw [if_pos h]; simp [h]
  · rw [if_neg h]; simp [h]
theorem grp_none {f : Int → Int} {ms : List Int} {v : Int} (h : v ∉ ms.map f) : grp f ms v = [] := by
  unfold grp
  rw [List.filter_eq_nil_iff]
  intro k hk e
  exact h (List.mem_map.mpr ⟨k, hk, by simpa using e⟩)
theorem ord_congr {f g : Int → Int} {ms : List Int} (h : ∀ k ∈ ms, f k = g k) : ord f ms = ord g ms := by
  unfold ord
  have e : ms.map f = ms.map g := List.map_congr_left h
  rw [e]
  refine List.map_congr_left fun v _ => ?_
  unfold grp
  exact List.filter_congr fun k hk => by rw [h k hk]
theorem pw_rev_map {y : Int} {W : List Int} (h : W.Pairwise (· < ·)) : ((W.map (y - ·)).reverse).Pairwise (· < ·) := by
  rw [List.pairwise_reverse, List.pairwise_map]
  exact h.imp fun h => by omega
/-- the other way round -/
theorem ord_mirror {f g : Int → Int} {ms : List Int} {y : Int} (hf : ∀ k ∈ ms, 0 ≤ f k ∧ f k < y) (hg : ∀ k ∈ ms, g k = if f k = 0 then 0 else y - f k) {k0 : Int} (h0 : k0 ∈ ms) (z0 : f k0 = 0) :
    ord g ms = (ord f ms).take 1 ++ ((ord f ms).drop 1).reverse := by
  have hm : ∀ v, v ∈ sortU (ms.map f) → 0 ≤ v ∧ v < y := fun v hv => by
    obtain ⟨k, hk, rfl⟩ := List.mem_map.mp (sortU_mem.mp hv)
    exact hf k hk
  have m0 : (0 : Int) ∈ sortU (ms.map f) := sortU_mem.mpr (List.mem_map.mpr ⟨k0, h0, z0⟩)
  obtain ⟨W, hW⟩ : ∃ W, sortU (ms.map f) = 0 :: W := by
    cases e : sortU (ms.map f) with
    | nil => rw [e] at m0; simp at m0
    | cons a W =>
      have p := sortU_pw (ms.map f)
      rw [e] at p m0 hm
      obtain ⟨p1, _⟩ := List.pairwise_cons.mp p
      rcases List.mem_cons.mp m0 with q | q
      · exact ⟨W, by rw [← q]⟩
      · have := p1 0 q
        have := (hm a List.mem_cons_self).1
        omega
  have pw : (0 :: W).Pairwise (· < ·) := by rw [← hW]; exact sortU_pw _
  obtain ⟨pW, qW⟩ := List.pairwise_cons.mp pw
  have mW : ∀ v ∈ W, 0 < v ∧ v < y := fun v hv => ⟨pW v hv, (hm v (by rw [hW]; exact List.mem_cons_of_mem _ hv)).2⟩
  have eV : sortU (ms.map g) = 0 :: (W.map (y - ·)).reverse := by
    refine strict_one (sortU_pw _) (List.pairwise_cons.mpr ⟨fun b hb => ?_, pw_rev_map qW⟩) fun v => ?_
    · obtain ⟨u, hu, rfl⟩ := List.mem_map.mp (List.mem_reverse.mp hb)
      have := (mW u hu).2
      show 0 < y - u
      omega
    · rw [sortU_mem, List.mem_map, List.mem_cons, List.mem_reverse, List.mem_map]
      constructor
      · rintro ⟨k, hk, rfl⟩
        rw [hg k hk]
        by_cases e : f k = 0
        · rw [if_pos e]; exact .inl rfl
        · rw [if_neg e]
          refine .inr ⟨f k, ?_, rfl⟩
          have : f k ∈ sortU (ms.map f) := sortU_mem.mpr (List.mem_map.mpr ⟨k, hk, rfl⟩)
          rw [hW] at this
          exact (List.mem_cons.mp this).resolve_left e
      · rintro (rfl | ⟨u, hu, rfl⟩)
        · exact ⟨k0, h0, by rw [hg k0 h0, if_pos z0]⟩
        · have : u ∈ sortU (ms.map f) := by rw [hW]; exact List.mem_cons_of_mem _ hu
          obtain ⟨k, hk, e⟩ := List.mem_map.mp (sortU_mem.mp this)
          refine ⟨k, hk, ?_⟩
          have := (mW u hu).1
          rw [hg k hk, e, if_neg (by omega)]
  have g0 : grp g ms 0 = grp f ms 0 := List.filter_congr fun k hk => by
    rw [hg k hk]
    have := hf k hk
    by_cases e : f k = 0
    · rw [if_pos e, e]
    · rw [if_neg e]
      rw [beq_eq_false_iff_ne.mpr e, beq_eq_false_iff_ne.mpr (by omega)]
  have gW : ∀ u ∈ W, grp g ms (y - u) = grp f ms u := fun u hu => List.filter_congr fun k hk => by
    rw [hg k hk]
    have h1 := hf k hk
    have h2 := mW u hu
    by_cases e : f k = 0
    · rw [if_pos e, beq_eq_false_iff_ne.mpr (by omega), beq_eq_false_iff_ne.mpr (by omega)]
    · rw [if_neg e]
      by_cases e2 : f k = u
      · rw [e2]; simp
      · rw [beq_eq_false_iff_ne.mpr e2, beq_eq_false_iff_ne.mpr (by omega)]
  unfold ord
  rw [eV, hW, List.map_cons, List.map_cons, g0, List.map_reverse, List.map_map]
  show _ = [grp f ms 0] ++ (List.map (grp f ms) W).reverse
  rw [List.singleton_append]
  congr 2
  exact List.map_congr_left fun u hu => gW u hu
end Mt
namespace Mt
theorem map_inj {α β : Type} {g : α → β} : ∀ {l : List α}, (l.map g).Nodup → ∀ {a b : α}, a ∈ l → b ∈ l → g a = g b → a = b
  | [], _, _, _, h, _, _ => by simp at h
  | c :: l, n, a, b, ha, hb, e => by
    obtain ⟨n1, n2⟩ := List.nodup_cons.mp (show (g c :: l.map g).Nodup from n)
    rcases List.mem_cons.mp ha with x | x
    · rcases List.mem_cons.mp hb with y | y
      · rw [x, y]
      · subst x
        exact absurd (List.mem_map.mpr ⟨b, y, e.symm⟩) n1
    · rcases List.mem_cons.mp hb with y | y
      · subst y
        exact absurd (List.mem_map.mpr ⟨a, x, e⟩) n1
      · exact map_inj n2 x y e
end Mt
namespace Mt
theorem insU_len (v : Int) : ∀ m : List Int, (insU v m).length ≤ m.length + 1
  | [] => Nat.le_refl 1
  | b :: m => by
    unfold insU
    split
    · exact Nat.le_refl _
    · split
      · exact Nat.le_succ _
      · exact Nat.succ_le_succ (insU_len v m)
theorem sortU_len : ∀ l : List Int, (sortU l).length ≤ l.length
  | [] => Nat.le_refl 0
  | a :: l => Nat.le_trans (insU_len a (sortU l)) (Nat.succ_le_succ (sortU_len l))
end Mt
set_option Elab.async false
set_option maxRecDepth 100000
set_option maxHeartbeats 1000000
set_option linter.all false
/-! which mark comes behind another one: places that are told by f, of the marks below n -/
namespace Mt
/-- places on a rim of length y: unlike ones for the first n marks -/
structure Rim (f : Int → Int) (y n : Int) : Prop where
  r : ∀ k, 0 ≤ f k ∧ f k < y
  s : ∀ i j, f (i - j) = f i - f j ∨ f (i - j) = f i - f j + y
  z : ∀ k, 0 < k → k < n → f k ≠ 0
/-- m is met first behind k -/
def Nx (f : Int → Int) (n k m : Int) : Prop := 0 ≤ m ∧ m < n ∧ m ≠ k ∧ ∀ j, 0 ≤ j → j < n → j ≠ k → f (m - k) ≤ f (j - k)
/-- m is met last behind k -/
def Pv (f : Int → Int) (n k m : Int) : Prop := 0 ≤ m ∧ m < n ∧ m ≠ k ∧ ∀ j, 0 ≤ j → j < n → j ≠ k → f (k - m) ≤ f (k - j)
def behind (n A B k : Int) : Int := if k < n - A then k + A else if B ≤ k then k - B else k + A - B
section
variable {f : Int → Int} {y n : Int}
theorem Rim.y0 (R : Rim f y n) : 0 < y := by
  have := R.r 0; omega
theorem Rim.f0 (R : Rim f y n) : f 0 = 0 := by
  have h := R.s 0 0
  have := R.r 0
  rw [Int.sub_self] at h
  omega
theorem Rim.neg (R : Rim f y n) {k : Int} (h : f k ≠ 0) : f (-k) = y - f k := by
  have h1 := R.s 0 k
  have h2 := R.r (-k)
  have h3 := R.r k
  have h4 := R.f0
  rw [Int.zero_sub] at h1
  omega
theorem Rim.nz (R : Rim f y n) {k : Int} (h : k ≠ 0) (h1 : -n < k) (h2 : k < n) : f k ≠ 0 := by
  rcases Int.lt_or_lt_of_ne h with c | c
  · intro e
    have h3 := R.z (-k) (by omega) (by omega)
    have h4 := R.neg h3
    rw [Int.neg_neg] at h4
    have := R.r (-k)
    omega
  · exact R.z k c h2
theorem Rim.one (R : Rim f y n) {i j : Int} (hi : 0 ≤ i) (hi' : i < n) (hj : 0 ≤ j) (hj' : j < n) (e : f i = f j) : i = j := by
  rcases Int.decEq i j with c | c
  · have h1 := R.nz (k := i - j) (by omega) (by omega) (by omega)
    have h2 := R.s i j
    have := R.r (i - j)
    omega
  · exact c
theorem Nx.one (R : Rim f y n) {k m m' : Int} (h : Nx f n k m) (h' : Nx f n k m') : m = m' := by
  obtain ⟨a, b, c, d⟩ := h
  obtain ⟨a', b', c', d'⟩ := h'
  have e1 := d m' a' b' c'
  have e2 := d' m a b c
  rcases Int.decEq m m' with q | q
  · have h1 := R.nz (k := m - m') (by omega) (by omega) (by omega)
    have h2 := R.s (m - k) (m' - k)
    rw [show m - k - (m' - k) = m - m' by omega] at h2
    have := R.r (m - m')
    omega
  · exact q
theorem Pv.one (R : Rim f y n) {k m m' : Int} (h : Pv f n k m) (h' : Pv f n k m') : m = m' := by
  obtain ⟨a, b, c, d⟩ := h
  obtain ⟨a', b', c', d'⟩ := h'
  have e1 := d m' a' b' c'
  have e2 := d' m a b c
  rcases Int.decEq m m' with q | q
  · have h1 := R.nz (k := m' - m) (by omega) (by omega) (by omega)
    have h2 := R.s (k - m) (k - m')
    rw [show k - m - (k - m') = m' - m by omega] at h2
    have := R.r (m' - m)
    omega
  · exact q
theorem Nx.back (R : Rim f y n) {k m : Int} (hk : 0 ≤ k) (hk' : k < n) (h : Nx f n k m) : Pv f n m k := by
  obtain ⟨a, b, c, d⟩ := h
  refine ⟨hk, hk', Ne.symm c, fun j j0 j1 j2 => ?_⟩
  rcases Int.decEq j k with q | q
  · have h1 := d j j0 j1 q
    have h2 := R.s (m - k) (m - j)
    rw [show m - k - (m - j) = j - k by omega] at h2
    have h3 := R.r (j - k)
    have h4 := R.r (m - j)
    have h5 := R.r (m - k)
    have h6 := R.nz (k := m - j) (by omega) (by omega) (by omega)
    omega
  · subst q; exact Int.le_refl _
/-- the three cases -/
theorem gap (R : Rim f y n) {A B k : Int} (A0 : 0 < A) (A1 : A < n) (B0 : 0 < B) (B1 : B < n) (hA : ∀ k, 0 < k → k < n → f A ≤ f k) (hB : ∀ k, 0 < k → k < n → f k ≤ f B) (k0 : 0 ≤ k) (k1 : k < n) : Nx f n k (behind n A B k) := by
  have a0 := R.z A A0 A1
  have b0 := R.z B B0 B1
  have ra := R.r A
  have rb := R.r B
  have nb := R.neg b0
  unfold behind
  split
  · rename_i c1
    refine ⟨by omega, by omega, by omega, fun j j0 j1 j2 => ?_⟩
    rw [show k + A - k = A by omega]
    rcases Int.lt_or_lt_of_ne j2 with c | c
    · have h1 := hA (A - (j - k)) (by omega) (by omega)
      have h2 := R.s A (j - k)
      have h3 := R.nz (k := j - k) (by omega) (by omega) (by omega)
      have h4 := R.r (j - k)
      have h5 := R.r (A - (j - k))
      omega
    · exact hA _ (by omega) (by omega)
  · rename_i c1
    split
    · rename_i c2
      refine ⟨by omega, by omega, by omega, fun j j0 j1 j2 => ?_⟩
      rw [show k - B - k = -B by omega, nb]
      rcases Int.lt_or_lt_of_ne j2 with c | c
      · have h1 := hB (k - j) (by omega) (by omega)
        have h2 := R.z (k - j) (by omega) (by omega)
        have h3 := R.neg h2
        rw [show -(k - j) = j - k by omega] at h3
        omega
      · have h1 := hB (B + (j - k)) (by omega) (by omega)
        have h2 := R.s (B + (j - k)) (j - k)
        rw [show B + (j - k) - (j - k) = B by omega] at h2
        have h3 := R.nz (k := j - k) (by omega) (by omega) (by omega)
        have h4 := R.r (j - k)
        have h5 := R.r (B + (j - k))
        omega
    · rename_i c2
      have ne : A ≠ B := fun e => by
        subst e
        have e1 : ∀ k, 0 < k → k < n → f k = f A := fun k h h' => by
          have := hA k h h'; have := hB k h h'; omega
        by_cases h : A = 1
        · omega
        · have h1 := e1 (A - 1) (by omega) (by omega)
          have := R.one (i := A - 1) (j := A) (by omega) (by omega) (by omega) (by omega) h1
          omega
      have lt : f A < f B := by
        have h1 := hA B B0 B1
        rcases Int.lt_or_eq_of_le h1 with h | h
        · exact h
        · exact absurd (R.one (by omega) A1 (by omega) B1 h) ne
      have hab := R.s A B
      have rab := R.r (A - B)
      refine ⟨by omega, by omega, by omega, fun j j0 j1 j2 => ?_⟩
      rw [show k + A - B - k = A - B by omega]
      rcases Int.lt_or_lt_of_ne j2 with c | c
      · have h1 := hB (k - j) (by omega) (by omega)
        have h2 := R.z (k - j) (by omega) (by omega)
        have h3 := R.neg h2
        rw [show -(k - j) = j - k by omega] at h3
        have h4 := hA (B - (k - j)) (by omega) (by omega)
        have h5 := R.s B (k - j)
        have h6 := R.r (k - j)
        have h7 := R.r (B - (k - j))
        omega
      · have h1 := hA (j - k) (by omega) (by omega)
        have h2 := hB (A - (j - k)) (by omega) (by omega)
        have h3 := R.s A (j - k)
        have h4 := R.z (A - (j - k)) (by omega) (by omega)
        have h5 := R.r (A - (j - k))
        omega
/-- and so the other way round -/
theorem gapB (R : Rim f y n) {A B k : Int} (A0 : 0 < A) (A1 : A < n) (B0 : 0 < B) (B1 : B < n) (hA : ∀ k, 0 < k → k < n → f A ≤ f k) (hB : ∀ k, 0 < k → k < n → f k ≤ f B) (k0 : 0 ≤ k) (k1 : k < n) : Pv f n k (behind n B A k) := by
  have R' : Rim (fun k => f (-k)) y n := ⟨fun k => R.r (-k), fun i j => by
    show f (-(i - j)) = f (-i) - f (-j) ∨ f (-(i - j)) = f (-i) - f (-j) + y
    rw [show -(i - j) = -i - -j by omega]
    exact R.s (-i) (-j), fun k h h' => R.nz (by omega) (by omega) (by omega)⟩
  have h := gap R' (A := B) (B := A) (k := k) B0 B1 A0 A1 (fun k h h' => by
    show f (-B) ≤ f (-k)
    rw [R.neg (R.z B B0 B1), R.neg (R.z k h h')]
    have := hB k h h'; omega) (fun k h h' => by
    show f (-k) ≤ f (-A)
    rw [R.neg (R.z A A0 A1), R.neg (R.z k h h')]
    have := hA k h h'; omega) k0 k1
  obtain ⟨a, b, c, d⟩ := h
  refine ⟨a, b, c, fun j j0 j1 j2 => ?_⟩
  have := d j j0 j1 j2
  rw [show k - behind n B A k = -(behind n B A k - k) by omega, show k - j = -(j - k) by omega]
  exact this
theorem min_sum (R : Rim f y n) {A B : Int} (A0 : 0 < A) (A1 : A < n) (B0 : 0 < B) (B1 : B < n) (hA : ∀ k, 0 < k → k < n → f A ≤ f k) (hB : ∀ k, 0 < k → k < n → f k ≤ f B) : n ≤ A + B := by
  rcases Int.lt_or_le (A + B) n with c | c
  · have h1 := hA (A + B) (by omega) c
    have h2 := hB (A + B) (by omega) c
    have h3 := R.s (A + B) B
    rw [show A + B - B = A by omega] at h3
    have h4 := R.z A A0 A1
    have h5 := R.z B B0 B1
    have h6 := R.r A
    have h7 := R.r B
    omega
  · exact c
end
/-! the places of a step -/
theorem rim_step {x y n : Int} (hy : 0 < y) (co : Nat.gcd x.natAbs y.natAbs = 1) (hn : n ≤ y) : Rim (fun k => x * k % y) y n := by
  refine ⟨fun k => ⟨Int.emod_nonneg _ (by omega), Int.emod_lt_of_pos _ hy⟩, fun i j => ?_, fun k h h' e => ?_⟩
  · have h1 : x * (i - j) % y = (x * i % y - x * j % y) % y := by
      rw [Int.mul_sub, Int.sub_emod]
    have a1 := Int.emod_nonneg (x * i) (show y ≠ 0 by omega)
    have a2 := Int.emod_lt_of_pos (x * i) hy
    have b1 := Int.emod_nonneg (x * j) (show y ≠ 0 by omega)
    have b2 := Int.emod_lt_of_pos (x * j) hy
    show x * (i - j) % y = x * i % y - x * j % y ∨ x * (i - j) % y = x * i % y - x * j % y + y
    rw [h1]
    rcases Int.lt_or_le (x * i % y) (x * j % y) with c | c
    · right
      rw [← Int.add_emod_right]
      exact Int.emod_eq_of_lt (by omega) (by omega)
    · left
      exact Int.emod_eq_of_lt (by omega) (by omega)
  · have d : y ∣ x * k := Int.dvd_of_emod_eq_zero e
    have d1 : y.natAbs ∣ x.natAbs * k.natAbs := by
      have := Int.natAbs_dvd_natAbs.mpr d
      rwa [Int.natAbs_mul] at this
    have d2 : y.natAbs ∣ k.natAbs := (Nat.Coprime.symm co).dvd_of_dvd_mul_left d1
    have := Nat.le_of_dvd (by omega) d2
    omega
/-- two marks beside 0 as they are looked for: low and high, how far they are, p and q the tops of the neighbours -/
structure Side (x y n low fl high fh p q : Int) : Prop where
  l0 : 0 < low
  l1 : low < n
  h0 : 0 < high
  h1 : high < n
  e1 : low * x - p * y = fl
  e2 : q * y - high * x = fh
  de : low * q - high * p = 1
  fl0 : 0 < fl
  fh0 : 0 < fh
theorem Side.val {x y n low fl high fh p q : Int} (S : Side x y n low fl high fh p q) : low * fh + high * fl = y := by
  have h1 := S.e1; have h2 := S.e2; have h3 := S.de
  grind
theorem mod_at {a p y r : Int} (e : a - p * y = r) (h0 : 0 ≤ r) (h1 : r < y) : a % y = r := by
  rw [show a = r + y * p by grind, Int.add_mul_emod_self_left]
  exact Int.emod_eq_of_lt h0 h1
theorem Side.fly {x y n low fl high fh p q : Int} (S : Side x y n low fl high fh p q) : fl < y ∧ fh < y := by
  have v := S.val
  have l0 := S.l0; have h0 := S.h0; have a := S.fl0; have b := S.fh0
  have h1 : 1 * fh ≤ low * fh := Int.mul_le_mul_of_nonneg_right (by omega) (by omega)
  have h2 : 1 * fl ≤ high * fl := Int.mul_le_mul_of_nonneg_right (by omega) (by omega)
  omega
theorem Side.atl {x y n low fl high fh p q : Int} (S : Side x y n low fl high fh p q) : x * low % y = fl :=
  mod_at (p := p) (by have := S.e1; grind) (by have := S.fl0; omega) S.fly.1
theorem Side.ath {x y n low fl high fh p q : Int} (S : Side x y n low fl high fh p q) : x * high % y = y - fh :=
  mod_at (p := q - 1) (by have := S.e2; grind) (by have := S.fly; omega) (by have := S.fh0; omega)
/-- nothing lies nearer below low + high -/
theorem Side.near {x y n low fl high fh p q : Int} (S : Side x y n low fl high fh p q) {k : Int} (k0 : 0 < k) (k1 : k < low + high) : fl ≤ x * k % y ∧ x * k % y ≤ y - fh := by
  have y0 : 0 < y := by have := S.fly; have := S.fl0; omega
  have e := Int.emod_add_mul_ediv (x * k) y
  have m0 := Int.emod_nonneg (x * k) (show y ≠ 0 by omega)
  have m1 := Int.emod_lt_of_pos (x * k) y0
  generalize x * k % y = g at *
  generalize x * k / y = r at *
  have l0 := S.l0; have h0 := S.h0; have a0 := S.fl0; have b0 := S.fh0
  constructor
  · obtain ⟨u, hu⟩ : ∃ u, u = k * q - r * high := ⟨_, rfl⟩
    obtain ⟨v, hv⟩ : ∃ v, v = r * low - k * p := ⟨_, rfl⟩
    have e1 := S.e1; have e2 := S.e2; have de := S.de
    have c1 : k = u * low + v * high := by grind
    have c2 : g = u * fl - v * fh := by grind
    have u1 : 0 < u := by
      rcases Int.lt_or_le 0 u with c | c
      · exact c
      · have z1 : u * fl ≤ 0 := Int.mul_nonpos_of_nonpos_of_nonneg c (by omega)
        have z2 : u * low ≤ 0 := Int.mul_nonpos_of_nonpos_of_nonneg c (by omega)
        rcases Int.lt_or_le 0 v with d | d
        · have := Int.mul_pos d b0; omega
        · have := Int.mul_nonpos_of_nonpos_of_nonneg d (show 0 ≤ high by omega); omega
    have v1 : v ≤ 0 := by
      rcases Int.lt_or_le 0 v with d | d
      · have z1 : 1 * low ≤ u * low := Int.mul_le_mul_of_nonneg_right (by omega) (by omega)
        have z2 : 1 * high ≤ v * high := Int.mul_le_mul_of_nonneg_right (by omega) (by omega)
        omega
      · exact d
    have z1 : 1 * fl ≤ u * fl := Int.mul_le_mul_of_nonneg_right (by omega) (by omega)
    have z2 := Int.mul_nonpos_of_nonpos_of_nonneg v1 (show 0 ≤ fh by omega)
    omega
  · obtain ⟨u, hu⟩ : ∃ u, u = k * q - (r + 1) * high := ⟨_, rfl⟩
    obtain ⟨v, hv⟩ : ∃ v, v = (r + 1) * low - k * p := ⟨_, rfl⟩
    have e1 := S.e1; have e2 := S.e2; have de := S.de
    have c1 : k = u * low + v * high := by grind
    have c2 : y - g = v * fh - u * fl := by grind
    have v1 : 0 < v := by
      rcases Int.lt_or_le 0 v with c | c
      · exact c
      · have z1 : v * fh ≤ 0 := Int.mul_nonpos_of_nonpos_of_nonneg c (by omega)
        have z2 : v * high ≤ 0 := Int.mul_nonpos_of_nonpos_of_nonneg c (by omega)
        rcases Int.lt_or_le 0 u with d | d
        · have := Int.mul_pos d a0; omega
        · have := Int.mul_nonpos_of_nonpos_of_nonneg d (show 0 ≤ low by omega); omega
    have u1 : u ≤ 0 := by
      rcases Int.lt_or_le 0 u with d | d
      · have z1 : 1 * low ≤ u * low := Int.mul_le_mul_of_nonneg_right (by omega) (by omega)
        have z2 : 1 * high ≤ v * high := Int.mul_le_mul_of_nonneg_right (by omega) (by omega)
        omega
      · exact d
    have z1 : 1 * fh ≤ v * fh := Int.mul_le_mul_of_nonneg_right (by omega) (by omega)
    have z2 := Int.mul_nonpos_of_nonpos_of_nonneg u1 (show 0 ≤ fl by omega)
    omega
theorem Side.start {x y n : Int} (x0 : 0 < x) (xy : x < y) (hn : 2 ≤ n) : Side x y n 1 x 1 (y - x) 0 1 :=
  ⟨by omega, by omega, by omega, by omega, by omega, by omega, by omega, x0, by omega⟩
/-- low is moved on -/
theorem Side.low {x y n low fl high fh p q t : Int} (S : Side x y n low fl high fh p q) (co : Nat.gcd x.natAbs y.natAbs = 1) (hn : n ≤ y) (t0 : 0 ≤ t) (t1 : t * fh ≤ fl) (t2 : t * high ≤ n - 1 - low) : Side x y n (low + t * high) (fl - t * fh) high fh (p + t * q) q := by
  have e1 := S.e1; have e2 := S.e2; have de := S.de
  have l0 := S.l0; have h0 := S.h0; have h1 := S.h1; have b0 := S.fh0
  have y0 : 0 < y := by have := S.fly; omega
  have z : 0 ≤ t * high := Int.mul_nonneg t0 (by omega)
  refine ⟨by omega, by omega, h0, h1, by grind, e2, by grind, ?_, b0⟩
  rcases Int.lt_or_eq_of_le t1 with c | c
  · omega
  · refine absurd ?_ ((rim_step y0 co hn).z (low + t * high) (by omega) (by omega))
    exact mod_at (p := p + t * q) (by grind) (by omega) y0
theorem Side.high {x y n low fl high fh p q t : Int} (S : Side x y n low fl high fh p q) (co : Nat.gcd x.natAbs y.natAbs = 1) (hn : n ≤ y) (t0 : 0 ≤ t) (t1 : t * fl ≤ fh) (t2 : t * low ≤ n - 1 - high) : Side x y n low fl (high + t * low) (fh - t * fl) p (q + t * p) := by
  have e1 := S.e1; have e2 := S.e2; have de := S.de
  have l0 := S.l0; have l1 := S.l1; have h0 := S.h0; have h1 := S.h1; have a0 := S.fl0
  have y0 : 0 < y := by have := S.fly; omega
  have z : 0 ≤ t * low := Int.mul_nonneg t0 (by omega)
  refine ⟨l0, l1, by omega, by omega, e1, by grind, by grind, a0, ?_⟩
  rcases Int.lt_or_eq_of_le t1 with c | c
  · omega
  · refine absurd ?_ ((rim_step y0 co hn).z (high + t * low) (by omega) (by omega))
    exact mod_at (p := q + t * p) (by grind) (by omega) y0
/-- how often: no more than fits, at least once where it fits -/
theorem times_ok {a b c d : Int} (b0 : 0 < b) (d0 : 0 < d) (a0 : 0 ≤ a) (c0 : 0 ≤ c) : 0 ≤ min (a / b) (c / d) ∧ min (a / b) (c / d) * b ≤ a ∧ min (a / b) (c / d) * d ≤ c ∧ (b ≤ a → d ≤ c → 1 ≤ min (a / b) (c / d)) := by
  have h1 : a / b * b ≤ a := Int.ediv_mul_le a (by omega)
  have h2 : c / d * d ≤ c := Int.ediv_mul_le c (by omega)
  have h3 : 0 ≤ a / b := Int.ediv_nonneg a0 (by omega)
  have h4 : 0 ≤ c / d := Int.ediv_nonneg c0 (by omega)
  have m1 : min (a / b) (c / d) ≤ a / b := Int.min_le_left _ _
  have m2 : min (a / b) (c / d) ≤ c / d := Int.min_le_right _ _
  have z1 := Int.mul_le_mul_of_nonneg_right m1 (show 0 ≤ b by omega)
  have z2 := Int.mul_le_mul_of_nonneg_right m2 (show 0 ≤ d by omega)
  refine ⟨by omega, by omega, by omega, fun u v => ?_⟩
  have w1 : 1 ≤ a / b := (Int.le_ediv_iff_mul_le b0).mpr (by omega)
  have w2 : 1 ≤ c / d := (Int.le_ediv_iff_mul_le d0).mpr (by omega)
  omega
/-- one turn of looking for them -/
theorem Side.turn {x y n low fl high fh p q : Int} (S : Side x y n low fl high fh p q) (co : Nat.gcd x.natAbs y.natAbs = 1) (hn : n ≤ y) (go : low + high < n) {t u : Int} (ht : t = min (fl / fh) ((n - 1 - low) / high))
    (hu : u = min (fh / (fl - t * fh)) ((n - 1 - high) / (low + t * high))) : (∃ p' q', Side x y n (low + t * high) (fl - t * fh) (high + u * (low + t * high)) (fh - u * (fl - t * fh)) p' q') ∧
    low ≤ low + t * high ∧ high ≤ high + u * (low + t * high) ∧ low + high < (low + t * high) + (high + u * (low + t * high)) := by
  have l0 := S.l0; have h0 := S.h0; have a0 := S.fl0; have b0 := S.fh0; have l1 := S.l1; have h1 := S.h1
  obtain ⟨w1, w2, w3, w4⟩ := times_ok (a := fl) (c := n - 1 - low) b0 h0 (by omega) (by omega)
  rw [← ht] at w1 w2 w3 w4
  have S1 := S.low co hn w1 w2 w3
  have a1 := S1.fl0; have l2 := S1.l0
  obtain ⟨v1, v2, v3, v4⟩ := times_ok (a := fh) (c := n - 1 - high) a1 l2 (by omega) (by omega)
  rw [← hu] at v1 v2 v3 v4
  have S2 := S1.high co hn v1 v2 v3
  have z1 : 0 ≤ t * high := Int.mul_nonneg w1 (by omega)
  have z2 : 0 ≤ u * (low + t * high) := Int.mul_nonneg v1 (by omega)
  refine ⟨⟨_, _, S2⟩, by omega, by omega, ?_⟩
  rcases Int.lt_or_le fl fh with c | c
  · rcases Int.lt_or_le 0 t with d | d
    · have := Int.mul_pos d h0; omega
    · have t0 : t = 0 := by omega
      subst t0
      rw [Int.zero_mul, Int.sub_zero] at v4
      rw [Int.zero_mul, Int.add_zero] at *
      have := v4 (by omega) (by omega)
      have := Int.mul_pos (show 0 < u by omega) l0
      omega
  · have := w4 c (by omega)
    have := Int.mul_pos (show 0 < t by omega) h0
    omega
/-- where it ends they are the nearest of all -/
theorem Side.found {x y n low fl high fh p q : Int} (S : Side x y n low fl high fh p q) (e : n ≤ low + high) : (∀ k, 0 < k → k < n → x * low % y ≤ x * k % y) ∧ ∀ k, 0 < k → k < n → x * k % y ≤ x * high % y := by
  rw [S.atl, S.ath]
  exact ⟨fun k k0 k1 => (S.near k0 (by omega)).1, fun k k0 k1 => (S.near k0 (by omega)).2⟩
theorem Side.gcd {x y n low fl high fh p q : Int} (S : Side x y n low fl high fh p q) : Nat.gcd low.natAbs high.natAbs = 1 := by
  have d1 : ((Nat.gcd low.natAbs high.natAbs : Nat) : Int) ∣ low := Int.ofNat_dvd_left.mpr (Nat.gcd_dvd_left _ _)
  have d2 : ((Nat.gcd low.natAbs high.natAbs : Nat) : Int) ∣ high := Int.ofNat_dvd_left.mpr (Nat.gcd_dvd_right _ _)
  have d3 := Int.dvd_sub (Int.dvd_mul_of_dvd_left d1 (b := low) (c := q)) (Int.dvd_mul_of_dvd_left d2 (b := high) (c := p))
  rw [S.de] at d3
  have := Int.natAbs_dvd_natAbs.mpr d3
  rw [Int.natAbs_natCast] at this
  exact Nat.dvd_one.mp this
/-- they exist -/
theorem side_ex {x y n : Int} (x0 : 0 < x) (xy : x < y) (co : Nat.gcd x.natAbs y.natAbs = 1) (hn : n ≤ y) (n2 : 2 ≤ n) : ∃ low fl high fh p q, Side x y n low fl high fh p q ∧ n ≤ low + high := by
  have go : ∀ (k : Nat) (low fl high fh p q : Int), Side x y n low fl high fh p q → (2 * n - low - high).toNat ≤ k → ∃ low fl high fh p q, Side x y n low fl high fh p q ∧ n ≤ low + high := by
    intro k
    induction k with
    | zero =>
      intro low fl high fh p q S h
      have := S.l1; have := S.h1; omega
    | succ k ih =>
      intro low fl high fh p q S h
      rcases Int.lt_or_le (low + high) n with c | c
      · obtain ⟨⟨p', q', S'⟩, a, b, d⟩ := S.turn co hn c rfl rfl
        exact ih _ _ _ _ _ _ S' (by omega)
      · exact ⟨_, _, _, _, _, _, S, c⟩
  exact go _ _ _ _ _ _ _ (Side.start x0 xy n2) (Nat.le_refl _)
end Mt
set_option Elab.async false
set_option maxRecDepth 100000
set_option maxHeartbeats 1000000
set_option linter.all false
/-! the order of unlike places as a row of marks -/
namespace Mt
/-- the marks as they are met -/
structure Row (f : Int → Int) (n : Nat) (l : List Int) : Prop where
  len : l.length = n
  mem : ∀ k, k ∈ l ↔ 0 ≤ k ∧ k < n
  up : (l.map f).Pairwise (· < ·)
  ord : ord f (iota n) = l.map fun k => [k]
theorem insU_lenE {v : Int} : ∀ {l : List Int}, v ∉ l → (insU v l).length = l.length + 1
  | [], _ => rfl
  | a :: l, h => by
    unfold insU
    split
    · rfl
    · split
      · rename_i e; exact absurd (by rw [e]; exact List.mem_cons_self) h
      · rw [List.length_cons, insU_lenE (fun z => h (List.mem_cons_of_mem _ z)), List.length_cons]
theorem sortU_lenE : ∀ {l : List Int}, l.Nodup → (sortU l).length = l.length
  | [], _ => rfl
  | a :: l, h => by
    obtain ⟨h1, h2⟩ := List.nodup_cons.mp h
    show (insU a (sortU l)).length = _
    rw [insU_lenE (fun z => h1 (sortU_mem.mp z)), sortU_lenE h2, List.length_cons]
theorem row_ex {f : Int → Int} {n : Nat} (inj : ∀ i j : Int, 0 ≤ i → i < n → 0 ≤ j → j < n → f i = f j → i = j) : ∃ l, Row f n l := by
  have one : ∀ v ∈ sortU ((iota n).map f), ∃ k, k ∈ iota n ∧ f k = v ∧ grp f (iota n) v = [k] := by
    intro v hv
    obtain ⟨k, hk, e⟩ := List.mem_map.mp (sortU_mem.mp hv)
    refine ⟨k, hk, e, ?_⟩
    obtain ⟨k0, k1⟩ := iota_mem.mp hk
    refine strict_one ((iota_pw n).filter _) (List.pairwise_singleton _ _) fun u => ?_
    unfold grp
    rw [List.mem_filter, List.mem_singleton]
    constructor
    · rintro ⟨a, b⟩
      obtain ⟨u0, u1⟩ := iota_mem.mp a
      exact inj u k u0 u1 k0 k1 (by rw [e]; simpa using b)
    · rintro rfl
      exact ⟨hk, by simpa using e⟩
  have nd : ((iota n).map f).Nodup := by
    unfold List.Nodup
    rw [List.pairwise_map]
    refine List.Pairwise.imp_of_mem ?_ (iota_pw n)
    intro a b ha hb h e
    obtain ⟨a0, a1⟩ := iota_mem.mp ha
    obtain ⟨b0, b1⟩ := iota_mem.mp hb
    have := inj a b a0 a1 b0 b1 e
    omega
  let h := fun v => (grp f (iota n) v).headD 0
  have hh : ∀ v ∈ sortU ((iota n).map f), f (h v) = v ∧ h v ∈ iota n ∧ grp f (iota n) v = [h v] := by
    intro v hv
    obtain ⟨k, a, b, c⟩ := one v hv
    have e : h v = k := by
      show (grp f (iota n) v).headD 0 = k
      rw [c]; rfl
    rw [e]; exact ⟨b, a, c⟩
  refine ⟨(sortU ((iota n).map f)).map h, ?_, fun k => ?_, ?_, ?_⟩
  · rw [List.length_map, sortU_lenE nd, List.length_map, iota_len]
  · rw [List.mem_map]
    constructor
    · rintro ⟨v, hv, rfl⟩
      exact iota_mem.mp (hh v hv).2.1
    · intro hk
      have hm : f k ∈ sortU ((iota n).map f) := sortU_mem.mpr (List.mem_map.mpr ⟨k, iota_mem.mpr hk, rfl⟩)
      refine ⟨f k, hm, ?_⟩
      obtain ⟨a, b, _⟩ := hh _ hm
      obtain ⟨b0, b1⟩ := iota_mem.mp b
      exact inj _ _ b0 b1 hk.1 hk.2 a
  · rw [List.map_map]
    have e : (sortU ((iota n).map f)).map (f ∘ h) = sortU ((iota n).map f) := by
      conv => rhs; rw [← List.map_id (sortU ((iota n).map f))]
      exact List.map_congr_left fun v hv => (hh v hv).1
    rw [e]
    exact sortU_pw _
  · unfold Mt.ord
    rw [List.map_map]
    exact List.map_congr_left fun v hv => (hh v hv).2.2
section
variable {f : Int → Int} {y : Int} {n : Nat} {l : List Int}
theorem Row.get (T : Row f n l) {i : Nat} (hi : i < n) : ∃ k, l[i]? = some k ∧ 0 ≤ k ∧ k < n := by
  have h : i < l.length := by rw [T.len]; exact hi
  refine ⟨l[i], List.getElem?_eq_getElem h, ?_⟩
  exact (T.mem _).mp (List.getElem_mem h)
theorem Row.at (T : Row f n l) {k : Int} (k0 : 0 ≤ k) (k1 : k < n) : ∃ i, i < n ∧ l[i]? = some k := by
  obtain ⟨i, hi, e⟩ := List.mem_iff_getElem.mp ((T.mem k).mpr ⟨k0, k1⟩)
  exact ⟨i, by rw [← T.len]; exact hi, by rw [List.getElem?_eq_getElem hi, e]⟩
theorem Row.lt (T : Row f n l) {i j : Nat} {u v : Int} (hi : l[i]? = some u) (hj : l[j]? = some v) (h : i < j) : f u < f v := by
  obtain ⟨h1, e1⟩ := List.getElem?_eq_some_iff.mp hi
  obtain ⟨h2, e2⟩ := List.getElem?_eq_some_iff.mp hj
  subst e1 e2
  have p := List.pairwise_iff_getElem.mp (List.pairwise_map.mp T.up)
  exact p i j h1 h2 h
theorem Row.le (T : Row f n l) {i j : Nat} {u v : Int} (hi : l[i]? = some u) (hj : l[j]? = some v) (h : i ≤ j) : f u ≤ f v := by
  rcases Nat.lt_or_eq_of_le h with c | c
  · exact Int.le_of_lt (T.lt hi hj c)
  · subst c; rw [hi] at hj; cases hj; exact Int.le_refl _
theorem Row.zero (T : Row f n l) (R : Rim f y n) (n0 : 0 < n) : l[0]? = some 0 := by
  obtain ⟨k, hk, k0, k1⟩ := T.get n0
  obtain ⟨i, hi, e⟩ := T.at (k := 0) (by omega) (by omega)
  have h := T.le hk e (Nat.zero_le i)
  have h0 := R.f0
  have h1 := R.r k
  have := R.one k0 k1 (Int.le_refl 0) (by omega) (by omega)
  rw [hk, this]
/-- the first and the last one -/
theorem Row.ends (T : Row f n l) (R : Rim f y n) (n2 : 2 ≤ n) {A B : Int} (hA : l[1]? = some A) (hB : l[n - 1]? = some B) : 0 < A ∧ A < n ∧ 0 < B ∧ B < n ∧ (∀ k : Int, 0 < k → k < n → f A ≤ f k) ∧ ∀ k : Int, 0 < k → k < n → f k ≤ f B := by
  have h0 := T.zero R (by omega)
  have z := R.f0
  have mA := (T.mem A).mp (List.mem_of_getElem? hA)
  have mB := (T.mem B).mp (List.mem_of_getElem? hB)
  have lA := T.lt h0 hA (by omega)
  have lB := T.lt h0 hB (by omega)
  refine ⟨?_, mA.2, ?_, mB.2, fun k k0 k1 => ?_, fun k k0 k1 => ?_⟩
  · rcases Int.lt_or_le 0 A with c | c
    · exact c
    · have : A = 0 := by omega
      rw [this] at lA; omega
  · rcases Int.lt_or_le 0 B with c | c
    · exact c
    · have : B = 0 := by omega
      rw [this] at lB; omega
  · obtain ⟨i, hi, e⟩ := T.at (k := k) (by omega) k1
    refine T.le hA e ?_
    rcases Nat.eq_zero_or_pos i with c | c
    · subst c; rw [h0] at e; cases e; omega
    · exact c
  · obtain ⟨i, hi, e⟩ := T.at (k := k) (by omega) k1
    exact T.le e hB (by omega)
/-- what follows in the row is met first -/
theorem Row.next (T : Row f n l) (R : Rim f y n) (n2 : 2 ≤ n) {j : Nat} (hj : j < n) {k m : Int} (hk : l[j]? = some k) (hm : l[(j + 1) % n]? = some m) : Nx f n k m := by
  have mk := (T.mem k).mp (List.mem_of_getElem? hk)
  have mm := (T.mem m).mp (List.mem_of_getElem? hm)
  have rk := R.r k
  have rm := R.r m
  rcases Nat.lt_or_ge (j + 1) n with c | c
  · rw [Nat.mod_eq_of_lt c] at hm
    have lt := T.lt hk hm (by omega)
    refine ⟨mm.1, mm.2, fun e => by rw [e] at lt; omega, fun i i0 i1 i2 => ?_⟩
    obtain ⟨a, ha, e⟩ := T.at i0 i1
    have s1 := R.s m k
    have r1 := R.r (m - k)
    have s2 := R.s i k
    have r2 := R.r (i - k)
    have ri := R.r i
    rcases Nat.lt_or_ge j a with d | d
    · have := T.le hm e (by omega)
      omega
    · have := T.le e hk d
      have : f i ≠ f k := fun z => i2 (R.one i0 i1 mk.1 mk.2 z)
      omega
  · have e1 : j + 1 = n := by omega
    rw [e1, Nat.mod_self] at hm
    rw [T.zero R (by omega)] at hm
    cases hm
    have h0 := T.zero R (by omega)
    have lt := T.lt h0 hk (by omega)
    have z := R.f0
    refine ⟨by omega, by omega, fun e => by rw [← e] at lt; omega, fun i i0 i1 i2 => ?_⟩
    obtain ⟨a, ha, e⟩ := T.at i0 i1
    have le := T.le e hk (by omega)
    have : f i ≠ f k := fun z => i2 (R.one i0 i1 mk.1 mk.2 z)
    have s1 := R.s 0 k
    have r1 := R.r (0 - k)
    have s2 := R.s i k
    have r2 := R.r (i - k)
    have ri := R.r i
    omega
end
end Mt
set_option Elab.async false
set_option linter.all false
set_option maxRecDepth 100000
set_option maxHeartbeats 4000000
namespace My
open PySem PySem.Spec PyProof.Rows L2 Gn
def top (i : Nat) : Stmt := PySem.Challenge.pw_rimorders_k03_whole_who_comes_behind.main.body.getD i (.Pass ⟨0, 0, 0, 0⟩)
abbrev sTin : Stmt := top 25
abbrev sSip : Stmt := top 26
abbrev sPick : Stmt := top 27
abbrev sFar : Stmt := top 28
abbrev sGcd : Stmt := top 29
abbrev sLow : Stmt := top 30
abbrev sStep : Stmt := top 31
theorem scTin : FnScope ["_law_script", "_law_turn", "_law_entry", "_law_stirred", "_law_each"] ["_law_script", "_law_turn"] (defScope sTin) := ⟨rfl, rfl, rfl, by decide +kernel, rfl, by decide +kernel, by decide +kernel⟩
theorem scSip : FnScope ["_law_tin_here", "_law_top", "_law_digit"] ["_law_tin_here", "_law_top"] (defScope sSip) := ⟨rfl, rfl, rfl, by decide +kernel, rfl, by decide +kernel, by decide +kernel⟩
theorem scPick : FnScope ["_law_tin_here", "_law_menu"] ["_law_tin_here", "_law_menu"] (defScope sPick) := ⟨rfl, rfl, rfl, by decide +kernel, rfl, by decide +kernel, by decide +kernel⟩
theorem scFar : FnScope ["_law_tin_here", "_law_most", "_law_scale"] ["_law_tin_here", "_law_most"] (defScope sFar) := ⟨rfl, rfl, rfl, by decide +kernel, rfl, by decide +kernel, by decide +kernel⟩
theorem scGcd : FnScope ["_law_one", "_law_two"] ["_law_one", "_law_two"] (defScope sGcd) := ⟨rfl, rfl, rfl, by decide +kernel, rfl, by decide +kernel, by decide +kernel⟩
theorem scLow : FnScope ["_law_top", "_law_bottom", "_law_same"] ["_law_top", "_law_bottom"] (defScope sLow) := ⟨rfl, rfl, rfl, by decide +kernel, rfl, by decide +kernel, by decide +kernel⟩
theorem scStep : FnScope ["_law_tin_here", "_law_most", "_law_bottom"] ["_law_tin_here", "_law_most"] (defScope sStep) := ⟨rfl, rfl, rfl, by decide +kernel, rfl, by decide +kernel, by decide +kernel⟩
/-- the built-ins that the text calls are still the built-ins -/
structure Bl (mg : Str → Option Value) : Prop where
  len : mg "len" = none
  int : mg "int" = none
  abs : mg "abs" = none
/-- a tin at t: what is left of the number, the stirred one, how often it was sipped from -/
def Tin (H : Hp) (t : Addr) : Prop := ∃ a b c : Int, H t = some (.lst [.int a, .int b, .int c]) ∧ 0 ≤ a ∧ 0 ≤ b ∧ b < 2147483647
/-- all but t is as it was, t is a tin -/
def Sipped (H H' : Hp) (t : Addr) : Prop := Tin H' t ∧ ∀ b o, H b = some o → b ≠ t → H' b = some o
def spTin (K : PySem.W.Frag) : Sp := fun vs H Q _ => ∃ (a : Addr) (ns : List Int) (t : Int), vs = [.ref a, .int t] ∧ SqL K H a (ns.map V.int) ∧ 0 ≤ t ∧ t ≤ 100 ∧
  ∀ p H', Same H H' → H p = none → Tin H' p → Q (.ref p) H'
def spSip : Sp := fun vs H Q _ => ∃ (t : Addr) (n : Int), vs = [.ref t, .int n] ∧ Tin H t ∧ 0 < n ∧ n.natAbs < 2 ^ 100 ∧ ∀ d H', 0 ≤ d → d < n → Sipped H H' t → Q (.int d) H'
theorem nz1 : (999931 : Int) ≠ 0 := by decide
theorem nz2 : (2147483647 : Int) ≠ 0 := by decide
section
variable {P : Program} {w : World} {K : PySem.W.Frag} {mg : Str → Option Value} {base : Heap}
theorem ok_tin {f : Addr} {fd : FuncData} (F : Fun K "_law_tin" "_law_tin" sTin f fd) (B : Bl mg) : FnOk P w K mg base CX0 1 f fd ["_law_script", "_law_turn"] (spTin K) := by
  refine F.ok scTin (fun vs H Q E h => ?_) (fun cdv A outer s H vs Q E hr h => ?_)
  · obtain ⟨a, ns, t, rfl, _⟩ := h
    rfl
  · obtain ⟨a, ns, t, rfl, hS, t0, t1, q⟩ := h
    refine ⟨_, pss_cons (ps_set (i := 2) scTin.nd rfl (.inl rfl) (pe_ifExp (pt_cmpR op_lt (pv 1) (pe_callB call_len_seq (by rfl) B.len PySem.boot_len (pa_cons (pv 0) pa_nil)) (nomark _))
        (pe_callTy call_int1 (by rfl) B.int (by decide +kernel) (pa_cons (pe_ix ix_list (pv 0) (pv 1) (fun _ _ => rfl)) pa_nil)) (pe_op op_add (pe_op op_mul pe_int (pv 1)) pe_int)))
      (pss_cons (ps_set (i := 3) scTin.nd rfl (.inl rfl) (pe_op op_add pe_int (pe_op op_mul pe_int (pv 1))))
      (pss_cons (ps_for PassesOwn.never rfl (pi_list (pe_slice sl_list (pv 0) po_none (po_some pe_int))) (pg_name (i := 4) scTin.nd rfl (.inl rfl))
        (pss_one (ps_set (i := 3) scTin.nd rfl (.inl rfl) (pe_op op_modN (pe_callTy call_int1 (by rfl) B.int (by decide +kernel) (pa_cons
          (pe_op op_add (pe_op op_add (pe_op op_mul (pv 3) pe_int) (pe_op op_modN (pe_callTy call_int1 (by rfl) B.int (by decide +kernel) (pa_cons (pv 4) pa_nil)) pe_int)) (pv 1)) pa_nil)) pe_int))))
      (pss_cons (ps_set (i := 3) scTin.nd rfl (.inl rfl) (pe_op op_modN (pe_callTy call_int1 (by rfl) B.int (by decide +kernel) (pa_cons
          (pe_op op_add (pe_op op_mul (pv 3) pe_int) (pe_op op_modN (pe_callTy call_int1 (by rfl) B.int (by decide +kernel) (pa_cons (pv 2) pa_nil)) pe_int)) pa_nil)) pe_int))
      (pss_one (ps_ret (pe_lst (pa_cons (pe_ifExp (pt_cmpR op_ge (pe_callB call_abs (by rfl) B.abs (by decide +kernel) (pa_cons (pv 2) pa_nil)) (pe_op op_pow pe_int pe_int) (nomark _)) (pe_callB call_abs (by rfl) B.abs (by decide +kernel) (pa_cons (pv 2) pa_nil)) pe_int)
          (pa_cons (pv 3) (pa_cons pe_int pa_nil))))))))), ?_⟩
    refine ⟨_, rfl, _, rfl, a, _, rfl, .inl hS, _, _, rfl, rfl, _, rfl, ?_⟩
    refine tif (.int (ns.getD t.toNat 0)) (.int (73 * t + 23)) (fun hc R z => ?_) (fun _ R z => ?_) (fun v e1 e2 => ?_)
    · have hl : t.toNat < ns.length := by have := of_decide_eq_true hc; rw [List.length_map] at this; omega
      refine ⟨_, rfl, _, rfl, a, _, t, .int (ns.getD t.toNat 0), rfl, rfl, hS, ?_, .inl ⟨_, rfl, z⟩⟩
      exact at_of (j := t.toNat) (by omega) (by rw [List.getElem?_map, List.getElem?_eq_getElem hl, List.getD_eq_getElem?_getD, List.getElem?_eq_getElem hl]; rfl)
    · exact ⟨_, rfl, _, _, rfl, rfl, .inl ⟨by decide, by decide⟩, _, _, rfl, rfl, z⟩
    obtain ⟨e, rfl⟩ : ∃ e, v = V.int e := by
      rcases Bool.eq_false_or_eq_true (decide (t < ↑(List.map V.int ns).length)) with z | z
      · exact ⟨_, e1 z⟩
      · exact ⟨_, e2 z⟩
    refine ⟨_, rfl, _, _, rfl, rfl, .inl ⟨by decide, by decide⟩, _, _, rfl, rfl, ?_⟩
    refine ⟨_, rfl, 8, rfl, a, _, rfl, hS, fun p hp => ⟨p, rfl, ⟨_, .inl (.inl upd_same)⟩, ?_⟩⟩
    have sm := same_put (o := .lst (cutV (ns.map V.int) none (some 8))) hp
    refine for_list (K := K) (a := p) (xs := cutV (ns.map V.int) none (some 8)) (fun i σ H' => ∃ (st : Int) (y : Option V), σ = [some (.ref a), some (.int t), some (.int e), some (.int st), y] ∧ 0 ≤ st ∧ st ≤ 2147483647 ∧ H' = upd H p (.lst (cutV (ns.map V.int) none (some 8))))
      ⟨50021 + 1009 * t, none, rfl, by omega, by omega, rfl⟩ (fun i σ H' _ ⟨_, _, _, _, _, e⟩ => by rw [e]; exact .inl (.inl upd_same)) ?_ ?_
    · rintro i x σ H' hi ⟨st, y, rfl, s0, s1, rfl⟩
      obtain ⟨z, rfl⟩ := int_at (cut_mem (List.mem_of_getElem? hi))
      refine ⟨_, rfl, _, _, rfl, rfl, .inl ⟨by omega, by omega⟩, _, rfl, .inl ⟨_, rfl, _, _, rfl, rfl, nz1, _, _, rfl, rfl, _, rfl, _, _, rfl, rfl, .inl ⟨_, rfl, _, _, rfl, rfl, nz2, ?_⟩⟩⟩
      exact ⟨_, _, rfl, fmod_ge (by decide), Int.le_of_lt (fmod_lt (by decide)), rfl⟩
    · rintro σ H' ⟨st, y, rfl, s0, s1, rfl⟩
      refine ⟨_, rfl, _, _, rfl, rfl, .inl ⟨by omega, by omega⟩, _, rfl, .inl ⟨_, rfl, _, _, rfl, rfl, nz1, _, _, rfl, rfl, .inl ⟨_, rfl, _, _, rfl, rfl, nz2, ?_⟩⟩⟩
      refine ⟨_, rfl, _, rfl, _, _, rfl, rfl, ⟨by decide, by decide, by decide⟩, _, _, rfl, rfl, _, rfl, ?_⟩
      refine tif (.int (if e < 0 then -e else e)) (.int 0) (fun _ R z => ⟨_, rfl, _, rfl, z⟩) (fun _ R z => z) (fun v e1 e2 => ?_)
      obtain ⟨b, rfl, hb⟩ : ∃ b, v = V.int b ∧ 0 ≤ b := by
        rcases Bool.eq_false_or_eq_true (decide ((10 : Int) ^ (18 : Int).toNat ≤ if e < 0 then -e else e)) with z | z
        · exact ⟨_, e1 z, by split <;> omega⟩
        · exact ⟨_, e2 z, by decide⟩
      refine ⟨_, rfl, (by show 3 ≤ sizeLine; decide), fun r hr' => ?_⟩
      exact q r _ (sm.trans (same_put hr')) (sm.free hr') ⟨_, _, _, upd_same, hb, fmod_ge (by decide), fmod_lt (by decide)⟩
end
end My
set_option Elab.async false
set_option linter.all false
set_option maxRecDepth 100000
set_option maxHeartbeats 4000000
namespace My
open PySem PySem.Spec PyProof.Rows L2 Gn
theorem Tin.not {H : Hp} {t b : Addr} (T : Tin H t) (h : H b = none) : b ≠ t := by
  obtain ⟨_, _, _, h1, _⟩ := T
  exact (ne_of_none h1 h).symm
theorem Sipped.trans {H H1 H2 : Hp} {t : Addr} (a : Sipped H H1 t) (b : Sipped H1 H2 t) : Sipped H H2 t := ⟨b.1, fun c o e n => b.2 c o (a.2 c o e n) n⟩
theorem Sipped.ofSame {H H1 : Hp} {t : Addr} (T : Tin H t) (s : Same H H1) : Sipped H H1 t := by
  obtain ⟨a, b, c, h, r⟩ := T
  exact ⟨⟨a, b, c, s _ _ h, r⟩, fun c o e _ => s c o e⟩
theorem Sipped.free {H H1 : Hp} {t p : Addr} (T : Tin H t) (s : Sipped H H1 t) (h : H1 p = none) : H p = none := by
  cases q : H p with
  | none => rfl
  | some o =>
    have n : p ≠ t := by
      rintro rfl
      obtain ⟨_, _, _, e, _⟩ := s.1
      rw [h] at e; cases e
    rw [s.2 p o q n] at h
    cases h
section
variable {P : Program} {w : World} {K : PySem.W.Frag} {mg : Str → Option Value} {base : Heap}
theorem ok_sip {f : Addr} {fd : FuncData} (F : Fun K "_law_sip" "_law_sip" sSip f fd) (B : Bl mg) : FnOk P w K mg base CX0 1 f fd ["_law_tin_here", "_law_top"] spSip := by
  refine F.ok scSip (fun vs H Q E h => ?_) (fun cdv A outer s H vs Q E hr h => ?_)
  · obtain ⟨t, n, rfl, _⟩ := h
    rfl
  · obtain ⟨t, n, rfl, ⟨a, b, c, hT, a0, b0, b1⟩, n0, n1, q⟩ := h
    refine ⟨_, pss_cons (ps_asg (pe_op op_add (pe_ix ix_list (pv 0) pe_int (fun _ _ => rfl)) pe_int) (pg_sub (pv 0) pe_int set_list))
      (pss_cons (ps_if (pt_cmpR op_gt (pe_ix ix_list (pv 0) pe_int (fun _ _ => rfl)) pe_int (nomark _))
        (pss_cons (ps_set (i := 2) scSip.nd rfl (.inl rfl) (pe_op op_modN (pe_callTy call_int1 (by rfl) B.int (by decide +kernel) (pa_cons (pe_ix ix_list (pv 0) pe_int (fun _ _ => rfl)) pa_nil)) (pv 1)))
        (pss_cons (ps_asg (pe_op op_fdivW (pe_callTy call_int1 (by rfl) B.int (by decide +kernel) (pa_cons (pe_ix ix_list (pv 0) pe_int (fun _ _ => rfl)) pa_nil)) (pv 1)) (pg_sub (pv 0) pe_int set_list))
        (pss_one (ps_ret (pv 2))))) pss_nil)
      (pss_cons (ps_asg (pe_op op_modN (pe_callTy call_int1 (by rfl) B.int (by decide +kernel) (pa_cons (pe_op op_add (pe_op op_add (pe_op op_mul (pe_ix ix_list (pv 0) pe_int (fun _ _ => rfl)) pe_int) (pe_op op_mul pe_int (pe_ix ix_list (pv 0) pe_int (fun _ _ => rfl)))) pe_int) pa_nil)) pe_int) (pg_sub (pv 0) pe_int set_list))
      (pss_one (ps_ret (pe_op op_modN (pe_callTy call_int1 (by rfl) B.int (by decide +kernel) (pa_cons (pe_op op_fdivW (pe_ix ix_list (pv 0) pe_int (fun _ _ => rfl)) pe_int) pa_nil)) (pv 1)))))), ?_⟩
    -- tin[2] = tin[2] + 1
    refine ⟨_, rfl, t, _, 2, .int c, rfl, rfl, SqL.of hT, at_of (j := 2) rfl rfl, _, _, rfl, rfl, _, rfl, t, _, _, 2, rfl, rfl, hT, rfl, ?_⟩
    have h1 : upd H t (.lst ([V.int a, V.int b, V.int c].set 2 (V.int (c + 1)))) t = some (.lst [.int a, .int b, .int (c + 1)]) := upd_same
    -- if tin[0] > 0
    refine ⟨_, rfl, t, _, 0, .int a, rfl, rfl, SqL.of h1, at_of (j := 0) rfl rfl, _, _, rfl, rfl, _, rfl, ?_⟩
    refine ite2 (fun hc => ?_) (fun hc => ?_)
    · have ha : 0 < a := of_decide_eq_true hc
      refine ⟨_, rfl, t, _, 0, .int a, rfl, rfl, SqL.of h1, at_of (j := 0) rfl rfl, .inl ⟨_, rfl, _, rfl, _, _, rfl, rfl, (show n ≠ 0 by omega), ?_⟩⟩
      refine ⟨_, rfl, t, _, 0, .int a, rfl, rfl, SqL.of h1, at_of (j := 0) rfl rfl, .inl ⟨_, rfl, _, rfl, _, _, rfl, rfl, wide_div n0 n1 (by decide) (by decide), _, rfl, t, _, _, 0, rfl, rfl, h1, rfl, ?_⟩⟩
      refine ⟨_, rfl, q _ _ (fmod_ge n0) (fmod_lt n0) ⟨⟨_, _, _, upd_same, Int.ediv_nonneg (by omega) (by omega), b0, b1⟩, fun z o e hz => ?_⟩⟩
      rw [upd_ne hz, upd_ne hz]; exact e
    · refine ⟨_, rfl, t, _, 1, .int b, rfl, rfl, SqL.of h1, at_of (j := 1) rfl rfl, _, _, rfl, rfl, .inl ⟨by omega, by omega⟩, _, rfl, t, _, 2, .int (c + 1), rfl, rfl, SqL.of h1, at_of (j := 2) rfl rfl, _, _, rfl, rfl, .inl ⟨by decide, by decide⟩, _, _, rfl, rfl, _, _, rfl, rfl, .inl ⟨_, rfl, _, _, rfl, rfl, nz2, _, rfl, t, _, _, 1, rfl, rfl, h1, rfl, ?_⟩⟩
      have h2 : ∀ z : Int, upd (upd H t (.lst ([V.int a, V.int b, V.int c].set 2 (V.int (c + 1))))) t (.lst ([V.int a, V.int b, V.int (c + 1)].set 1 (V.int z))) t = some (.lst [.int a, .int z, .int (c + 1)]) := fun z => upd_same
      refine ⟨_, rfl, t, _, 1, _, rfl, rfl, SqL.of (h2 _), at_of (j := 1) rfl rfl, _, _, rfl, rfl, wide_div (b := 6) (by decide) (by decide) (by decide) (by decide), .inl ⟨_, rfl, _, rfl, _, _, rfl, rfl, (show n ≠ 0 by omega), ?_⟩⟩
      refine q _ _ (fmod_ge n0) (fmod_lt n0) ⟨⟨_, _, _, h2 _, a0, fmod_ge (by decide), fmod_lt (by decide)⟩, fun z o e hz => ?_⟩
      rw [upd_ne hz, upd_ne hz]; exact e
end
end My
set_option Elab.async false
set_option linter.all false
set_option maxRecDepth 100000
set_option maxHeartbeats 4000000
namespace My
open PySem PySem.Spec PyProof.Rows L2 Gn
def spPick : Sp := fun vs H Q _ => ∃ (t m : Addr) (xs : List V), vs = [.ref t, .ref m] ∧ Tin H t ∧ H m = some (.lst xs) ∧ m ≠ t ∧ 0 < xs.length ∧ xs.length ≤ 1000 ∧ ∀ x H', x ∈ xs → Sipped H H' t → Q x H'
def spFar : Sp := fun vs H Q _ => ∃ (t : Addr) (n : Int), vs = [.ref t, .int n] ∧ Tin H t ∧ 1 ≤ n ∧ n.natAbs < 2 ^ 100 ∧ ∀ d H', 1 ≤ d → d ≤ n → Sipped H H' t → Q (.int d) H'
def spGcd : Sp := fun vs H Q _ => ∃ (a b : Int), vs = [.int a, .int b] ∧ 0 ≤ a ∧ 0 ≤ b ∧ Q (.int ((Nat.gcd a.natAbs b.natAbs : Nat) : Int)) H
def spLow : Sp := fun vs H Q _ => ∃ (a b : Int), vs = [.int a, .int b] ∧ 0 ≤ a ∧ 0 < b ∧ b.natAbs < 2 ^ 100 ∧
  ∀ p, H p = none → Q (.ref p) (upd H p (.tup [.int (a / ((Nat.gcd a.natAbs b.natAbs : Nat) : Int)), .int (b / ((Nat.gcd a.natAbs b.natAbs : Nat) : Int))]))
/-- x / y is a step: lowest terms, from 0 on, below 1 -/
structure IsStep (x y : Int) : Prop where
  x0 : 0 ≤ x
  xy : x < y
  co : Nat.gcd x.natAbs y.natAbs = 1
def spStep : Sp := fun vs H Q _ => ∃ (t : Addr) (n : Int), vs = [.ref t, .int n] ∧ Tin H t ∧ 1 ≤ n ∧ n.natAbs < 2 ^ 100 ∧
  ∀ x y p H', IsStep x y → y ≤ n → Sipped H H' t → H p = none → H' p = some (.tup [.int x, .int y]) → Q (.ref p) H'
theorem low_step {a b : Int} (h0 : 0 ≤ a) (h : a < b) : IsStep (a / ((Nat.gcd a.natAbs b.natAbs : Nat) : Int)) (b / ((Nat.gcd a.natAbs b.natAbs : Nat) : Int)) ∧ b / ((Nat.gcd a.natAbs b.natAbs : Nat) : Int) ≤ b := by
  obtain ⟨x, rfl⟩ := Int.eq_ofNat_of_zero_le h0
  obtain ⟨y, rfl⟩ := Int.eq_ofNat_of_zero_le (show 0 ≤ b by omega)
  simp only [Int.natAbs_natCast]
  have hy : 0 < y := by omega
  have g0 : 0 < Nat.gcd x y := Nat.gcd_pos_of_pos_right _ hy
  have e1 : ((x : Int) / ((Nat.gcd x y : Nat) : Int)) = ((x / Nat.gcd x y : Nat) : Int) := by simp
  have e2 : ((y : Int) / ((Nat.gcd x y : Nat) : Int)) = ((y / Nat.gcd x y : Nat) : Int) := by simp
  rw [e1, e2]
  obtain ⟨u, hu⟩ := Nat.gcd_dvd_left x y
  obtain ⟨v, hv⟩ := Nat.gcd_dvd_right x y
  have du : x / Nat.gcd x y = u := Nat.div_eq_of_eq_mul_right g0 hu
  have dv : y / Nat.gcd x y = v := Nat.div_eq_of_eq_mul_right g0 hv
  refine ⟨⟨by omega, ?_, ?_⟩, ?_⟩
  · rw [du, dv]
    have : Nat.gcd x y * u < Nat.gcd x y * v := by rw [← hu, ← hv]; omega
    have := Nat.lt_of_mul_lt_mul_left this
    omega
  · simp only [Int.natAbs_natCast]
    exact Nat.coprime_div_gcd_div_gcd g0
  · have := Nat.div_le_self y (Nat.gcd x y)
    omega
section
variable {P : Program} {w : World} {K : PySem.W.Frag} {mg : Str → Option Value} {base : Heap}
/-- a def that the module holds under its own name, and how it binds -/
structure Df (K : PySem.W.Frag) (mg : Str → Option Value) (x : Str) (st : Stmt) (ps : List Str) (f : Addr) (fd : FuncData) : Prop where
  F : Fun K x x st f fd
  g : mg x = some (.ref f)
  b : Binds K fd ps []
theorem ok_pick {f fS : Addr} {fd fdS : FuncData} (F : Fun K "_law_pick" "_law_pick" sPick f fd) (B : Bl mg) (S : Df K mg "_law_sip" sSip ["_law_tin_here", "_law_top"] fS fdS) : FnOk P w K mg base CX0 2 f fd ["_law_tin_here", "_law_menu"] spPick := by
  have GS : FnOk P w K mg base CX0 1 fS fdS ["_law_tin_here", "_law_top"] spSip := ok_sip S.F B
  refine F.ok scPick (fun vs H Q E h => ?_) (fun cdv A outer s H vs Q E hr h => ?_)
  · obtain ⟨t, m, xs, rfl, _⟩ := h
    rfl
  · obtain ⟨t, m, xs, rfl, T, hm, ne, x0, x1, q⟩ := h
    refine ⟨_, pss_one (ps_ret (pe_ix ix_list (pv 1) (pe_call GS hr (by rfl) S.g S.F.kp S.b .nil pass0 (pa_cons (pv 0) (pa_cons (pe_callB call_len_seq (by rfl) B.len PySem.boot_len (pa_cons (pv 1) pa_nil)) pa_nil))) (fun _ _ => rfl))), ?_⟩
    refine ⟨_, rfl, _, rfl, _, rfl, m, xs, rfl, .inl (SqL.of hm), t, _, rfl, T, by omega, ?_, fun d H' d0 d1 sp => ?_⟩
    · rw [Int.natAbs_natCast]; exact Nat.lt_of_le_of_lt x1 (by decide)
    have hd : d.toNat < xs.length := by omega
    refine ⟨m, xs, d, xs[d.toNat], rfl, rfl, SqL.of (sp.2 m _ hm ne), at_of (j := d.toNat) (by omega) (List.getElem?_eq_getElem hd), q _ _ (List.getElem_mem hd) sp⟩
theorem ok_far {f fS fP : Addr} {fd fdS fdP : FuncData} (F : Fun K "_law_far" "_law_far" sFar f fd) (B : Bl mg) (S : Df K mg "_law_sip" sSip ["_law_tin_here", "_law_top"] fS fdS) (Pk : Df K mg "_law_pick" sPick ["_law_tin_here", "_law_menu"] fP fdP) : FnOk P w K mg base CX0 3 f fd ["_law_tin_here", "_law_most"] spFar := by
  have GS : FnOk P w K mg base CX0 1 fS fdS ["_law_tin_here", "_law_top"] spSip := ok_sip S.F B
  have GP : FnOk P w K mg base CX0 2 fP fdP ["_law_tin_here", "_law_menu"] spPick := ok_pick Pk.F B S
  refine F.ok scFar (fun vs H Q E h => ?_) (fun cdv A outer s H vs Q E hr h => ?_)
  · obtain ⟨t, n, rfl, _⟩ := h
    rfl
  · obtain ⟨t, n, rfl, T, n1, n2, q⟩ := h
    have hr1 : Room 1 _ := hr.mono (by decide)
    refine ⟨_, pss_cons (ps_if (pt_cmpR op_le (pv 1) (pe_op op_pow pe_int pe_int) (nomark _)) (pss_one (ps_ret (pe_op op_add pe_int (pe_call GS hr1 (by rfl) S.g S.F.kp S.b .nil pass0 (pa_cons (pv 0) (pa_cons (pv 1) pa_nil)))))) pss_nil)
      (pss_cons (ps_set (i := 2) scFar.nd rfl (.inl rfl) (pe_call GP hr (by rfl) Pk.g Pk.F.kp Pk.b .nil pass0 (pa_cons (pv 0) (pa_cons (pe_lst (pa_cons pe_int (pa_cons pe_int (pa_cons (pe_op op_pow pe_int pe_int) (pa_cons (pe_op op_pow pe_int pe_int) (pa_cons (pe_op op_pow pe_int pe_int) (pa_cons (pe_op op_pow pe_int pe_int) (pa_cons (pe_op op_pow pe_int pe_int) (pa_cons (pe_op op_pow pe_int pe_int) pa_nil))))))))) pa_nil))))
      (pss_one (ps_ret (pe_op op_add pe_int (pe_op op_modN (pe_callTy call_int1 (by rfl) B.int (by decide +kernel) (pa_cons (pe_op op_add (pe_op op_mul (pe_call GS hr1 (by rfl) S.g S.F.kp S.b .nil pass0 (pa_cons (pv 0) (pa_cons (pe_op op_pow pe_int pe_int) pa_nil))) (pv 2)) (pe_call GS hr1 (by rfl) S.g S.F.kp S.b .nil pass0 (pa_cons (pv 0) (pa_cons pe_int pa_nil)))) pa_nil)) (pv 1)))))), ?_⟩
    refine ⟨_, rfl, _, _, rfl, rfl, ⟨by decide, by decide, by decide⟩, _, _, rfl, rfl, _, rfl, ?_⟩
    refine ite2 (fun hc => ?_) (fun hc => ?_)
    · refine ⟨_, rfl, _, rfl, t, n, rfl, T, by omega, n2, fun d H' d0 d1 sp => ?_⟩
      exact ⟨_, _, rfl, rfl, q _ _ (by omega) (by omega) sp⟩
    · refine ⟨_, rfl, _, _, rfl, rfl, ⟨by decide, by decide, by decide⟩, _, _, rfl, rfl, ⟨by decide, by decide, by decide⟩, _, _, rfl, rfl, ⟨by decide, by decide, by decide⟩, _, _, rfl, rfl, ⟨by decide, by decide, by decide⟩, _, _, rfl, rfl, ⟨by decide, by decide, by decide⟩, _, _, rfl, rfl, ⟨by decide, by decide, by decide⟩, (by show 8 ≤ sizeLine; decide), fun m hm => ?_⟩
      have T1 : Tin (upd H m (.lst ([1, 7, 10 ^ 3, 10 ^ 6, 10 ^ 9, 10 ^ 14, 10 ^ 21, 10 ^ 24].map V.int))) t := (Sipped.ofSame T (same_put hm)).1
      refine ⟨t, m, ([1, 7, 10 ^ 3, 10 ^ 6, 10 ^ 9, 10 ^ 14, 10 ^ 21, 10 ^ 24] : List Int).map V.int, rfl, T1, upd_same, T.not hm, (by decide), (by decide), fun x H1 hx s1 => ?_⟩
      obtain ⟨z, rfl⟩ := int_at hx
      have s01 : Sipped H H1 t := (Sipped.ofSame T (same_put hm)).trans s1
      refine ⟨_, rfl, _, _, rfl, rfl, ⟨by decide, by decide, by decide⟩, t, _, rfl, s1.1, (by decide), (by decide), fun d H2 d0 d1 s2 => ?_⟩
      refine ⟨_, rfl, _, _, rfl, rfl, .inl ⟨by omega, ?_⟩, _, rfl, t, _, rfl, s2.1, (by decide), (by decide), fun e H3 e0 e1 s3 => ?_⟩
      · have : (d : Int) < 10 ^ 6 := d1
        omega
      refine ⟨_, _, rfl, rfl, .inl ⟨_, rfl, _, rfl, _, _, rfl, rfl, (show n ≠ 0 by omega), _, _, rfl, rfl, q _ _ ?_ ?_ ((s01.trans s2).trans s3)⟩⟩
      · have := fmod_ge (a := d * z + e) (show 0 < n by omega); omega
      · have := fmod_lt (a := d * z + e) (show 0 < n by omega); omega
theorem ok_gcd {f : Addr} {fd : FuncData} (F : Fun K "_law_gcd" "_law_gcd" sGcd f fd) (B : Bl mg) : FnOk P w K mg base CX0 1 f fd ["_law_one", "_law_two"] spGcd := by
  refine F.ok scGcd (fun vs H Q E h => ?_) (fun cdv A outer s H vs Q E hr h => ?_)
  · obtain ⟨a, b, rfl, _⟩ := h
    rfl
  · obtain ⟨a, b, rfl, a0, b0, q⟩ := h
    refine ⟨_, pss_cons (ps_while PassesOwn.never (pt_cmpR op_gt (pv 1) pe_int (nomark _)) (pss_one (ps_par (i := 0) (j := 1) (by rfl) scGcd.nd rfl rfl (by decide) rfl rfl
        (pa_cons (pv 1) (pa_cons (pe_op op_modN (pe_callTy call_int1 (by rfl) B.int (by decide +kernel) (pa_cons (pv 0) pa_nil)) (pv 1)) pa_nil)) (by rfl))))
      (pss_one (ps_ret (pv 0))), ?_⟩
    refine while_by (fun σ H' => ∃ x y : Int, σ = [some (.int x), some (.int y)] ∧ 0 ≤ x ∧ 0 ≤ y ∧ Nat.gcd x.natAbs y.natAbs = Nat.gcd a.natAbs b.natAbs ∧ H' = H)
      (fun σ _ => match σ with | [_, some (.int y)] => y.natAbs | _ => 0) ⟨a, b, rfl, a0, b0, rfl, rfl⟩ ?_ ?_
    · rintro σ H' ⟨x, y, rfl, x0, y0, hg, rfl⟩
      refine ⟨_, rfl, _, _, rfl, rfl, _, rfl, ?_⟩
      refine ite2 (fun hc => ?_) (fun hc => ?_)
      · have hy : 0 < y := of_decide_eq_true hc
        refine ⟨_, rfl, _, rfl, .inl ⟨_, rfl, _, rfl, _, _, rfl, rfl, (show y ≠ 0 by omega), _, _, rfl, ⟨y, x.fmod y, rfl, y0, fmod_ge hy, ?_, rfl⟩, ?_⟩⟩
        · rw [← hg, Int.fmod_eq_emod_of_nonneg _ y0]
          obtain ⟨m, rfl⟩ := Int.eq_ofNat_of_zero_le x0
          obtain ⟨n, rfl⟩ := Int.eq_ofNat_of_zero_le y0
          rw [← Int.natCast_emod, Int.natAbs_natCast, Int.natAbs_natCast, Int.natAbs_natCast]
          rw [Nat.gcd_comm n, ← Nat.gcd_rec, Nat.gcd_comm]
        · show (x.fmod y).natAbs < y.natAbs
          have h1 := fmod_ge (a := x) hy
          have h2 := fmod_lt (a := x) hy
          omega
      · have hy : y = 0 := by have : ¬ (0 : Int) < y := fun z => hc (decide_eq_true z); omega
        subst hy
        refine ⟨_, rfl, ?_⟩
        rw [← hg] at q
        simpa [Int.natAbs_of_nonneg x0] using q
    · rintro σ H' Q1 Q2 mo ⟨v, e1, i, j, e2, e3, k, e4, h⟩
      exact ⟨v, e1, i, j, e2, e3, k, e4, mo _ _ h⟩
theorem ok_low {f fG : Addr} {fd fdG : FuncData} (F : Fun K "_law_low" "_law_low" sLow f fd) (B : Bl mg) (G : Df K mg "_law_gcd" sGcd ["_law_one", "_law_two"] fG fdG) : FnOk P w K mg base CX0 2 f fd ["_law_top", "_law_bottom"] spLow := by
  have GG : FnOk P w K mg base CX0 1 fG fdG ["_law_one", "_law_two"] spGcd := ok_gcd G.F B
  refine F.ok scLow (fun vs H Q E h => ?_) (fun cdv A outer s H vs Q E hr h => ?_)
  · obtain ⟨a, b, rfl, _⟩ := h
    rfl
  · obtain ⟨a, b, rfl, a0, b0, b1, q⟩ := h
    refine ⟨_, pss_cons (ps_set (i := 2) scLow.nd rfl (.inl rfl) (pe_call GG hr (by rfl) G.g G.F.kp G.b .nil pass0 (pa_cons (pv 0) (pa_cons (pv 1) pa_nil))))
      (pss_one (ps_ret (pe_tup (pa_cons (pe_op op_fdivW (pv 0) (pv 2)) (pa_cons (pe_op op_fdivW (pv 1) (pv 2)) pa_nil))))), ?_⟩
    have g0 : (0 : Int) < ((Nat.gcd a.natAbs b.natAbs : Nat) : Int) := by
      have := Nat.gcd_pos_of_pos_right a.natAbs (show 0 < b.natAbs by omega); omega
    have g1 : (((Nat.gcd a.natAbs b.natAbs : Nat) : Int)).natAbs < 2 ^ 100 := by
      rw [Int.natAbs_natCast]
      exact Nat.lt_of_le_of_lt (Nat.le_of_dvd (by omega) (Nat.gcd_dvd_right _ _)) b1
    refine ⟨_, rfl, _, rfl, a, b, rfl, a0, by omega, _, rfl, _, rfl, _, _, rfl, rfl, wide_div g0 g1 (by decide) (by decide), _, rfl, _, rfl, _, _, rfl, rfl, wide_div g0 g1 (by decide) (by decide), (by show 2 ≤ sizeLine; decide), fun p hp => q p hp⟩
theorem ok_step {f fA fL : Addr} {fd fdA fdL : FuncData} {fS fP fG : Addr} {fdS fdP fdG : FuncData} (F : Fun K "_law_step" "_law_step" sStep f fd) (B : Bl mg) (S : Df K mg "_law_sip" sSip ["_law_tin_here", "_law_top"] fS fdS) (Pk : Df K mg "_law_pick" sPick ["_law_tin_here", "_law_menu"] fP fdP)
    (G : Df K mg "_law_gcd" sGcd ["_law_one", "_law_two"] fG fdG) (Fa : Df K mg "_law_far" sFar ["_law_tin_here", "_law_most"] fA fdA) (Lo : Df K mg "_law_low" sLow ["_law_top", "_law_bottom"] fL fdL) : FnOk P w K mg base CX0 4 f fd ["_law_tin_here", "_law_most"] spStep := by
  have GA : FnOk P w K mg base CX0 3 fA fdA ["_law_tin_here", "_law_most"] spFar := ok_far Fa.F B S Pk
  have GL : FnOk P w K mg base CX0 2 fL fdL ["_law_top", "_law_bottom"] spLow := ok_low Lo.F B G
  refine F.ok scStep (fun vs H Q E h => ?_) (fun cdv A outer s H vs Q E hr h => ?_)
  · obtain ⟨t, n, rfl, _⟩ := h
    rfl
  · obtain ⟨t, n, rfl, T, n1, n2, q⟩ := h
    have hr2 : Room 2 _ := hr.mono (by decide)
    refine ⟨_, pss_cons (ps_set (i := 2) scStep.nd rfl (.inl rfl) (pe_call GA hr (by rfl) Fa.g Fa.F.kp Fa.b .nil pass0 (pa_cons (pv 0) (pa_cons (pv 1) pa_nil))))
      (pss_one (ps_ret (pe_call GL hr2 (by rfl) Lo.g Lo.F.kp Lo.b .nil pass0 (pa_cons (pe_op op_modN (pe_callTy call_int1 (by rfl) B.int (by decide +kernel) (pa_cons (pe_call GA hr (by rfl) Fa.g Fa.F.kp Fa.b .nil pass0 (pa_cons (pv 0) (pa_cons (pv 1) pa_nil))) pa_nil)) (pv 2)) (pa_cons (pv 2) pa_nil))))), ?_⟩
    refine ⟨_, rfl, _, rfl, t, n, rfl, T, n1, n2, fun b H1 b0 b1 s1 => ?_⟩
    refine ⟨_, rfl, _, rfl, t, n, rfl, s1.1, n1, n2, fun a H2 a0 a1 s2 => .inl ⟨_, rfl, _, rfl, _, _, rfl, rfl, (show b ≠ 0 by omega), _, rfl, _, b, rfl, fmod_ge (by omega), by omega, ?_, fun p hp => ?_⟩⟩
    · exact Nat.lt_of_le_of_lt (by omega) n2
    obtain ⟨st, le⟩ := low_step (a := a.fmod b) (b := b) (fmod_ge (by omega)) (fmod_lt (by omega))
    have s3 : Sipped H2 (upd H2 p (.tup [.int ((a.fmod b) / ((Nat.gcd (a.fmod b).natAbs b.natAbs : Nat) : Int)), .int (b / ((Nat.gcd (a.fmod b).natAbs b.natAbs : Nat) : Int))])) t := Sipped.ofSame s2.1 (same_put hp)
    exact q _ _ p _ st (by omega) ((s1.trans s2).trans s3) ((s1.trans s2).free T hp) upd_same
end
end My
set_option Elab.async false
set_option linter.all false
set_option maxRecDepth 100000
set_option maxHeartbeats 4000000
namespace My
open PySem PySem.Spec PyProof.Rows L2 Gn
abbrev sIsInt : Stmt := top 6
abbrev sIsFr : Stmt := top 7
abbrev sIsStep : Stmt := top 8
abbrev sChStep : Stmt := top 10
abbrev sIsNum : Stmt := top 9
abbrev sChNum : Stmt := top 11
theorem scIsInt : FnScope ["given"] ["given"] (defScope sIsInt) := ⟨rfl, rfl, rfl, by decide +kernel, rfl, by decide +kernel, by decide +kernel⟩
theorem scIsFr : FnScope ["given", "top", "bottom"] ["given"] (defScope sIsFr) := ⟨rfl, rfl, rfl, by decide +kernel, rfl, by decide +kernel, by decide +kernel⟩
theorem scIsStep : FnScope ["given"] ["given"] (defScope sIsStep) := ⟨rfl, rfl, rfl, by decide +kernel, rfl, by decide +kernel, by decide +kernel⟩
theorem scChStep : FnScope ["given"] ["given"] (defScope sChStep) := ⟨rfl, rfl, rfl, by decide +kernel, rfl, by decide +kernel, by decide +kernel⟩
theorem scIsNum : FnScope ["given", "least", "most"] ["given", "least", "most"] (defScope sIsNum) := ⟨rfl, rfl, rfl, by decide +kernel, rfl, by decide +kernel, by decide +kernel⟩
theorem scChNum : FnScope ["given", "least", "most"] ["given", "least", "most"] (defScope sChNum) := ⟨rfl, rfl, rfl, by decide +kernel, rfl, by decide +kernel, by decide +kernel⟩
/-- the step x / y stands at t -/
def StepAt (H : Hp) (t : Addr) (x y : Int) : Prop := H t = some (.tup [.int x, .int y]) ∧ IsStep x y
def spIsInt : Sp := fun vs H Q _ => ∃ i : Int, vs = [.int i] ∧ Q (.bl true) H
def spIsSt (r : V) : Sp := fun vs H Q _ => ∃ (t : Addr) (x y : Int), vs = [.ref t] ∧ StepAt H t x y ∧ Q r H
def spChNum : Sp := fun vs H Q _ => ∃ (i a b : Int), vs = [.int i, .int a, .int b] ∧ a ≤ i ∧ i ≤ b ∧ Q .non H
def spIsNum : Sp := fun vs H Q _ => ∃ (i a b : Int), vs = [.int i, .int a, .int b] ∧ a ≤ i ∧ i ≤ b ∧ Q (.bl true) H
structure Bc (mg : Str → Option Value) : Prop where
  isi : mg "isinstance" = none
  int : mg "int" = none
  bool : mg "bool" = none
  tuple : mg "tuple" = none
  len : mg "len" = none
  gcd : mg "gcd" = some (.builtin "math.gcd")
section
variable {P : Program} {w : World} {K : PySem.W.Frag} {mg : Str → Option Value} {base : Heap}
theorem ok_isInt {f : Addr} {fd : FuncData} (F : Fun K "is_integer" "is_integer" sIsInt f fd) (B : Bc mg) : FnOk P w K mg base CX0 1 f fd ["given"] spIsInt := by
  refine F.ok scIsInt (fun vs H Q E h => ?_) (fun cdv A outer s H vs Q E hr h => ?_)
  · obtain ⟨i, rfl, _⟩ := h
    rfl
  · obtain ⟨i, rfl, q⟩ := h
    refine ⟨_, pss_one (ps_ret (pe_and (pe_callB call_isi (by rfl) B.isi (by decide +kernel) (pa_cons (pv 0) (pa_cons (pe_bltn (v := .ty "int") (by rfl) B.int (by decide +kernel) rfl) pa_nil)))
      (pe_one (pe_not (pe_callB call_isi (by rfl) B.isi (by decide +kernel) (pa_cons (pv 0) (pa_cons (pe_bltn (v := .ty "bool") (by rfl) B.bool (by decide +kernel) rfl) pa_nil))))))), ?_⟩
    refine ⟨_, rfl, .int i, .ty "int", _, _, true, rfl, .ty "int", .base (.int i), kit_ty (by decide +kernel), true, rfl, iteT ?_⟩
    exact ⟨_, rfl, .int i, .ty "bool", _, _, false, rfl, .ty "bool", .base (.int i), kit_ty (by decide +kernel), false, rfl, q⟩
theorem ok_isFr {f fI : Addr} {fd fdI : FuncData} (F : Fun K "is_fraction" "is_fraction" sIsFr f fd) (B : Bc mg) (D : Df K mg "is_integer" sIsInt ["given"] fI fdI) : FnOk P w K mg base CX0 2 f fd ["given"] (spIsSt (.bl true)) := by
  have GI : FnOk P w K mg base CX0 1 fI fdI ["given"] spIsInt := ok_isInt D.F B
  refine F.ok scIsFr (fun vs H Q E h => ?_) (fun cdv A outer s H vs Q E hr h => ?_)
  · obtain ⟨t, x, y, rfl, _⟩ := h
    rfl
  · obtain ⟨t, x, y, rfl, ⟨hT, st⟩, q⟩ := h
    refine ⟨_, pss_cons (ps_if (PW.pt (pw_or (pt_not (pt_val (pe_callB call_isi (by rfl) B.isi (by decide +kernel) (pa_cons (pv 0) (pa_cons (pe_bltn (v := .ty "tuple") (by rfl) B.tuple (by decide +kernel) rfl) pa_nil)))))
        (pw_or1 (pt_cmpR op_ne (pe_callB call_len_seq (by rfl) B.len PySem.boot_len (pa_cons (pv 0) pa_nil)) pe_int (nomark _))))) (pss_one (ps_ret pe_bl)) pss_nil)
      (pss_cons (ps_asg (pv 0) (pg_tup (by rfl) (pgs_cons (pg_name (i := 1) scIsFr.nd rfl (.inl rfl)) (pgs_cons (pg_name (i := 2) scIsFr.nd rfl (.inl rfl)) pgs_nil))))
      (pss_cons (ps_if (PW.pt (pw_or (pt_not (pt_val (pe_call GI hr (by rfl) D.g D.F.kp D.b .nil pass0 (pa_cons (pv 1) pa_nil)))) (pw_or1 (pt_not (pt_val (pe_call GI hr (by rfl) D.g D.F.kp D.b .nil pass0 (pa_cons (pv 2) pa_nil))))))) (pss_one (ps_ret pe_bl)) pss_nil)
      (pss_one (ps_ret (pe_and (pe_cmpR op_ge (pv 2) pe_int (nomark _)) (pe_one (pe_cmpR op_eq (pe_callBfun cr_gcd (by rfl) B.gcd (pa_cons (pv 1) (pa_cons (pv 2) pa_nil))) pe_int (nomark _)))))))), ?_⟩
    refine ⟨_, rfl, .ref t, .ty "tuple", _, _, true, rfl, .ty "tuple", .base (.tup hT), kit_ty (by decide +kernel), true, rfl, iteF ?_⟩
    refine ⟨_, rfl, t, _, rfl, .inr (SqT.of hT), rfl, _, rfl, iteF ?_⟩
    refine ⟨_, rfl, t, _, rfl, SqT.of hT, rfl, _, _, rfl, _, _, rfl, rfl, ?_⟩
    refine ⟨_, rfl, x, rfl, true, rfl, iteF ⟨_, rfl, y, rfl, true, rfl, iteF ?_⟩⟩
    have y1 : (1 : Int) ≤ y := by have := st.x0; have := st.xy; omega
    refine ⟨_, rfl, _, _, rfl, rfl, _, rfl, ?_⟩
    rw [decide_eq_true y1]
    refine iteT ⟨_, rfl, _, rfl, x, y, rfl, ?_⟩
    rw [st.co]
    exact ⟨rfl, q⟩
theorem ok_isStep {f fI fR : Addr} {fd fdI fdR : FuncData} (F : Fun K "is_step" "is_step" sIsStep f fd) (B : Bc mg) (D : Df K mg "is_integer" sIsInt ["given"] fI fdI) (R : Df K mg "is_fraction" sIsFr ["given"] fR fdR) : FnOk P w K mg base CX0 3 f fd ["given"] (spIsSt (.bl true)) := by
  have GR : FnOk P w K mg base CX0 2 fR fdR ["given"] (spIsSt (.bl true)) := ok_isFr R.F B D
  refine F.ok scIsStep (fun vs H Q E h => ?_) (fun cdv A outer s H vs Q E hr h => ?_)
  · obtain ⟨t, x, y, rfl, _⟩ := h
    rfl
  · obtain ⟨t, x, y, rfl, ⟨hT, st⟩, q⟩ := h
    refine ⟨_, pss_one (ps_ret (pe_and (pe_call GR hr (by rfl) R.g R.F.kp R.b .nil pass0 (pa_cons (pv 0) pa_nil)) (pe_one (pe_chain op_le op_lt pe_int (pe_ix ix_tup (pv 0) pe_int (fun _ _ => rfl)) (pe_ix ix_tup (pv 0) pe_int (fun _ _ => rfl)))))), ?_⟩
    refine ⟨_, rfl, t, x, y, rfl, ⟨hT, st⟩, true, rfl, iteT ?_⟩
    refine ⟨_, rfl, t, _, 0, .int x, rfl, rfl, SqT.of hT, at_of (j := 0) rfl rfl, _, _, rfl, rfl, _, rfl, ?_⟩
    rw [decide_eq_true st.x0]
    refine iteT ⟨_, rfl, t, _, 1, .int y, rfl, rfl, SqT.of hT, at_of (j := 1) rfl rfl, _, _, rfl, rfl, ?_⟩
    show Q (.bl (decide (x < y))) H
    rw [decide_eq_true st.xy]
    exact q
theorem ok_chStep {f fI fR fS : Addr} {fd fdI fdR fdS : FuncData} (F : Fun K "check_step" "check_step" sChStep f fd) (B : Bc mg) (D : Df K mg "is_integer" sIsInt ["given"] fI fdI) (R : Df K mg "is_fraction" sIsFr ["given"] fR fdR) (S : Df K mg "is_step" sIsStep ["given"] fS fdS) : FnOk P w K mg base CX0 4 f fd ["given"] (spIsSt .non) := by
  have GS : FnOk P w K mg base CX0 3 fS fdS ["given"] (spIsSt (.bl true)) := ok_isStep S.F B D R
  refine F.ok scChStep (fun vs H Q E h => ?_) (fun cdv A outer s H vs Q E hr h => ?_)
  · obtain ⟨t, x, y, rfl, _⟩ := h
    rfl
  · obtain ⟨t, x, y, rfl, st, q⟩ := h
    refine ⟨_, pss_one (ps_if (pt_not (pt_val (pe_call GS hr (by rfl) S.g S.F.kp S.b .nil pass0 (pa_cons (pv 0) pa_nil)))) (pss_one (ps_never)) pss_nil), ?_⟩
    exact ⟨_, rfl, t, x, y, rfl, st, true, rfl, iteF q⟩
theorem ok_isNum {f fI : Addr} {fd fdI : FuncData} (F : Fun K "is_number" "is_number" sIsNum f fd) (B : Bc mg) (D : Df K mg "is_integer" sIsInt ["given"] fI fdI) : FnOk P w K mg base CX0 2 f fd ["given", "least", "most"] spIsNum := by
  have GI : FnOk P w K mg base CX0 1 fI fdI ["given"] spIsInt := ok_isInt D.F B
  refine F.ok scIsNum (fun vs H Q E h => ?_) (fun cdv A outer s H vs Q E hr h => ?_)
  · obtain ⟨i, a, b, rfl, _⟩ := h
    rfl
  · obtain ⟨i, a, b, rfl, h1, h2, q⟩ := h
    refine ⟨_, pss_one (ps_ret (pe_and (pe_call GI hr (by rfl) D.g D.F.kp D.b .nil pass0 (pa_cons (pv 0) pa_nil)) (pe_one (pe_chain op_le op_le (pv 1) (pv 0) (pv 2))))), ?_⟩
    refine ⟨_, rfl, i, rfl, true, rfl, iteT ?_⟩
    refine ⟨_, rfl, _, rfl, _, _, rfl, rfl, _, rfl, ?_⟩
    rw [decide_eq_true h1]
    refine iteT ⟨_, rfl, _, _, rfl, rfl, ?_⟩
    show Q (.bl (decide (i ≤ b))) H
    rw [decide_eq_true h2]
    exact q
theorem ok_chNum {f fN fI : Addr} {fd fdN fdI : FuncData} (F : Fun K "check_number" "check_number" sChNum f fd) (B : Bc mg) (D : Df K mg "is_integer" sIsInt ["given"] fI fdI) (N : Df K mg "is_number" sIsNum ["given", "least", "most"] fN fdN) : FnOk P w K mg base CX0 3 f fd ["given", "least", "most"] spChNum := by
  have GN : FnOk P w K mg base CX0 2 fN fdN ["given", "least", "most"] spIsNum := ok_isNum N.F B D
  refine F.ok scChNum (fun vs H Q E h => ?_) (fun cdv A outer s H vs Q E hr h => ?_)
  · obtain ⟨i, a, b, rfl, _⟩ := h
    rfl
  · obtain ⟨i, a, b, rfl, h1, h2, q⟩ := h
    refine ⟨_, pss_one (ps_if (pt_not (pt_val (pe_call GN hr (by rfl) N.g N.F.kp N.b .nil pass0 (pa_cons (pv 0) (pa_cons (pv 1) (pa_cons (pv 2) pa_nil)))))) (pss_one (ps_never)) pss_nil), ?_⟩
    exact ⟨_, rfl, _, rfl, _, rfl, i, a, b, rfl, h1, h2, true, rfl, iteF q⟩
end
end My
set_option Elab.async false
set_option linter.all false
set_option maxRecDepth 100000
set_option maxHeartbeats 4000000
namespace My
open PySem PySem.Spec PyProof.Rows L2 Gn Mt
abbrev sOrder : Stmt := top 23
theorem scOrder : FnScope ["step", "count", "top", "bottom", "standing", "mark", "at"] ["step", "count"] (defScope sOrder) := ⟨rfl, rfl, rfl, by decide +kernel, rfl, by decide +kernel, by decide +kernel⟩
/-- data lasts while nothing tracked changes -/
theorem sqT_same {H H' : Hp} {a : Addr} {xs : List V} {K : PySem.W.Frag} (e : Same H H') (h : SqT K H a xs) : SqT K H' a xs := by
  rcases h with (h | ⟨o, h⟩) | h
  · exact .inl (.inl (e _ _ h))
  · exact .inl (.inr ⟨o, e _ _ h⟩)
  · exact .inr h
mutual
theorem dp_same {K : PySem.W.Frag} {H H' : Hp} (e : Same H H') : ∀ (d : PyData) (v : V), Dp K H v d → Dp K H' v d
  | .none, _, h => by cases h; exact .non
  | .bool b, _, h => by cases h; exact .bl b
  | .int i, _, h => by cases h; exact .int i
  | .str x, _, h => by cases h; exact .str x
  | .list ds, _, h => by cases h with | lst a b => exact .lst (e.seq a) (dps_same e ds _ b)
  | .tuple ds, _, h => by cases h with | tup a b => exact .tup (sqT_same e a) (dps_same e ds _ b)
  | .dict _, _, h => by cases h
theorem dps_same {K : PySem.W.Frag} {H H' : Hp} (e : Same H H') : ∀ (ds : List PyData) (vs : List V), DpAll K H vs ds → DpAll K H' vs ds
  | [], _, h => by cases h; exact .nil
  | d :: ds, _, h => by cases h with | cons a b => exact .cons (dp_same e d _ a) (dps_same e ds _ b)
end
theorem dp_ints {K : PySem.W.Frag} {H : Hp} : ∀ ns : List Int, DpAll K H (ns.map V.int) (ns.map PyData.int)
  | [] => .nil
  | n :: ns => .cons (.int n) (dp_ints ns)
/-- tuples of ints stand at these addresses, as these lists tell -/
def Tups (H : Hp) : List Addr → List (List Int) → Prop
  | [], [] => True
  | r :: rs, g :: gs => H r = some (.tup (g.map V.int)) ∧ Tups H rs gs
  | _, _ => False
theorem Tups.mono {H H' : Hp} : ∀ {rs : List Addr} {gs : List (List Int)}, Tups H rs gs → (∀ r g, H r = some (.tup g) → H' r = some (.tup g)) → Tups H' rs gs
  | [], [], _, _ => trivial
  | _ :: _, _ :: _, h, k => ⟨k _ _ h.1, h.2.mono k⟩
  | [], _ :: _, h, _ => h.elim
  | _ :: _, [], h, _ => h.elim
theorem Tups.snoc {H : Hp} {r : Addr} {g : List Int} (hr : H r = some (.tup (g.map V.int))) : ∀ {rs : List Addr} {gs : List (List Int)}, Tups H rs gs → Tups H (rs ++ [r]) (gs ++ [g])
  | [], [], _ => ⟨hr, trivial⟩
  | _ :: _, _ :: _, h => ⟨h.1, Tups.snoc hr h.2⟩
  | [], _ :: _, h => h.elim
  | _ :: _, [], h => h.elim
theorem Tups.len {H : Hp} : ∀ {rs : List Addr} {gs : List (List Int)}, Tups H rs gs → rs.length = gs.length
  | [], [], _ => rfl
  | _ :: _, _ :: _, h => congrArg Nat.succ h.2.len
  | [], _ :: _, h => h.elim
  | _ :: _, [], h => h.elim
theorem Tups.dps {K : PySem.W.Frag} {H : Hp} : ∀ {rs : List Addr} {gs : List (List Int)}, Tups H rs gs → DpAll K H (rs.map V.ref) (gs.map fun g => PyData.tuple (g.map PyData.int))
  | [], [], _ => .nil
  | _ :: _, _ :: _, h => .cons (.tup (SqT.of h.1) (dp_ints _)) h.2.dps
  | [], _ :: _, h => h.elim
  | _ :: _, [], h => h.elim
/-- an order as data -/
def ordD (gs : List (List Int)) : PyData := .tuple (gs.map fun g => PyData.tuple (g.map PyData.int))
/-- an order stands at r: a tuple of tuples of ints -/
def OrdAt (H : Hp) (r : Addr) (gs : List (List Int)) : Prop := ∃ rs : List Addr, H r = some (.tup (rs.map V.ref)) ∧ Tups H rs gs
theorem OrdAt.dp {K : PySem.W.Frag} {H : Hp} {r : Addr} {gs : List (List Int)} (h : OrdAt H r gs) : Dp K H (.ref r) (ordD gs) := by
  obtain ⟨rs, h1, h2⟩ := h
  exact .tup (SqT.of h1) h2.dps
theorem OrdAt.same {H H' : Hp} {r : Addr} {gs : List (List Int)} (h : OrdAt H r gs) (e : Same H H') : OrdAt H' r gs := by
  obtain ⟨rs, h1, h2⟩ := h
  exact ⟨rs, e _ _ h1, h2.mono fun r g z => e _ _ z⟩
def spOrder : Sp := fun vs H Q _ => ∃ (t : Addr) (x y n : Int), vs = [.ref t, .int n] ∧ StepAt H t x y ∧ 1 ≤ n ∧ n ≤ 60 ∧
  ∀ r H', Same H H' → H r = none → OrdAt H' r (ord (fun k => (x * k).fmod y) (iota n.toNat)) → Q (.ref r) H'
/-- what stands in the dict after some marks: places, lists of marks -/
structure Stand (f : Int → Int) (ms : List Int) (H : Hp) (d : Addr) (ps : List (Int × Addr)) : Prop where
  dc : H d = some (.dK (ps.map fun p => ((Sum.inl p.1 : Key), V.ref p.2)))
  n1 : (ps.map (·.1)).Nodup
  n2 : (ps.map (·.2)).Nodup
  ls : ∀ p ∈ ps, H p.2 = some (.lst ((grp f ms p.1).map V.int))
  me : ∀ v, v ∈ ps.map (·.1) ↔ v ∈ ms.map f
theorem val_of {ps : List (Int × Addr)} {k : Int} : valV (ps.map fun p => ((Sum.inl p.1 : Key), V.ref p.2)) (Sum.inl k) = (ps.find? fun p => p.1 == k).map fun p => V.ref p.2 := by
  induction ps with
  | nil => rfl
  | cons p ps ih =>
    rw [List.map_cons, List.find?_cons]
    unfold valV at ih ⊢
    by_cases h : p.1 = k
    · simp [h, List.find?_cons]
    · simp only [beq_eq_false_iff_ne.mpr h]
      rw [← ih]
      simp [List.find?_cons, h]
end My
set_option Elab.async false
set_option linter.all false
set_option maxRecDepth 100000
set_option maxHeartbeats 4000000
namespace My
open PySem PySem.Spec PyProof.Rows L2 Gn Mt
structure Bo (mg : Str → Option Value) : Prop where
  c : Bc mg
  range : mg "range" = none
  sorted : mg "sorted" = none
  mo : ∃ tk, mg "_MOST_ORDERED" = some (.int 60 tk)
theorem inl_dK {H : Hp} {d l : Addr} {kvs : List (Key × V)} {xs : List V} (h : H d = some (.dK kvs)) (h' : H l = some (.lst xs)) : l ≠ d := by
  rintro rfl
  rw [h] at h'; cases h'
/-- one mark more -/
theorem Stand.put {f : Int → Int} {ms : List Int} {H H' : Hp} {d : Addr} {ps : List (Int × Addr)} {k : Int} {p : Int × Addr} (S : Stand f ms H d ps) (hp : p ∈ ps) (e : p.1 = f k)
    (h1 : H' p.2 = some (.lst ((grp f ms p.1).map V.int ++ [V.int k]))) (h2 : ∀ b o, H b = some o → b ≠ p.2 → H' b = some o) : Stand f (ms ++ [k]) H' d ps := by
  refine ⟨h2 d _ S.dc fun z => ?_, S.n1, S.n2, fun q hq => ?_, fun v => ?_⟩
  · have := S.ls p hp
    rw [← z, S.dc] at this; cases this
  · by_cases c : q = p
    · subst c
      rw [h1, grp_snoc, if_pos e.symm, List.map_append]; rfl
    · have n1 : q.2 ≠ p.2 := fun z => c ((Mt.map_inj S.n2 hq hp z))
      have n2 : ¬ f k = q.1 := fun z => c ((Mt.map_inj S.n1 hq hp (e ▸ z.symm)))
      rw [h2 _ _ (S.ls q hq) n1, grp_snoc, if_neg n2]
  · rw [S.me v, List.map_append, List.mem_append]
    constructor
    · exact .inl
    · rintro (z | z)
      · exact z
      · rw [List.map_singleton, List.mem_singleton] at z
        rw [z, ← e]
        exact (S.me _).mp (List.mem_map.mpr ⟨p, hp, rfl⟩)
theorem Stand.new {f : Int → Int} {ms : List Int} {H H' : Hp} {d l : Addr} {ps : List (Int × Addr)} {k : Int} (S : Stand f ms H d ps) (hn : f k ∉ ps.map (·.1)) (hl : H l = none)
    (h0 : H' d = some (.dK (ps.map (fun p => ((Sum.inl p.1 : Key), V.ref p.2)) ++ [(Sum.inl (f k), V.ref l)]))) (h1 : H' l = some (.lst [V.int k])) (h2 : ∀ b o, H b = some o → b ≠ d → H' b = some o) : Stand f (ms ++ [k]) H' d (ps ++ [(f k, l)]) := by
  have ne : ∀ q ∈ ps, q.2 ≠ l := fun q hq z => by have := S.ls q hq; rw [z, hl] at this; cases this
  refine ⟨by rw [List.map_append]; exact h0, ?_, ?_, fun q hq => ?_, fun v => ?_⟩
  · rw [List.map_append]
    exact nd_snoc S.n1 hn
  · rw [List.map_append]
    refine nd_snoc S.n2 fun z => ?_
    obtain ⟨q, hq, e⟩ := List.mem_map.mp z
    exact ne q hq e
  · rcases List.mem_append.mp hq with z | z
    · have n2 : ¬ f k = q.1 := fun e => hn (List.mem_map.mpr ⟨q, z, e.symm⟩)
      have nd : q.2 ≠ d := fun e => by have := S.ls q z; rw [e, S.dc] at this; cases this
      rw [h2 _ _ (S.ls q z) nd, grp_snoc, if_neg n2]
    · obtain rfl := List.mem_singleton.mp z
      show H' l = _
      rw [h1, grp_snoc, if_pos rfl, grp_none fun z => hn ((S.me _).mpr z)]; rfl
  · rw [List.map_append, List.mem_append, S.me v, List.map_append, List.mem_append]
    exact Iff.rfl
section
variable {P : Program} {w : World} {K : PySem.W.Frag} {mg : Str → Option Value} {base : Heap}
theorem ok_order {f fI fR fS fC fN : Addr} {fd fdI fdR fdS fdC fdN : FuncData} (F : Fun K "order" "order" sOrder f fd) (B : Bo mg) (D : Df K mg "is_integer" sIsInt ["given"] fI fdI) (R : Df K mg "is_fraction" sIsFr ["given"] fR fdR) (S : Df K mg "is_step" sIsStep ["given"] fS fdS)
    (C : Df K mg "check_step" sChStep ["given"] fC fdC) (N : Df K mg "check_number" sChNum ["given", "least", "most"] fN fdN) {fM : Addr} {fdM : FuncData} (Nn : Df K mg "is_number" sIsNum ["given", "least", "most"] fM fdM) : FnOk P w K mg base CX0 5 f fd ["step", "count"] spOrder := by
  have GC : FnOk P w K mg base CX0 4 fC fdC ["given"] (spIsSt .non) := ok_chStep C.F B.c D R S
  have GN : FnOk P w K mg base CX0 3 fN fdN ["given", "least", "most"] spChNum := ok_chNum N.F B.c D Nn
  refine F.ok scOrder (fun vs H Q E h => ?_) (fun cdv A outer s H vs Q E hr h => ?_)
  · obtain ⟨t, x, y, n, rfl, _⟩ := h
    rfl
  · obtain ⟨t, x, y, n, rfl, ⟨hT, st⟩, n1, n2, q⟩ := h
    obtain ⟨tk, hmo⟩ := B.mo
    have hr3 : Room 3 _ := hr.mono (by decide)
    have hu := hu_of hr
    refine ⟨_, pss_cons (ps_expr (pe_call GC hr (by rfl) C.g C.F.kp C.b .nil pass0 (pa_cons (pv 0) pa_nil)))
      (pss_cons (ps_expr (pe_call GN hr3 (by rfl) N.g N.F.kp N.b .nil pass0 (pa_cons (pv 1) (pa_cons pe_int (pa_cons (pe_glob (v := .int 60) rfl hmo ⟨_, rfl⟩) pa_nil)))))
      (pss_cons (ps_asg (pv 0) (pg_tup (by rfl) (pgs_cons (pg_name (i := 2) scOrder.nd rfl (.inl rfl)) (pgs_cons (pg_name (i := 3) scOrder.nd rfl (.inl rfl)) pgs_nil))))
      (pss_cons (ps_set (i := 4) scOrder.nd rfl (.inr rfl) pe_dnewK)
      (pss_cons (ps_for PassesOwn.never rfl (pi_range1 rfl B.range (pa_cons (pv 1) pa_nil)) (pg_name (i := 5) scOrder.nd rfl (.inl rfl))
        (pss_one (ps_expr (pe_bm PySem.F.plainAttrs_list PySem.F.slot_list_append PySem.F.type_list_append mt_append
          (pe_dsetd (pv 4) (pe_op op_modN (pe_op op_mul (pv 2) (pv 5)) (pv 3)) (pe_lst pa_nil) ⟨rfl, rfl, rfl, rfl⟩) (pa_cons (pv 5) pa_nil)))))
      (pss_one (ps_ret (pe_callTy cr_tupL (by rfl) B.c.tuple (by decide +kernel) (pa_cons
        (pe_lc (te := tCB (rTupL K) (tCons (tDGet (tVar 4) (tVar 6)) tNil)) (own := [("at", 6)]) (g := gName 6) (tt := tYes) rfl scOrder.nd (pi_list (pe_callB (call_sortedDI rfl) (by rfl) B.sorted (by decide +kernel) (pa_cons (pv 4) pa_nil)))
          (blkOk_by (N := ["step", "count", "top", "bottom", "standing", "mark", "at"]) (sc := defScope sOrder) (by decide +kernel)) (fun _ _ _ _ _ => pg_name (i := 6) scOrder.nd rfl (.inl rfl)) (fun _ _ _ _ _ => pts_nil)
          (fun _ _ _ _ _ => pe_callTy cr_tupL (by rfl) B.c.tuple (by decide +kernel) (pa_cons (pe_dget hu (pv 4) (pv 6) (fun _ _ => rfl)) pa_nil))) pa_nil)))))))), ?_⟩
    have y1 : 0 < y := by have := st.x0; have := st.xy; omega
    -- check_step(step); check_number(count, 1, 60); top, bottom = step
    refine ⟨_, rfl, t, x, y, rfl, ⟨hT, st⟩, ?_⟩
    refine ⟨_, rfl, n, 1, 60, rfl, n1, n2, ?_⟩
    refine ⟨_, rfl, t, _, rfl, SqT.of hT, rfl, _, _, rfl, _, _, rfl, rfl, ?_⟩
    -- standing = {}
    intro d hd
    have s0 : Same H (upd H d (.dK [])) := same_put hd
    -- for mark in range(count)
    refine ⟨_, rfl, n, rfl, by omega, by omega, ?_⟩
    refine for_range (lo := 0) (n := n.toNat) (fun i σ H1 => ∃ (ps : List (Int × Addr)) (m : Option V), σ = [some (.ref t), some (.int n), some (.int x), some (.int y), some (.ref d), m, none] ∧ Same H H1 ∧ Stand (fun k => (x * k).fmod y) (iota i) H1 d ps ∧ (∀ p ∈ ps, H p.2 = none) ∧ ps.length ≤ i)
      ⟨[], none, rfl, s0, ⟨upd_same, List.nodup_nil, List.nodup_nil, (fun p hp => by simp at hp), (fun v => by simp [iota])⟩, (fun p hp => by simp at hp), Nat.le_refl _⟩ ?_ ?_
    · rintro i σ H1 hi ⟨ps, m, rfl, s1, T, hf, hl⟩
      rw [Int.zero_add]
      have hi' : (i : Int) < 60 := by omega
      refine ⟨_, rfl, d, rfl, .inl ⟨_, .inl T.dc⟩, _, rfl, _, rfl, _, _, rfl, rfl, .inr ⟨by omega, by omega⟩, _, rfl, _, _, rfl, rfl, (show y ≠ 0 by omega), Nat.zero_le _, fun l hl' => ?_⟩
      have hdl : d ≠ l := ne_of_none T.dc hl'
      have s2 : Same H1 (upd H1 l (.lst [])) := same_put hl'
      refine ⟨_, Sum.inl ((x * (i : Int)).fmod y), s2 _ _ T.dc, rfl, (by rw [List.length_map]; exact small1000 (by omega)), fun v hv => ?_, fun hn => ?_⟩
      · rw [val_of] at hv
        obtain ⟨p, hp, rfl⟩ := Option.map_eq_some_iff.mp hv
        have hm : p ∈ ps := List.mem_of_find?_eq_some hp
        have he : p.1 = (x * (i : Int)).fmod y := by simpa using List.find?_some hp
        have hL := s2 _ _ (T.ls p hm)
        refine ⟨.inl ⟨rfl, _, .inl (.inl hL)⟩, _, rfl, p.2, _, _, rfl, rfl, hL, ?_, ?_⟩
        · rw [List.length_map]
          exact small1000 (Nat.le_trans (List.length_filter_le _ _) (by rw [iota_len]; omega))
        · refine ⟨ps, _, rfl, fun b o e => ?_, ?_, hf, by omega⟩
          · rw [upd_ne (ne_of_none e (hf p hm))]
            exact s2 _ _ (s1 _ _ e)
          · rw [iota_succ]
            refine T.put hm he upd_same fun b o e hb => ?_
            rw [upd_ne hb]
            exact s2 _ _ e
      · have hk : (x * (i : Int)).fmod y ∉ ps.map (·.1) := fun z => by
          rw [val_of, Option.map_eq_none_iff, List.find?_eq_none] at hn
          obtain ⟨p, hp, e⟩ := List.mem_map.mp z
          exact hn p hp (by simpa using e)
        have hL : upd (upd H1 l (.lst [])) d (.dK (putK (ps.map fun p => ((Sum.inl p.1 : Key), V.ref p.2)) (Sum.inl ((x * (i : Int)).fmod y)) (.ref l))) l = some (.lst []) := by rw [upd_ne hdl.symm, upd_same]
        refine ⟨.inl ⟨rfl, _, .inl (.inl hL)⟩, _, rfl, l, _, _, rfl, rfl, hL, (by decide), ?_⟩
        have hln : H l = none := s1.free hl'
        refine ⟨ps ++ [((x * (i : Int)).fmod y, l)], _, rfl, fun b o e => ?_, ?_, fun p hp => ?_, by rw [List.length_append]; show ps.length + 1 ≤ i + 1; omega⟩
        · rw [upd_ne (ne_of_none e hln), upd_ne (ne_of_none e hd)]
          exact s2 _ _ (s1 _ _ e)
        · rw [iota_succ]
          refine T.new hk hl' ?_ upd_same fun b o e hb => ?_
          · rw [upd_ne hdl, upd_same, putK_new _ hn]
          · rw [upd_ne (ne_of_none e hl'), upd_ne hb]
            exact s2 _ _ e
        · rcases List.mem_append.mp hp with z | z
          · exact hf p z
          · obtain rfl := List.mem_singleton.mp z
            exact hln
    · rintro σ H1 ⟨ps, m, rfl, s1, T, hf, hl⟩
      refine ⟨_, rfl, d, _, ps.map (·.1), rfl, .inl T.dc, (by rw [List.map_map, List.map_map]; rfl), (by rw [List.length_map]; omega), fun ys p0 perm pw hp0 => ?_⟩
      have s2 : Same H1 (upd H1 p0 (.lst (ys.map V.int))) := same_put hp0
      have ey : ys = sortU ((iota n.toNat).map fun k => (x * k).fmod y) := strict_one (le_nodup_lt pw (perm.nodup_iff.mpr T.n1)) (sortU_pw _) fun v => by rw [perm.mem_iff, T.me v, sortU_mem]
      refine ⟨p0, rfl, ⟨_, .inl (.inl upd_same)⟩, fun D hD => ?_⟩
      have s3 : Same (upd H1 p0 (.lst (ys.map V.int))) (upd (upd H1 p0 (.lst (ys.map V.int))) D (.lst [])) := same_put hD
      refine lc_list (K := K) (a := p0) (xs := ys.map V.int) (fun j H2 => ∃ rs : List Addr, H2 D = some (.lst (rs.map V.ref)) ∧ Tups H2 rs ((ys.take j).map (grp (fun k => (x * k).fmod y) (iota n.toNat))) ∧ Same (upd H1 p0 (.lst (ys.map V.int))) H2)
        ⟨[], upd_same, trivial, s3⟩ (fun j H2 _ ⟨rs, _, _, e⟩ => .inl (.inl (e _ _ upd_same))) ?_ ?_
      · rintro j v H2 hj ⟨rs, h1, h2, h3⟩
        rw [List.getElem?_map] at hj
        obtain ⟨u, hu, rfl⟩ := Option.map_eq_some_iff.mp hj
        have hm : u ∈ ps.map (·.1) := perm.mem_iff.mp (List.mem_of_getElem? hu)
        obtain ⟨p, hp⟩ : ∃ p, ps.find? (fun p => p.1 == u) = some p := by
          cases e : ps.find? (fun p => p.1 == u) with
          | some p => exact ⟨p, rfl⟩
          | none =>
            rw [List.find?_eq_none] at e
            obtain ⟨p, hp, z⟩ := List.mem_map.mp hm
            exact absurd (by simpa using z) (e p hp)
        have hpm : p ∈ ps := List.mem_of_find?_eq_some hp
        have hpe : p.1 = u := by simpa using List.find?_some hp
        have hd2 := h3 _ _ (s2 _ _ T.dc)
        have hL := h3 _ _ (s2 _ _ (T.ls p hpm))
        refine ⟨rfl, _, rfl, _, rfl, d, .ref p.2, rfl, ?_, p.2, _, rfl, SqL.of hL, fun r hr => ?_⟩
        · have z := DGet.k (k := Sum.inl u) hd2
          rw [val_of, hp] at z
          exact z
        · have hrD : D ≠ r := ne_of_none h1 hr
          refine ⟨rs.map V.ref, (by rw [upd_ne hrD]; exact h1), ?_, rs ++ [r], (by rw [upd_same, List.map_append]; rfl), ?_, fun b o e => ?_⟩
          · rw [List.length_map, h2.len, List.length_map, List.length_take]
            exact small1000 (by have := perm.length_eq; rw [List.length_map] at this; omega)
          · rw [List.take_add_one, hu, List.map_append]
            refine Tups.snoc ?_ (h2.mono fun r' g e => ?_)
            · rw [upd_ne hrD.symm, upd_same, hpe]
            · have n1 : r' ≠ D := ne_of e h1 (by intro z; cases z)
              rw [upd_ne n1, upd_ne (ne_of_none e hr)]
              exact e
          · have e2 := h3 _ _ e
            rw [upd_ne (ne_of_none e hD), upd_ne (ne_of_none e2 hr)]
            exact e2
      · rintro H2 ⟨rs, h1, h2, h3⟩
        refine ⟨D, _, rfl, SqL.of h1, fun r hr => ?_⟩
        have s4 : Same H2 (upd H2 r (.tup (rs.map V.ref))) := same_put hr
        refine q r _ (((s1.trans s2).trans h3).trans s4) (((s1.trans s2).trans h3).free hr) ⟨rs, upd_same, ?_⟩
        rw [List.length_map, List.take_length, ey] at h2
        exact h2.mono fun r' g e => s4 _ _ e
end
end My
set_option Elab.async false
set_option linter.all false
set_option maxRecDepth 100000
set_option maxHeartbeats 4000000
namespace My
open PySem PySem.Spec PyProof.Rows L2 Gn Mt
/-! ranks: the marks beside 0, the next and the last one -/
abbrev sNext : Stmt := top 14
abbrev sLast : Stmt := top 15
abbrev sBehind : Stmt := top 16
abbrev sChCount : Stmt := top 17
abbrev sChMark : Stmt := top 18
abbrev sMany : Stmt := top 19
abbrev sBeside : Stmt := top 20
theorem scNext : FnScope ["step", "count", "mark", "many", "first", "last"] ["step", "count", "mark"] (defScope sNext) := ⟨rfl, rfl, rfl, by decide +kernel, rfl, by decide +kernel, by decide +kernel⟩
theorem scLast : FnScope ["step", "count", "mark", "many", "first", "last"] ["step", "count", "mark"] (defScope sLast) := ⟨rfl, rfl, rfl, by decide +kernel, rfl, by decide +kernel, by decide +kernel⟩
theorem scBehind : FnScope ["mark", "many", "first", "last"] ["mark", "many", "first", "last"] (defScope sBehind) := ⟨rfl, rfl, rfl, by decide +kernel, rfl, by decide +kernel, by decide +kernel⟩
theorem scChCount : FnScope ["step", "count"] ["step", "count"] (defScope sChCount) := ⟨rfl, rfl, rfl, by decide +kernel, rfl, by decide +kernel, by decide +kernel⟩
theorem scChMark : FnScope ["step", "count", "mark"] ["step", "count", "mark"] (defScope sChMark) := ⟨rfl, rfl, rfl, by decide +kernel, rfl, by decide +kernel, by decide +kernel⟩
theorem scMany : FnScope ["step", "count"] ["step", "count"] (defScope sMany) := ⟨rfl, rfl, rfl, by decide +kernel, rfl, by decide +kernel, by decide +kernel⟩
theorem scBeside : FnScope ["step", "many", "top", "bottom", "low", "far_low", "high", "far_high", "times"] ["step", "many"] (defScope sBeside) := ⟨rfl, rfl, rfl, by decide +kernel, rfl, by decide +kernel, by decide +kernel⟩
theorem min_if {i j : Int} : (if j < i then j else i) = min i j := by
  rw [Int.min_def]; split <;> split <;> omega
theorem step_pos {x y : Int} (st : IsStep x y) (h : 2 ≤ y) : 0 < x := by
  have x0 := st.x0
  rcases Int.lt_or_eq_of_le x0 with c | c
  · exact c
  · have co := st.co
    rw [← c] at co
    rw [Int.natAbs_zero, Nat.gcd_zero_left] at co
    omega
def spChCount : Sp := fun vs H Q _ => ∃ (t : Addr) (x y n : Int), vs = [.ref t, .int n] ∧ StepAt H t x y ∧ 1 ≤ n ∧ n ≤ 10 ^ 30 ∧ Q .non H
def spChMark : Sp := fun vs H Q _ => ∃ (t : Addr) (x y n k : Int), vs = [.ref t, .int n, .int k] ∧ StepAt H t x y ∧ 1 ≤ n ∧ n ≤ 10 ^ 30 ∧ 0 ≤ k ∧ k < n ∧ Q .non H
def spMany : Sp := fun vs H Q _ => ∃ (t : Addr) (x y n : Int), vs = [.ref t, .int n] ∧ StepAt H t x y ∧ Q (.int (min n y)) H
def spBehind : Sp := fun vs H Q _ => ∃ (k n a b : Int), vs = [.int k, .int n, .int a, .int b] ∧ Q (.int (behind n a b k)) H
def spBeside : Sp := fun vs H Q _ => ∃ (t : Addr) (x y n : Int), vs = [.ref t, .int n] ∧ StepAt H t x y ∧ y.natAbs < 2 ^ 100 ∧ 2 ≤ n ∧ n ≤ y ∧
  ∀ low fl high fh p q r H', Side x y n low fl high fh p q → n ≤ low + high → Same H H' → H r = none → H' r = some (.tup [.int low, .int high]) → Q (.ref r) H'
def spNext : Sp := fun vs H Q _ => ∃ (t : Addr) (x y n k : Int), vs = [.ref t, .int n, .int k] ∧ StepAt H t x y ∧ y.natAbs < 2 ^ 100 ∧ 1 ≤ n ∧ n ≤ 10 ^ 30 ∧ 2 ≤ y ∧ 2 ≤ n ∧ 0 ≤ k ∧ k < n ∧
  ∀ m H', Same H H' → Nx (fun k => x * k % y) (min n y) (k % y) m → Q (.int m) H'
def spLast : Sp := fun vs H Q _ => ∃ (t : Addr) (x y n k : Int), vs = [.ref t, .int n, .int k] ∧ StepAt H t x y ∧ y.natAbs < 2 ^ 100 ∧ 1 ≤ n ∧ n ≤ 10 ^ 30 ∧ 2 ≤ y ∧ 2 ≤ n ∧ 0 ≤ k ∧ k < n ∧
  ∀ m H', Same H H' → Pv (fun k => x * k % y) (min n y) (k % y) m → Q (.int m) H'
section
variable {P : Program} {w : World} {K : PySem.W.Frag} {mg : Str → Option Value} {base : Heap}
/-- what ranks asks of the module -/
structure Rk (K : PySem.W.Frag) (mg : Str → Option Value) where
  c : Bc mg
  min : mg "min" = none
  mc : ∃ tk, mg "MOST_COUNT" = some (.int (10 ^ 30) tk)
  fi : Addr × FuncData
  fr : Addr × FuncData
  fs : Addr × FuncData
  fc : Addr × FuncData
  fm : Addr × FuncData
  fn : Addr × FuncData
  gb : Addr × FuncData
  gc : Addr × FuncData
  gk : Addr × FuncData
  gm : Addr × FuncData
  gz : Addr × FuncData
  di : Df K mg "is_integer" sIsInt ["given"] fi.1 fi.2
  dr : Df K mg "is_fraction" sIsFr ["given"] fr.1 fr.2
  ds : Df K mg "is_step" sIsStep ["given"] fs.1 fs.2
  dc : Df K mg "check_step" sChStep ["given"] fc.1 fc.2
  dm : Df K mg "is_number" sIsNum ["given", "least", "most"] fm.1 fm.2
  dn : Df K mg "check_number" sChNum ["given", "least", "most"] fn.1 fn.2
  eb : Df K mg "mark_behind" sBehind ["mark", "many", "first", "last"] gb.1 gb.2
  ec : Df K mg "_check_count" sChCount ["step", "count"] gc.1 gc.2
  ek : Df K mg "_check_mark" sChMark ["step", "count", "mark"] gk.1 gk.2
  em : Df K mg "_how_many_places" sMany ["step", "count"] gm.1 gm.2
  ez : Df K mg "_beside_zero" sBeside ["step", "many"] gz.1 gz.2
theorem ok_chCount {f : Addr} {fd : FuncData} (F : Fun K "_check_count" "_check_count" sChCount f fd) (M : Rk K mg) : FnOk P w K mg base CX0 5 f fd ["step", "count"] spChCount := by
  have GC : FnOk P w K mg base CX0 4 M.fc.1 M.fc.2 ["given"] (spIsSt .non) := ok_chStep M.dc.F M.c M.di M.dr M.ds
  have GN : FnOk P w K mg base CX0 3 M.fn.1 M.fn.2 ["given", "least", "most"] spChNum := ok_chNum M.dn.F M.c M.di M.dm
  refine F.ok scChCount (fun vs H Q E h => ?_) (fun cdv A outer s H vs Q E hr h => ?_)
  · obtain ⟨t, x, y, n, rfl, _⟩ := h
    rfl
  · obtain ⟨t, x, y, n, rfl, st, n1, n2, q⟩ := h
    obtain ⟨tk, hmc⟩ := M.mc
    have hr3 : Room 3 _ := hr.mono (by decide)
    refine ⟨_, pss_cons (ps_expr (pe_call GC hr (by rfl) M.dc.g M.dc.F.kp M.dc.b .nil pass0 (pa_cons (pv 0) pa_nil)))
      (pss_one (ps_expr (pe_call GN hr3 (by rfl) M.dn.g M.dn.F.kp M.dn.b .nil pass0 (pa_cons (pv 1) (pa_cons pe_int (pa_cons (pe_glob (v := .int (10 ^ 30)) rfl hmc ⟨_, rfl⟩) pa_nil)))))), ?_⟩
    exact ⟨_, rfl, t, x, y, rfl, st, _, rfl, n, 1, 10 ^ 30, rfl, n1, n2, q⟩
theorem ok_chMark {f : Addr} {fd : FuncData} (F : Fun K "_check_mark" "_check_mark" sChMark f fd) (M : Rk K mg) : FnOk P w K mg base CX0 6 f fd ["step", "count", "mark"] spChMark := by
  have GC : FnOk P w K mg base CX0 5 M.gc.1 M.gc.2 ["step", "count"] spChCount := ok_chCount M.ec.F M
  have GN : FnOk P w K mg base CX0 3 M.fn.1 M.fn.2 ["given", "least", "most"] spChNum := ok_chNum M.dn.F M.c M.di M.dm
  refine F.ok scChMark (fun vs H Q E h => ?_) (fun cdv A outer s H vs Q E hr h => ?_)
  · obtain ⟨t, x, y, n, k, rfl, _⟩ := h
    rfl
  · obtain ⟨t, x, y, n, k, rfl, st, n1, n2, k0, k1, q⟩ := h
    have hr3 : Room 3 _ := hr.mono (by decide)
    refine ⟨_, pss_cons (ps_expr (pe_call GC hr (by rfl) M.ec.g M.ec.F.kp M.ec.b .nil pass0 (pa_cons (pv 0) (pa_cons (pv 1) pa_nil))))
      (pss_one (ps_expr (pe_call GN hr3 (by rfl) M.dn.g M.dn.F.kp M.dn.b .nil pass0 (pa_cons (pv 2) (pa_cons pe_int (pa_cons (pe_op op_sub (pv 1) pe_int) pa_nil)))))), ?_⟩
    exact ⟨_, rfl, _, rfl, t, x, y, n, rfl, st, n1, n2, _, rfl, _, rfl, _, _, rfl, rfl, k, 0, n - 1, rfl, k0, by omega, q⟩
theorem ok_many {f : Addr} {fd : FuncData} (F : Fun K "_how_many_places" "_how_many_places" sMany f fd) (M : Rk K mg) : FnOk P w K mg base CX0 1 f fd ["step", "count"] spMany := by
  refine F.ok scMany (fun vs H Q E h => ?_) (fun cdv A outer s H vs Q E hr h => ?_)
  · obtain ⟨t, x, y, n, rfl, _⟩ := h
    rfl
  · obtain ⟨t, x, y, n, rfl, ⟨hT, st⟩, q⟩ := h
    refine ⟨_, pss_one (ps_ret (pe_callB (call_min2 rfl) (by rfl) M.min (by decide +kernel) (pa_cons (pv 1) (pa_cons (pe_ix ix_tup (pv 0) pe_int (fun _ _ => rfl)) pa_nil)))), ?_⟩
    refine ⟨_, rfl, _, rfl, t, _, 1, .int y, rfl, rfl, SqT.of hT, at_of (j := 1) rfl rfl, _, _, rfl, ?_⟩
    rw [min_if]
    exact q
theorem ok_behind {f : Addr} {fd : FuncData} (F : Fun K "mark_behind" "mark_behind" sBehind f fd) : FnOk P w K mg base CX0 1 f fd ["mark", "many", "first", "last"] spBehind := by
  refine F.ok scBehind (fun vs H Q E h => ?_) (fun cdv A outer s H vs Q E hr h => ?_)
  · obtain ⟨k, n, a, b, rfl, _⟩ := h
    rfl
  · obtain ⟨k, n, a, b, rfl, q⟩ := h
    refine ⟨_, pss_cons (ps_if (pt_cmpR op_lt (pv 0) (pe_op op_sub (pv 1) (pv 2)) (nomark _)) (pss_one (ps_ret (pe_op op_add (pv 0) (pv 2)))) pss_nil)
      (pss_cons (ps_if (pt_cmpR op_ge (pv 0) (pv 3) (nomark _)) (pss_one (ps_ret (pe_op op_sub (pv 0) (pv 3)))) pss_nil)
      (pss_one (ps_ret (pe_op op_sub (pe_op op_add (pv 0) (pv 2)) (pv 3))))), ?_⟩
    unfold behind at q
    refine ⟨_, rfl, _, rfl, _, rfl, _, _, rfl, rfl, _, _, rfl, rfl, _, rfl, ?_⟩
    refine ite2 (fun hc => ?_) (fun hc => ?_)
    · rw [if_pos (of_decide_eq_true hc)] at q
      exact ⟨_, rfl, _, rfl, _, _, rfl, rfl, q⟩
    · rw [if_neg (fun z => hc (decide_eq_true z))] at q
      refine ⟨_, rfl, _, rfl, _, _, rfl, rfl, _, rfl, ?_⟩
      refine ite2 (fun hd => ?_) (fun hd => ?_)
      · rw [if_pos (of_decide_eq_true hd)] at q
        exact ⟨_, rfl, _, rfl, _, _, rfl, rfl, q⟩
      · rw [if_neg (fun z => hd (decide_eq_true z))] at q
        exact ⟨_, rfl, _, rfl, _, _, rfl, rfl, _, rfl, _, _, rfl, rfl, q⟩
theorem ok_beside {f : Addr} {fd : FuncData} (F : Fun K "_beside_zero" "_beside_zero" sBeside f fd) (M : Rk K mg) : FnOk P w K mg base CX0 1 f fd ["step", "many"] spBeside := by
  refine F.ok scBeside (fun vs H Q E h => ?_) (fun cdv A outer s H vs Q E hr h => ?_)
  · obtain ⟨t, x, y, n, rfl, _⟩ := h
    rfl
  · obtain ⟨t, x, y, n, rfl, ⟨hT, st⟩, yb, n2, ny, q⟩ := h
    refine ⟨_, pss_cons (ps_asg (pv 0) (pg_tup (by rfl) (pgs_cons (pg_name (i := 2) scBeside.nd rfl (.inl rfl)) (pgs_cons (pg_name (i := 3) scBeside.nd rfl (.inl rfl)) pgs_nil))))
      (pss_cons (ps_asg (pe_tup (pa_cons pe_int (pa_cons (pv 2) (pa_cons pe_int (pa_cons (pe_op op_sub (pv 3) (pv 2)) pa_nil)))))
        (pg_tup (by rfl) (pgs_cons (pg_name (i := 4) scBeside.nd rfl (.inl rfl)) (pgs_cons (pg_name (i := 5) scBeside.nd rfl (.inl rfl)) (pgs_cons (pg_name (i := 6) scBeside.nd rfl (.inl rfl)) (pgs_cons (pg_name (i := 7) scBeside.nd rfl (.inl rfl)) pgs_nil))))))
      (pss_cons (ps_while PassesOwn.never (pt_cmpR op_lt (pe_op op_add (pv 4) (pv 6)) (pv 1) (nomark _))
        (pss_cons (ps_set (i := 8) scBeside.nd rfl (.inl rfl) (pe_callB (call_min2 rfl) (by rfl) M.min (by decide +kernel) (pa_cons (pe_op op_fdivW (pv 5) (pv 7)) (pa_cons (pe_op op_fdivW (pe_op op_sub (pe_op op_sub (pv 1) pe_int) (pv 4)) (pv 6)) pa_nil))))
        (pss_cons (ps_par (i := 4) (j := 5) (by rfl) scBeside.nd rfl rfl (by decide) rfl rfl (pa_cons (pe_op op_add (pv 4) (pe_op op_mulW (pv 8) (pv 6))) (pa_cons (pe_op op_sub (pv 5) (pe_op op_mulW (pv 8) (pv 7))) pa_nil)) (by rfl))
        (pss_cons (ps_set (i := 8) scBeside.nd rfl (.inl rfl) (pe_callB (call_min2 rfl) (by rfl) M.min (by decide +kernel) (pa_cons (pe_op op_fdivW (pv 7) (pv 5)) (pa_cons (pe_op op_fdivW (pe_op op_sub (pe_op op_sub (pv 1) pe_int) (pv 6)) (pv 4)) pa_nil))))
        (pss_one (ps_par (i := 6) (j := 7) (by rfl) scBeside.nd rfl rfl (by decide) rfl rfl (pa_cons (pe_op op_add (pv 6) (pe_op op_mulW (pv 8) (pv 4))) (pa_cons (pe_op op_sub (pv 7) (pe_op op_mulW (pv 8) (pv 5))) pa_nil)) (by rfl)))))))
      (pss_one (ps_ret (pe_tup (pa_cons (pv 4) (pa_cons (pv 6) pa_nil))))))), ?_⟩
    have x0 := step_pos st (by omega)
    have co := st.co
    refine ⟨_, rfl, t, _, rfl, SqT.of hT, rfl, _, _, rfl, _, _, rfl, rfl, ?_⟩
    refine ⟨_, rfl, _, rfl, _, rfl, _, _, rfl, rfl, (by show 4 ≤ sizeLine; decide), fun l hl => ?_⟩
    have s1 : Same H (upd H l (.tup [.int 1, .int x, .int 1, .int (y - x)])) := same_put hl
    refine ⟨l, _, rfl, SqT.of upd_same, rfl, _, _, rfl, _, _, rfl, _, _, rfl, _, _, rfl, rfl, ?_⟩
    refine while_by (fun σ H' => ∃ (low fl high fh : Int) (tm : Option V), σ = [some (.ref t), some (.int n), some (.int x), some (.int y), some (.int low), some (.int fl), some (.int high), some (.int fh), tm] ∧ (∃ p q, Side x y n low fl high fh p q) ∧ H' = upd H l (.tup [.int 1, .int x, .int 1, .int (y - x)]))
      (fun σ _ => match σ with | [_, some (.int n), _, _, some (.int lo), _, some (.int hi), _, _] => (2 * n - lo - hi).toNat | _ => 0) ⟨1, x, 1, y - x, none, rfl, ⟨0, 1, Side.start x0 st.xy n2⟩, rfl⟩ ?_ ?_
    · rintro σ H' ⟨low, fl, high, fh, tm, rfl, ⟨p, p', S⟩, rfl⟩
      have l0 := S.l0
      have l1 := S.l1
      have h0 := S.h0
      have h1 := S.h1
      have f0 := S.fl0
      have f1 := S.fh0
      have fy := S.fly
      refine ⟨_, rfl, _, rfl, _, _, rfl, rfl, _, rfl, _, _, rfl, rfl, _, rfl, ?_⟩
      refine ite2 (fun hc => ?_) (fun hc => ?_)
      · have go : low + high < n := of_decide_eq_true hc
        have big : ∀ k : Int, 0 ≤ k → k ≤ y → k.natAbs < 2 ^ 100 := fun k a b => Nat.lt_of_le_of_lt (show k.natAbs ≤ y.natAbs by omega) yb
        obtain ⟨w1, w2, w3, w4⟩ := times_ok (a := fl) (c := n - 1 - low) f1 h0 (by omega) (by omega)
        refine ⟨_, rfl, _, rfl, _, _, rfl, rfl, wide_div f1 (big fh (by omega) (by omega)) (by decide) (by decide), _, rfl, _, _, rfl, rfl, _, rfl, _, _, rfl, rfl, _, rfl, _, _, rfl, rfl, wide_div h0 (big high (by omega) (by omega)) (by decide) (by decide), _, _, rfl, ?_⟩
        rw [min_if]
        have T := S.turn co ny go rfl rfl
        have b1 : min (fl / fh) ((n - 1 - low) / high) ≤ fl := by
          have := Int.mul_le_mul_of_nonneg_left (show 1 ≤ fh by omega) w1
          omega
        have S1 := S.low co ny w1 w2 w3
        generalize min (fl / fh) ((n - 1 - low) / high) = t1 at *
        have l2 := S1.l0
        have l3 := S1.l1
        have g0 := S1.fl0
        have gy := S1.fly
        refine ⟨_, rfl, _, rfl, _, rfl, _, _, rfl, rfl, wide_mul (big t1 w1 (by omega)) (big high (by omega) (by omega)) (by decide) (by decide) (by decide), _, _, rfl, rfl, _, rfl, _, rfl, _, rfl, _, _, rfl, rfl, wide_mul (big t1 w1 (by omega)) (big fh (by omega) (by omega)) (by decide) (by decide) (by decide), _, _, rfl, rfl, _, _, rfl, ?_⟩
        obtain ⟨v1, v2, v3, v4⟩ := times_ok (a := fh) (c := n - 1 - high) g0 l2 (by omega) (by omega)
        refine ⟨_, rfl, _, rfl, _, _, rfl, rfl, wide_div g0 (big (fl - t1 * fh) (by omega) (by omega)) (by decide) (by decide), _, rfl, _, _, rfl, rfl, _, rfl, _, _, rfl, rfl, _, rfl, _, _, rfl, rfl, wide_div l2 (big (low + t1 * high) (by omega) (by omega)) (by decide) (by decide), _, _, rfl, ?_⟩
        rw [min_if]
        have b2 : min (fh / (fl - t1 * fh)) ((n - 1 - high) / (low + t1 * high)) ≤ fh := by
          have := Int.mul_le_mul_of_nonneg_left (show 1 ≤ fl - t1 * fh by omega) v1
          omega
        generalize min (fh / (fl - t1 * fh)) ((n - 1 - high) / (low + t1 * high)) = t2 at *
        refine ⟨_, rfl, _, rfl, _, rfl, _, _, rfl, rfl, wide_mul (big t2 v1 (by omega)) (big (low + t1 * high) (by omega) (by omega)) (by decide) (by decide) (by decide), _, _, rfl, rfl, _, rfl, _, rfl, _, rfl, _, _, rfl, rfl, wide_mul (big t2 v1 (by omega)) (big (fl - t1 * fh) (by omega) (by omega)) (by decide) (by decide) (by decide), _, _, rfl, rfl, _, _, rfl, ?_⟩
        obtain ⟨SS, m1, m2, m3⟩ := T
        refine ⟨⟨_, _, _, _, _, rfl, SS, rfl⟩, ?_⟩
        show (2 * n - (low + t1 * high) - (high + t2 * (low + t1 * high))).toNat < (2 * n - low - high).toNat
        omega
      · have e : n ≤ low + high := by
          have : ¬ low + high < n := fun z => hc (decide_eq_true z)
          omega
        refine ⟨_, rfl, _, rfl, (by show 2 ≤ sizeLine; decide), fun r hr' => ?_⟩
        exact q low fl high fh p p' r _ S e (s1.trans (same_put hr')) (s1.free hr') upd_same
    · rintro σ H' Q1 Q2 mo ⟨a, e1, b, e2, i, j, e3, e4, c, e5, k, l, e6, e7, d, e8, h⟩
      exact ⟨a, e1, b, e2, i, j, e3, e4, c, e5, k, l, e6, e7, d, e8, mo _ _ h⟩
theorem fmod_pos {k y : Int} (h : 0 < y) : k.fmod y = k % y := Int.fmod_eq_emod_of_nonneg _ (by omega)
theorem ok_next {f : Addr} {fd : FuncData} (F : Fun K "next_mark" "next_mark" sNext f fd) (M : Rk K mg) : FnOk P w K mg base CX0 7 f fd ["step", "count", "mark"] spNext := by
  have GC : FnOk P w K mg base CX0 6 M.gk.1 M.gk.2 ["step", "count", "mark"] spChMark := ok_chMark M.ek.F M
  have GM : FnOk P w K mg base CX0 1 M.gm.1 M.gm.2 ["step", "count"] spMany := ok_many M.em.F M
  have GZ : FnOk P w K mg base CX0 1 M.gz.1 M.gz.2 ["step", "many"] spBeside := ok_beside M.ez.F M
  have GB : FnOk P w K mg base CX0 1 M.gb.1 M.gb.2 ["mark", "many", "first", "last"] spBehind := ok_behind M.eb.F
  refine F.ok scNext (fun vs H Q E h => ?_) (fun cdv A outer s H vs Q E hr h => ?_)
  · obtain ⟨t, x, y, n, k, rfl, _⟩ := h
    rfl
  · obtain ⟨t, x, y, n, k, rfl, ⟨hT, st⟩, yb, n1, n30, y2, n2, k0, k1, q⟩ := h
    have hr1 : Room 1 _ := hr.mono (by decide)
    refine ⟨_, pss_cons (ps_expr (pe_call GC hr (by rfl) M.ek.g M.ek.F.kp M.ek.b .nil pass0 (pa_cons (pv 0) (pa_cons (pv 1) (pa_cons (pv 2) pa_nil)))))
      (pss_cons (ps_set (i := 3) scNext.nd rfl (.inl rfl) (pe_call GM hr1 (by rfl) M.em.g M.em.F.kp M.em.b .nil pass0 (pa_cons (pv 0) (pa_cons (pv 1) pa_nil))))
      (pss_cons (ps_if (pt_cmpR op_eq (pv 3) pe_int (nomark _)) (pss_one (ps_ret pe_non)) pss_nil)
      (pss_cons (ps_asg (pe_call GZ hr1 (by rfl) M.ez.g M.ez.F.kp M.ez.b .nil pass0 (pa_cons (pv 0) (pa_cons (pv 3) pa_nil))) (pg_tup (by rfl) (pgs_cons (pg_name (i := 4) scNext.nd rfl (.inl rfl)) (pgs_cons (pg_name (i := 5) scNext.nd rfl (.inl rfl)) pgs_nil))))
      (pss_one (ps_ret (pe_call GB hr1 (by rfl) M.eb.g M.eb.F.kp M.eb.b .nil pass0 (pa_cons (pe_op op_modN (pv 2) (pe_ix ix_tup (pv 0) pe_int (fun _ _ => rfl))) (pa_cons (pv 3) (pa_cons (pv 4) (pa_cons (pv 5) pa_nil)))))))))), ?_⟩
    have y0 : 0 < y := by omega
    have N2 : 2 ≤ min n y := by rw [Int.min_def]; split <;> omega
    have Ny : min n y ≤ y := Int.min_le_right _ _
    have Nn : min n y ≤ n := Int.min_le_left _ _
    refine ⟨_, rfl, _, rfl, _, rfl, t, x, y, n, k, rfl, ⟨hT, st⟩, n1, n30, k0, k1, ?_⟩
    refine ⟨_, rfl, _, rfl, t, x, y, n, rfl, ⟨hT, st⟩, ?_⟩
    have kN : k % y < min n y := by
      have h1 := Int.emod_lt_of_pos k y0
      have h2 : k % y ≤ k := by
        rcases Int.lt_or_le k y with c | c
        · rw [Int.emod_eq_of_lt k0 c]; exact Int.le_refl _
        · omega
      rw [Int.min_def]; split <;> omega
    generalize min n y = N at *
    refine ⟨_, rfl, rfl, _, rfl, ?_⟩
    rw [decide_eq_false (fun z => by cases z; omega)]
    refine iteF ⟨_, rfl, _, rfl, t, x, y, N, rfl, ⟨hT, st⟩, yb, N2, Ny, fun low fl high fh p p' r H1 S e s1 hr0 hR => ?_⟩
    refine ⟨r, _, rfl, SqT.of hR, rfl, _, _, rfl, _, _, rfl, rfl, ?_⟩
    refine ⟨_, rfl, _, rfl, t, _, 1, .int y, rfl, rfl, SqT.of (s1 _ _ hT), at_of (j := 1) rfl rfl, _, _, rfl, rfl, (show y ≠ 0 by omega), _, rfl, _, rfl, _, rfl, _, _, _, _, rfl, ?_⟩
    rw [fmod_pos y0]
    have fd := S.found e
    exact q _ _ s1 (gap (rim_step y0 st.co Ny) S.l0 S.l1 S.h0 S.h1 fd.1 fd.2 (Int.emod_nonneg _ (by omega)) kN)
theorem ok_last {f : Addr} {fd : FuncData} (F : Fun K "last_mark" "last_mark" sLast f fd) (M : Rk K mg) : FnOk P w K mg base CX0 7 f fd ["step", "count", "mark"] spLast := by
  have GC : FnOk P w K mg base CX0 6 M.gk.1 M.gk.2 ["step", "count", "mark"] spChMark := ok_chMark M.ek.F M
  have GM : FnOk P w K mg base CX0 1 M.gm.1 M.gm.2 ["step", "count"] spMany := ok_many M.em.F M
  have GZ : FnOk P w K mg base CX0 1 M.gz.1 M.gz.2 ["step", "many"] spBeside := ok_beside M.ez.F M
  have GB : FnOk P w K mg base CX0 1 M.gb.1 M.gb.2 ["mark", "many", "first", "last"] spBehind := ok_behind M.eb.F
  refine F.ok scLast (fun vs H Q E h => ?_) (fun cdv A outer s H vs Q E hr h => ?_)
  · obtain ⟨t, x, y, n, k, rfl, _⟩ := h
    rfl
  · obtain ⟨t, x, y, n, k, rfl, ⟨hT, st⟩, yb, n1, n30, y2, n2, k0, k1, q⟩ := h
    have hr1 : Room 1 _ := hr.mono (by decide)
    refine ⟨_, pss_cons (ps_expr (pe_call GC hr (by rfl) M.ek.g M.ek.F.kp M.ek.b .nil pass0 (pa_cons (pv 0) (pa_cons (pv 1) (pa_cons (pv 2) pa_nil)))))
      (pss_cons (ps_set (i := 3) scLast.nd rfl (.inl rfl) (pe_call GM hr1 (by rfl) M.em.g M.em.F.kp M.em.b .nil pass0 (pa_cons (pv 0) (pa_cons (pv 1) pa_nil))))
      (pss_cons (ps_if (pt_cmpR op_eq (pv 3) pe_int (nomark _)) (pss_one (ps_ret pe_non)) pss_nil)
      (pss_cons (ps_asg (pe_call GZ hr1 (by rfl) M.ez.g M.ez.F.kp M.ez.b .nil pass0 (pa_cons (pv 0) (pa_cons (pv 3) pa_nil))) (pg_tup (by rfl) (pgs_cons (pg_name (i := 4) scLast.nd rfl (.inl rfl)) (pgs_cons (pg_name (i := 5) scLast.nd rfl (.inl rfl)) pgs_nil))))
      (pss_one (ps_ret (pe_call GB hr1 (by rfl) M.eb.g M.eb.F.kp M.eb.b .nil pass0 (pa_cons (pe_op op_modN (pv 2) (pe_ix ix_tup (pv 0) pe_int (fun _ _ => rfl))) (pa_cons (pv 3) (pa_cons (pv 5) (pa_cons (pv 4) pa_nil)))))))))), ?_⟩
    have y0 : 0 < y := by omega
    have N2 : 2 ≤ min n y := by rw [Int.min_def]; split <;> omega
    have Ny : min n y ≤ y := Int.min_le_right _ _
    have Nn : min n y ≤ n := Int.min_le_left _ _
    refine ⟨_, rfl, _, rfl, _, rfl, t, x, y, n, k, rfl, ⟨hT, st⟩, n1, n30, k0, k1, ?_⟩
    refine ⟨_, rfl, _, rfl, t, x, y, n, rfl, ⟨hT, st⟩, ?_⟩
    have kN : k % y < min n y := by
      have h1 := Int.emod_lt_of_pos k y0
      have h2 : k % y ≤ k := by
        rcases Int.lt_or_le k y with c | c
        · rw [Int.emod_eq_of_lt k0 c]; exact Int.le_refl _
        · omega
      rw [Int.min_def]; split <;> omega
    generalize min n y = N at *
    refine ⟨_, rfl, rfl, _, rfl, ?_⟩
    rw [decide_eq_false (fun z => by cases z; omega)]
    refine iteF ⟨_, rfl, _, rfl, t, x, y, N, rfl, ⟨hT, st⟩, yb, N2, Ny, fun low fl high fh p p' r H1 S e s1 hr0 hR => ?_⟩
    refine ⟨r, _, rfl, SqT.of hR, rfl, _, _, rfl, _, _, rfl, rfl, ?_⟩
    refine ⟨_, rfl, _, rfl, t, _, 1, .int y, rfl, rfl, SqT.of (s1 _ _ hT), at_of (j := 1) rfl rfl, _, _, rfl, rfl, (show y ≠ 0 by omega), _, rfl, _, rfl, _, rfl, _, _, _, _, rfl, ?_⟩
    rw [fmod_pos y0]
    have fd := S.found e
    exact q _ _ s1 (gapB (rim_step y0 st.co Ny) S.l0 S.l1 S.h0 S.h1 fd.1 fd.2 (Int.emod_nonneg _ (by omega)) kN)
end
end My
set_option Elab.async false
set_option linter.all false
set_option maxRecDepth 100000
set_option maxHeartbeats 8000000
set_option exponentiation.threshold 2000
namespace My
open PySem PySem.Spec PyProof.Rows L2 Gn Mt
abbrev sLBehind : Stmt := top 32
abbrev sRight : Stmt := top 33
theorem scLBehind : FnScope ["_law_many", "_law_first", "_law_last", "_law_k"] ["_law_many", "_law_first", "_law_last", "_law_k"] (defScope sLBehind) := ⟨rfl, rfl, rfl, by decide +kernel, rfl, by decide +kernel, by decide +kernel⟩
theorem scRight : FnScope ["_law_tin_here", "_law_turn", "_law_x", "_law_many", "_law_line", "_law_first", "_law_last", "_law_j", "_law_k", "_law_behind_here", "_law_group"] ["_law_tin_here"] (defScope sRight) := ⟨rfl, rfl, rfl, by decide +kernel, rfl, by decide +kernel, by decide +kernel⟩
def spLBehind : Sp := fun vs H Q _ => ∃ (n a b k : Int), vs = [.int n, .int a, .int b, .int k] ∧ Q (.int (behind n a b k)) H
def spRight : Sp := fun vs H Q _ => ∃ (t : Addr), vs = [.ref t] ∧ Tin H t ∧ ∀ H', Sipped H H' t → Q (.bl true) H'
theorem tups_at {H : Hp} : ∀ {rs : List Addr} {l : List Int} {j : Nat} {v : V}, Tups H rs (l.map fun k => [k]) → (rs.map V.ref)[j]? = some v → ∃ a k, v = .ref a ∧ l[j]? = some k ∧ H a = some (.tup [.int k])
  | [], _, j, v, _, h => by simp at h
  | r :: rs, [], j, v, T, _ => T.elim
  | r :: rs, k :: l, 0, v, T, h => by
    rw [List.map_cons, List.getElem?_cons_zero] at h
    cases h
    exact ⟨r, k, rfl, rfl, T.1⟩
  | r :: rs, k :: l, j + 1, v, T, h => by
    rw [List.map_cons, List.getElem?_cons_succ] at h
    obtain ⟨a, k', e1, e2, e3⟩ := tups_at T.2 h
    exact ⟨a, k', e1, by rw [List.getElem?_cons_succ]; exact e2, e3⟩
theorem at_end {xs : List V} {v : V} (h : xs[xs.length - 1]? = some v) : atI xs (-1) = some v := by
  have hl : 0 < xs.length := by
    cases xs with
    | nil => simp at h
    | cons _ _ => simp
  unfold atI ixN
  rw [if_neg (by omega)]
  rw [if_pos (by omega), Option.bind_some, show ((-1 : Int) + (xs.length : Int)).toNat = xs.length - 1 by omega]
  exact h
structure All (K : PySem.W.Frag) (mg : Str → Option Value) where
  rk : Rk K mg
  bl : Bl mg
  bo : Bo mg
  fo : Addr × FuncData
  fx : Addr × FuncData
  fl : Addr × FuncData
  gt : Addr × FuncData
  gs : Addr × FuncData
  gp : Addr × FuncData
  gf : Addr × FuncData
  gg : Addr × FuncData
  gl : Addr × FuncData
  ge : Addr × FuncData
  gb : Addr × FuncData
  dO : Df K mg "order" sOrder ["step", "count"] fo.1 fo.2
  dx : Df K mg "next_mark" sNext ["step", "count", "mark"] fx.1 fx.2
  dl : Df K mg "last_mark" sLast ["step", "count", "mark"] fl.1 fl.2
  lt : Df K mg "_law_tin" sTin ["_law_script", "_law_turn"] gt.1 gt.2
  ls : Df K mg "_law_sip" sSip ["_law_tin_here", "_law_top"] gs.1 gs.2
  lp : Df K mg "_law_pick" sPick ["_law_tin_here", "_law_menu"] gp.1 gp.2
  lf : Df K mg "_law_far" sFar ["_law_tin_here", "_law_most"] gf.1 gf.2
  lg : Df K mg "_law_gcd" sGcd ["_law_one", "_law_two"] gg.1 gg.2
  ll : Df K mg "_law_low" sLow ["_law_top", "_law_bottom"] gl.1 gl.2
  le : Df K mg "_law_step" sStep ["_law_tin_here", "_law_most"] ge.1 ge.2
  lb : Df K mg "_law_behind" sLBehind ["_law_many", "_law_first", "_law_last", "_law_k"] gb.1 gb.2
section
variable {P : Program} {w : World} {K : PySem.W.Frag} {mg : Str → Option Value} {base : Heap}
theorem ok_lbehind {f : Addr} {fd : FuncData} (F : Fun K "_law_behind" "_law_behind" sLBehind f fd) : FnOk P w K mg base CX0 1 f fd ["_law_many", "_law_first", "_law_last", "_law_k"] spLBehind := by
  refine F.ok scLBehind (fun vs H Q E h => ?_) (fun cdv A outer s H vs Q E hr h => ?_)
  · obtain ⟨n, a, b, k, rfl, _⟩ := h
    rfl
  · obtain ⟨n, a, b, k, rfl, q⟩ := h
    refine ⟨_, pss_cons (ps_if (pt_cmpR op_lt (pv 3) (pe_op op_sub (pv 0) (pv 1)) (nomark _)) (pss_one (ps_ret (pe_op op_add (pv 3) (pv 1)))) pss_nil)
      (pss_one (ps_ret (pe_ifExp (pt_cmpR op_ge (pv 3) (pv 2) (nomark _)) (pe_op op_sub (pv 3) (pv 2)) (pe_op op_sub (pe_op op_add (pv 3) (pv 1)) (pv 2))))), ?_⟩
    unfold behind at q
    refine ⟨_, rfl, _, rfl, _, rfl, _, _, rfl, rfl, _, _, rfl, rfl, _, rfl, ?_⟩
    refine ite2 (fun hc => ?_) (fun hc => ?_)
    · rw [if_pos (of_decide_eq_true hc)] at q
      exact ⟨_, rfl, _, rfl, _, _, rfl, rfl, q⟩
    · rw [if_neg (fun z => hc (decide_eq_true z))] at q
      refine ⟨_, rfl, _, rfl, _, _, rfl, rfl, _, rfl, ?_⟩
      refine ite2 (fun hd => ?_) (fun hd => ?_)
      · rw [if_pos (of_decide_eq_true hd)] at q
        exact ⟨_, rfl, _, rfl, _, _, rfl, rfl, q⟩
      · rw [if_neg (fun z => hd (decide_eq_true z))] at q
        exact ⟨_, rfl, _, rfl, _, _, rfl, rfl, _, rfl, _, _, rfl, rfl, q⟩
theorem ok_right {f : Addr} {fd : FuncData} (F : Fun K "_law_right" "_law_right" sRight f fd) (M : All K mg) : FnOk P w K mg base CX0 8 f fd ["_law_tin_here"] spRight := by
  have GO : FnOk P w K mg base CX0 5 M.fo.1 M.fo.2 ["step", "count"] spOrder := ok_order M.dO.F M.bo M.rk.di M.rk.dr M.rk.ds M.rk.dc M.rk.dn M.rk.dm
  have GX : FnOk P w K mg base CX0 7 M.fx.1 M.fx.2 ["step", "count", "mark"] spNext := ok_next M.dx.F M.rk
  have GL : FnOk P w K mg base CX0 7 M.fl.1 M.fl.2 ["step", "count", "mark"] spLast := ok_last M.dl.F M.rk
  have LS : FnOk P w K mg base CX0 1 M.gs.1 M.gs.2 ["_law_tin_here", "_law_top"] spSip := ok_sip M.ls.F M.bl
  have LP : FnOk P w K mg base CX0 2 M.gp.1 M.gp.2 ["_law_tin_here", "_law_menu"] spPick := ok_pick M.lp.F M.bl M.ls
  have LG : FnOk P w K mg base CX0 1 M.gg.1 M.gg.2 ["_law_one", "_law_two"] spGcd := ok_gcd M.lg.F M.bl
  have LE : FnOk P w K mg base CX0 4 M.ge.1 M.ge.2 ["_law_tin_here", "_law_most"] spStep := ok_step M.le.F M.bl M.ls M.lp M.lg M.lf M.ll
  have LB : FnOk P w K mg base CX0 1 M.gb.1 M.gb.2 ["_law_many", "_law_first", "_law_last", "_law_k"] spLBehind := ok_lbehind M.lb.F
  refine F.ok scRight (fun vs H Q E h => ?_) (fun cdv A outer s H vs Q E hr h => ?_)
  · obtain ⟨t, rfl, _⟩ := h
    rfl
  · obtain ⟨t, rfl, T0, q⟩ := h
    have hr1 : Room 1 _ := hr.mono (by decide)
    have hr2 : Room 2 _ := hr.mono (by decide)
    have hr4 : Room 4 _ := hr.mono (by decide)
    have hr5 : Room 5 _ := hr.mono (by decide)
    refine ⟨_, pss_cons (ps_for PassesOwn.never rfl (pi_range1 rfl M.bo.range (pa_cons pe_int pa_nil)) (pg_name (i := 1) scRight.nd rfl (.inl rfl))
      (pss_cons (ps_set (i := 2) scRight.nd rfl (.inl rfl) (pe_call LE hr4 (by rfl) M.le.g M.le.F.kp M.le.b .nil pass0 (pa_cons (pv 0) (pa_cons (pe_call LP hr2 (by rfl) M.lp.g M.lp.F.kp M.lp.b .nil pass0 (pa_cons (pv 0) (pa_cons (pe_lst (pa_cons pe_int (pa_cons pe_int (pa_cons (pe_op op_pow pe_int pe_int) (pa_cons (pe_op op_pow pe_int pe_int) pa_nil))))) pa_nil))) pa_nil))))
      (pss_cons (ps_set (i := 3) scRight.nd rfl (.inl rfl) (pe_callB (call_min2 rfl) (by rfl) M.rk.min (by decide +kernel) (pa_cons (pe_ix ix_tup (pv 2) pe_int (fun _ _ => rfl)) (pa_cons (pe_op op_add pe_int (pe_call LS hr1 (by rfl) M.ls.g M.ls.F.kp M.ls.b .nil pass0 (pa_cons (pv 0) (pa_cons pe_int pa_nil)))) pa_nil))))
      (pss_cons (ps_if (pt_cmpR op_lt (pv 3) pe_int (nomark _)) (pss_one ps_continue) pss_nil)
      (pss_cons (ps_setLc (i := 4) (te := tOp (rIxT K) (tVar 10) (tC (.int 0))) (own := [("_law_group", 10)]) (g := gName 10) (tt := tYes) rfl scRight.nd rfl rfl (sw_true rfl rfl rfl (by decide +kernel))
          (pi_tup (pe_call GO hr5 (by rfl) M.dO.g M.dO.F.kp M.dO.b .nil pass0 (pa_cons (pv 2) (pa_cons (pv 3) pa_nil))))
          (blkOk_by (N := ["_law_tin_here", "_law_turn", "_law_x", "_law_many", "_law_line", "_law_first", "_law_last", "_law_j", "_law_k", "_law_behind_here", "_law_group"]) (sc := defScope sRight) (by decide +kernel)) (fun _ _ _ _ _ => pg_name (i := 10) scRight.nd rfl (.inl rfl)) (fun _ _ _ _ _ => pts_nil)
          (fun _ _ _ _ _ => pe_ix ix_tup (pv 10) pe_int (fun _ _ => rfl)))
      (pss_cons (ps_if (PW.pt (pw_or (pt_cmpR op_ne (pe_callB call_len_seq (by rfl) M.bl.len PySem.boot_len (pa_cons (pv 4) pa_nil)) (pv 3) (nomark _))
          (pw_or1 (pt_cmpR op_ne (pe_ix ix_list (pv 4) pe_int (fun _ _ => rfl)) pe_int (nomark _))))) (pss_one (ps_ret pe_bl)) pss_nil)
      (pss_cons (ps_par (i := 5) (j := 6) (by rfl) scRight.nd rfl rfl (by decide) rfl rfl (pa_cons (pe_ix ix_list (pv 4) pe_int (fun _ _ => rfl)) (pa_cons (pe_ix ix_list (pv 4) (pe_un un_neg pe_int) (fun _ _ => rfl)) pa_nil)) (by rfl))
      (pss_cons (ps_if (PW.pt (pw_and (pt_cmpR op_lt (pv 3) (pe_ix ix_tup (pv 2) pe_int (fun _ _ => rfl)) (nomark _))
          (pw_and1 (PW.pt (pw_or (pt_cmpR op_ne (pe_call LG hr1 (by rfl) M.lg.g M.lg.F.kp M.lg.b .nil pass0 (pa_cons (pv 5) (pa_cons (pv 6) pa_nil))) pe_int (nomark _)) (pw_or1 (pt_cmpR op_lt (pe_op op_add (pv 5) (pv 6)) (pv 3) (nomark _)))))))) (pss_one (ps_ret pe_bl)) pss_nil)
      (pss_one (ps_for PassesOwn.never rfl (pi_range1 rfl M.bo.range (pa_cons (pv 3) pa_nil)) (pg_name (i := 7) scRight.nd rfl (.inl rfl))
        (pss_cons (ps_par (i := 8) (j := 9) (by rfl) scRight.nd rfl rfl (by decide) rfl rfl (pa_cons (pe_ix ix_list (pv 4) (pv 7) (fun _ _ => rfl)) (pa_cons (pe_ix ix_list (pv 4) (pe_op op_modN (pe_callTy call_int1 (by rfl) M.bl.int (by decide +kernel) (pa_cons (pe_op op_add (pv 7) pe_int) pa_nil)) (pv 3)) (fun _ _ => rfl)) pa_nil)) (by rfl))
        (pss_cons (ps_if (pt_cmpR op_ne (pv 9) (pe_call LB hr1 (by rfl) M.lb.g M.lb.F.kp M.lb.b .nil pass0 (pa_cons (pv 3) (pa_cons (pv 5) (pa_cons (pv 6) (pa_cons (pv 8) pa_nil))))) (nomark _)) (pss_one (ps_ret pe_bl)) pss_nil)
        (pss_one (ps_if (PW.pt (pw_or (pt_cmpR op_ne (pe_call GX hr (by rfl) M.dx.g M.dx.F.kp M.dx.b .nil pass0 (pa_cons (pv 2) (pa_cons (pv 3) (pa_cons (pv 8) pa_nil)))) (pv 9) (nomark _))
          (pw_or1 (pt_cmpR op_ne (pe_call GL hr (by rfl) M.dl.g M.dl.F.kp M.dl.b .nil pass0 (pa_cons (pv 2) (pa_cons (pv 3) (pa_cons (pv 9) pa_nil)))) (pv 8) (nomark _))))) (pss_one (ps_ret pe_bl)) pss_nil))))))))))))))
      (pss_one (ps_ret pe_bl)), ?_⟩
    refine ⟨6, rfl, by decide, by decide, for_range (lo := 0) (n := 6) (fun i σ H' => ∃ a b c d e f g h k, σ = [some (.ref t), a, b, c, d, e, f, g, h, k, none] ∧ Sipped H H' t) ⟨none, none, none, none, none, none, none, none, none, rfl, T0, fun _ _ e _ => e⟩ ?_ ?_⟩
    · rintro i σ H1 _ ⟨a, b, c, d, e, f, g, h, k, rfl, S1⟩
      -- x
      refine ⟨_, rfl, _, rfl, _, _, rfl, rfl, ⟨by decide, by decide, by decide⟩, _, _, rfl, rfl, ⟨by decide, by decide, by decide⟩, (by show 4 ≤ sizeLine; decide), fun m hm => ?_⟩
      have S2 : Sipped H1 (upd H1 m (.lst (([60, 1000, 10 ^ 12, 10 ^ 30] : List Int).map V.int))) t := Sipped.ofSame S1.1 (same_put hm)
      refine ⟨t, m, ([60, 1000, 10 ^ 12, 10 ^ 30] : List Int).map V.int, rfl, S2.1, upd_same, S1.1.not hm, by decide, by decide, fun v H2 hv S3 => ?_⟩
      obtain ⟨w0, hw, rfl⟩ := List.mem_map.mp hv
      have hw1 : 1 ≤ w0 ∧ w0 ≤ 10 ^ 30 := by
        have : ∀ w0 ∈ ([60, 1000, 10 ^ 12, 10 ^ 30] : List Int), 1 ≤ w0 ∧ w0 ≤ 10 ^ 30 := by decide
        exact this w0 hw
      have big : ∀ k : Int, 0 ≤ k → k ≤ 10 ^ 30 → k.natAbs < 2 ^ 100 := fun k h0 h1 => Nat.lt_of_le_of_lt (show k.natAbs ≤ 10 ^ 30 by omega) (by decide)
      refine ⟨t, w0, rfl, S3.1, hw1.1, big _ (by omega) hw1.2, fun x y p H3 st le S4 hp h3 => ?_⟩
      have x0 := st.x0
      have xy := st.xy
      have y0 : 0 < y := by omega
      have hpt : p ≠ t := S3.1.not hp
      have yb : y.natAbs < 2 ^ 100 := big _ (by omega) (by omega)
      have SA : Sipped H H3 t := ((S1.trans S2).trans S3).trans S4
      -- many
      refine ⟨_, rfl, p, _, 1, .int y, rfl, rfl, SqT.of h3, at_of (j := 1) rfl rfl, _, rfl, t, 59, rfl, S4.1, by decide, by decide, fun d0 H4 d1 d2 S5 => ?_⟩
      refine ⟨_, _, rfl, rfl, _, _, rfl, ?_⟩
      rw [min_if]
      have h4 := S5.2 _ _ h3 hpt
      have SB := SA.trans S5
      have N1 : min y (2 + d0) ≤ y := Int.min_le_left _ _
      have N2 : min y (2 + d0) ≤ 60 := by have := Int.min_le_right y (2 + d0); omega
      have N0 : 0 < min y (2 + d0) := by rw [Int.min_def]; split <;> omega
      generalize min y (2 + d0) = N at *
      refine ⟨_, rfl, _, _, rfl, rfl, _, rfl, ?_⟩
      refine ite2 (fun hc => ⟨_, _, _, _, _, _, _, _, _, rfl, SB⟩) (fun hc => ?_)
      have N2' : 2 ≤ N := by
        have : ¬ N < 2 := fun z => hc (decide_eq_true z)
        omega
      -- line
      refine ⟨_, rfl, _, rfl, p, x, y, N, rfl, ⟨h4, st⟩, by omega, N2, fun r H5 s5 hr5' od => ?_⟩
      have hf : (fun k => (x * k).fmod y) = fun k => x * k % y := funext fun k => fmod_pos y0
      rw [hf] at od
      have R := rim_step (n := ((N.toNat : Nat) : Int)) y0 st.co (by omega)
      obtain ⟨l, L⟩ := row_ex (f := fun k => x * k % y) (n := N.toNat) fun i j a b c d e => R.one a b c d e
      rw [L.ord] at od
      obtain ⟨rs, hrs, tu⟩ := od
      have hlen : rs.length = N.toNat := by rw [tu.len, List.length_map, L.len]
      refine ⟨r, rfl, ⟨_, SqT.of hrs⟩, fun D hD => ?_⟩
      have s6 : Same H5 (upd H5 D (.lst [])) := same_put hD
      refine lc_tup (K := K) (a := r) (xs := rs.map V.ref) (fun j H' => H' D = some (.lst ((l.take j).map V.int)) ∧ Same H5 H') ⟨upd_same, s6⟩ (fun j H' _ ⟨_, e⟩ => SqT.of (e _ _ hrs)) ?_ ?_
      · rintro j v H6 hj ⟨g1, g2⟩
        obtain ⟨a0, k0, rfl, hk, ha⟩ := tups_at tu hj
        refine ⟨rfl, _, rfl, a0, _, 0, .int k0, rfl, rfl, SqT.of (g2 _ _ ha), at_of (j := 0) rfl rfl, _, g1, ?_, ?_, fun b o e => ?_⟩
        · rw [List.length_map, List.length_take, L.len]
          exact small1000 (by omega)
        · rw [upd_same, List.take_add_one, hk, List.map_append]; rfl
        · have hD6 : D ≠ b := ne_of_none e hD |>.symm
          rw [upd_ne hD6.symm]
          exact g2 _ _ e
      · rintro H6 ⟨g1, g2⟩
        rw [List.length_map, hlen, ← L.len, List.take_length] at g1
        have h6 := g2 _ _ (s5 _ _ h4)
        have SC : Sipped H H6 t := (SB.trans (Sipped.ofSame S5.1 s5)).trans (Sipped.ofSame (Sipped.ofSame S5.1 s5).1 g2)
        have hL : SqL K H6 D (l.map V.int) := SqL.of g1
        have NN : ((N.toNat : Nat) : Int) = N := by omega
        have z0 := L.zero R (by omega)
        obtain ⟨A, hA, A0, A1⟩ := L.get (i := 1) (by omega)
        obtain ⟨B, hB, B0, B1⟩ := L.get (i := N.toNat - 1) (by omega)
        obtain ⟨a1, a2, b1, b2, mA, mB⟩ := L.ends R (by omega) hA hB
        have vi : ∀ {i : Nat} {v : Int}, l[i]? = some v → (l.map V.int)[i]? = some (.int v) := fun h => by rw [List.getElem?_map, h]; rfl
        -- len(line) != many or line[0] != 0
        refine ⟨_, rfl, D, _, rfl, .inl hL, _, rfl, rfl, _, rfl, iteNS (by rw [List.length_map, L.len, NN]) ?_⟩
        refine ⟨_, rfl, D, _, 0, .int 0, rfl, rfl, hL, at_of (j := 0) rfl (vi z0), rfl, _, rfl, iteNS rfl ?_⟩
        -- first, last
        refine ⟨_, rfl, D, _, 1, .int A, rfl, rfl, hL, at_of (j := 1) rfl (vi hA), _, rfl, _, rfl, D, _, -1, .int B, rfl, rfl, hL, at_end (by rw [List.length_map, L.len]; exact vi hB), _, _, rfl, ?_⟩
        -- many < x[1] and ..
        refine ⟨_, rfl, _, rfl, p, _, 1, .int y, rfl, rfl, SqT.of h6, at_of (j := 1) rfl rfl, _, _, rfl, rfl, _, rfl, ?_⟩
        refine and_join false (fun hc RR zz => ?_) (fun _ => rfl) (iteF ?_)
        · obtain ⟨lo, fl, hi, fh, pp, qq, S, e⟩ := side_ex (n := N) (step_pos st (by omega)) xy st.co N1 N2'
          have fd := S.found e
          have eA : A = lo := R.one A0 A1 (by have := S.l0; omega) (by have := S.l1; omega) (by
            have h1 := mA lo S.l0 (by have := S.l1; omega)
            have h2 := fd.1 A a1 (by omega)
            show x * A % y = x * lo % y
            have h1' : x * A % y ≤ x * lo % y := h1
            omega)
          have eB : B = hi := R.one B0 B1 (by have := S.h0; omega) (by have := S.h1; omega) (by
            have h1 := mB hi S.h0 (by have := S.h1; omega)
            have h2 := fd.2 B b1 (by omega)
            show x * B % y = x * hi % y
            have h1' : x * hi % y ≤ x * B % y := h1
            omega)
          have gAB : Nat.gcd A.natAbs B.natAbs = 1 := by rw [eA, eB]; exact S.gcd
          refine ⟨_, rfl, _, rfl, A, B, rfl, A0, B0, rfl, _, rfl, iteNS (by rw [gAB]; rfl) ?_⟩
          refine ⟨_, rfl, _, rfl, _, _, rfl, rfl, _, rfl, _, _, rfl, rfl, _, rfl, ?_⟩
          rw [decide_eq_false (by omega)]
          exact zz
        -- for j in range(many)
        refine ⟨_, rfl, N, rfl, by omega, by omega, ?_⟩
        refine for_range (lo := 0) (n := N.toNat) (fun j σ H' => ∃ u v z, σ = [some (.ref t), some (.int (0 + (i : Int))), some (.ref p), some (.int N), some (.ref D), some (.int A), some (.int B), u, v, z, none] ∧ Same H6 H') ⟨_, _, _, rfl, Same.refl _⟩ ?_ ?_
        · rintro j σ H7 hj ⟨u, v, z, rfl, s7⟩
          rw [Int.zero_add]
          obtain ⟨k1, hk1, k10, k11⟩ := L.get hj
          obtain ⟨m1, hm1, m10, m11⟩ := L.get (i := (j + 1) % N.toNat) (Nat.mod_lt _ (by omega))
          have hL7 : SqL K H7 D (l.map V.int) := s7.seq hL
          have h7 := s7 _ _ h6
          have nx := L.next R (by omega) hj hk1 hm1
          have ej : (((j : Int) + 1).fmod N) = (((j + 1) % N.toNat : Nat) : Int) := by
            rw [fmod_pos (by omega), Int.natCast_emod, NN]; rfl
          refine ⟨_, rfl, _, rfl, D, _, (j : Int), .int k1, rfl, rfl, hL7, at_of (j := j) rfl (vi hk1), ?_⟩
          refine ⟨_, rfl, _, rfl, _, _, rfl, rfl, .inl ⟨_, rfl, _, rfl, _, _, rfl, rfl, (show N ≠ 0 by omega), D, _, _, .int m1, rfl, rfl, hL7, at_of ej (vi hm1), _, _, rfl, ?_⟩⟩
          have gp := gap R a1 a2 b1 b2 mA mB k10 k11
          rw [NN] at gp nx
          have R' := rim_step (n := N) y0 st.co (by omega)
          have eb : behind N A B k1 = m1 := Nx.one R' gp nx
          have kn : k1 % y = k1 := Int.emod_eq_of_lt k10 (by omega)
          have mn : m1 % y = m1 := Int.emod_eq_of_lt m10 (by omega)
          have eN : min N y = N := Int.min_eq_left N1
          -- behind_here != behind(many, first, last, k)
          refine ⟨_, rfl, _, rfl, _, rfl, _, rfl, _, rfl, N, A, B, k1, rfl, rfl, _, rfl, iteNS (by rw [eb]) ?_⟩
          -- next_mark, last_mark
          refine ⟨_, rfl, _, rfl, _, rfl, p, x, y, N, k1, rfl, ⟨h7, st⟩, yb, by omega, by omega, by omega, N2', k10, by omega, fun m' H8 s8 nx' => ?_⟩
          rw [eN, kn] at nx'
          refine ⟨_, rfl, rfl, _, rfl, iteNS (by rw [Nx.one R' nx' nx]) ?_⟩
          refine ⟨_, rfl, _, rfl, _, rfl, p, x, y, N, m1, rfl, ⟨s8 _ _ h7, st⟩, yb, by omega, by omega, by omega, N2', m10, by omega, fun m' H9 s9 pv' => ?_⟩
          rw [eN, mn] at pv'
          have nb := nx.back R' k10 (by omega)
          refine ⟨_, rfl, rfl, _, rfl, iteNS (by rw [Pv.one R' pv' nb]) ?_⟩
          exact ⟨_, _, _, rfl, (s7.trans s8).trans s9⟩
        · rintro σ H7 ⟨u, v, z, rfl, s7⟩
          exact ⟨_, _, _, _, _, _, _, _, _, rfl, SC.trans (Sipped.ofSame SC.1 s7)⟩
    · rintro σ H1 ⟨a, b, c, d, e, f, g, h, k, rfl, S1⟩
      exact q _ S1
end
end My
set_option Elab.async false
set_option linter.all false
set_option maxRecDepth 100000
set_option maxHeartbeats 8000000
namespace My
open PySem PySem.Spec PyProof.Rows L2 Gn Mt
abbrev sLaw : Stmt := top 34
theorem scLaw : FnScope ["_law_script", "_law_turn"] ["_law_script"] (defScope sLaw) := ⟨rfl, rfl, rfl, by decide +kernel, rfl, by decide +kernel, by decide +kernel⟩
def spLaw (K : PySem.W.Frag) : Sp := fun vs H Q _ => ∃ (a : Addr) (ns : List Int), vs = [.ref a] ∧ SqL K H a (ns.map V.int) ∧ ns.length ≤ 63 ∧ ∀ H', Q (.bl true) H'
structure Bw (mg : Str → Option Value) : Prop where
  all : mg "all" = none
  max : mg "max" = none
  min : mg "min" = none
section
variable {P : Program} {w : World} {K : PySem.W.Frag} {mg : Str → Option Value} {base : Heap}
theorem ok_law {f fR : Addr} {fd fdR : FuncData} (F : Fun K "law" "law" sLaw f fd) (M : All K mg) (W : Bw mg) (R : Df K mg "_law_right" sRight ["_law_tin_here"] fR fdR) : FnG P w K mg base CX0 9 f fd ["_law_script"] (spLaw K) := by
  have LT : FnOk P w K mg base CX0 1 M.gt.1 M.gt.2 ["_law_script", "_law_turn"] (spTin K) := ok_tin M.lt.F M.bl
  have GR : FnOk P w K mg base CX0 8 fR fdR ["_law_tin_here"] spRight := ok_right R.F M
  refine funG0 F scLaw (fun vs H Q E h => ?_) (fun cdv A outer s H vs Q E hg hr h => ?_)
  · obtain ⟨a, ns, rfl, _⟩ := h
    rfl
  · obtain ⟨a, ns, rfl, hS2, hlen, q⟩ := h
    have hr1 : Room 1 _ := hr.mono (by decide)
    have hu := hr.units
    refine ⟨_, pss_one (ps_ret (pe_callB (cr_all rfl) (by rfl) W.all (by decide +kernel) (pa_cons
        (pe_lc (te := tCall spRight [] E0 (tCons (tCall (spTin K) [] E0 (tCons (tVar 0) (tCons (tVar 1) tNil))) tNil)) (own := [("_law_turn", 1)]) (g := gName 1) (tt := tYes) rfl scLaw.nd
          (pi_range1 rfl M.bo.range (pa_cons (pe_callB (call_max2 rfl) (by rfl) W.max (by decide +kernel) (pa_cons pe_int (pa_cons (pe_callB (call_min2 rfl) (by rfl) W.min (by decide +kernel) (pa_cons (pe_callB call_len_seq (by rfl) M.bl.len PySem.boot_len (pa_cons (pv 0) pa_nil)) (pa_cons pe_int pa_nil))) pa_nil))) pa_nil))
          (blkOk_by (N := ["_law_script", "_law_turn"]) (sc := defScope sLaw) (by decide +kernel)) (fun _ _ _ _ _ => pg_name (i := 1) scLaw.nd rfl (.inl rfl)) (fun _ _ _ _ _ => pts_nil)
          (fun _ _ _ _ _ => pe_call GR hr (by rfl) R.g R.F.kp R.b .nil pass0 (pa_cons (pe_call LT hr1 (by rfl) M.lt.g M.lt.F.kp M.lt.b .nil pass0 (pa_cons (pv 0) (pa_cons (pv 1) pa_nil))) pa_nil))) pa_nil))), ?_⟩
    refine ⟨_, rfl, a, _, rfl, .inl hS2, _, _, rfl, _, _, rfl, ?_⟩
    have hN : ∀ L : Int, 0 ≤ (if (if (6 : Int) < L then 6 else L) > 2 then (if (6 : Int) < L then 6 else L) else 2) ∧ (if (if (6 : Int) < L then 6 else L) > 2 then (if (6 : Int) < L then 6 else L) else 2) ≤ 6 := fun L => by
      split <;> split <;> omega
    have hN' := hN (((ns.map V.int).length : Nat) : Int)
    generalize (if (if (6 : Int) < (((ns.map V.int).length : Nat) : Int) then 6 else (((ns.map V.int).length : Nat) : Int)) > 2 then (if (6 : Int) < (((ns.map V.int).length : Nat) : Int) then 6 else (((ns.map V.int).length : Nat) : Int)) else 2) = N at hN' ⊢
    refine ⟨N, rfl, by omega, by omega, fun D hD => ?_⟩
    have s0 := same_put (o := HO.lst []) hD
    refine lc_range (lo := 0) (n := N.toNat) (fun i H2 => H2 D = some (.lst ((List.replicate i true).map V.bl)) ∧ Same _ H2) ⟨upd_same, s0⟩ ?_ ?_
    · rintro i H2 hi ⟨g1, g2⟩
      rw [Int.zero_add]
      refine ⟨rfl, _, rfl, _, rfl, a, ns, _, rfl, g2.seq hS2, by omega, by omega, fun p H3 s3 hp T => ⟨p, rfl, T, fun H4 s4 => ?_⟩⟩
      have nDp : D ≠ p := ne_of_none g1 hp
      refine ⟨_, s4.2 _ _ (s3 _ _ g1) nDp, ?_, ?_, fun b z e => ?_⟩
      · rw [List.length_map, List.length_replicate]
        exact small1000 (by omega)
      · rw [upd_same, List.replicate_succ', List.map_append]; rfl
      · rw [upd_ne (ne_of_none e hD)]
        have z2 := g2 _ _ e
        exact s4.2 _ _ (s3 _ _ z2) (ne_of_none z2 hp)
    · rintro H2 ⟨g1, g2⟩
      refine ⟨D, List.replicate N.toNat true, rfl, SqL.of g1, ?_⟩
      have e : (List.replicate N.toNat true).all id = true := by
        rw [List.all_eq_true]
        intro b hb
        exact (List.mem_replicate.mp hb).2
      rw [e]
      exact q _
end
end My
set_option Elab.async false
set_option linter.all false
set_option maxRecDepth 100000
set_option maxHeartbeats 8000000
namespace My
open PySem PySem.Spec PyProof.Rows L2 Gn Mt
theorem all_mk {l : PySem.W.OpenLaw} {w : World} {K : PySem.W.Frag} {h : Heap} {mg : Str → Option Value} {fa : Addr} (X : K.In h) (G : h.Ns mainGlobals mg) (hfa : mg "law" = some (.ref fa))
    {f0 : Addr} {od0 an0 : Option Addr} {sl0 : Array (Option Value)} {oc0 kV0 dc0 pm0 cd0 ct0 : Value} {f1 : Addr} {od1 an1 : Option Addr} {sl1 : Array (Option Value)} {oc1 kV1 dc1 pm1 cd1 ct1 : Value} {f2 : Addr} {od2 an2 : Option Addr} {sl2 : Array (Option Value)} {oc2 kV2 dc2 pm2 cd2 ct2 : Value} {f3 : Addr} {od3 an3 : Option Addr} {sl3 : Array (Option Value)} {oc3 kV3 dc3 pm3 cd3 ct3 : Value} {f4 : Addr} {od4 an4 : Option Addr} {sl4 : Array (Option Value)} {oc4 kV4 dc4 pm4 cd4 ct4 : Value} {f5 : Addr} {od5 an5 : Option Addr} {sl5 : Array (Option Value)} {oc5 kV5 dc5 pm5 cd5 ct5 : Value} {f6 : Addr} {od6 an6 : Option Addr} {sl6 : Array (Option Value)} {oc6 kV6 dc6 pm6 cd6 ct6 : Value} {f7 : Addr} {od7 an7 : Option Addr} {sl7 : Array (Option Value)} {oc7 kV7 dc7 pm7 cd7 ct7 : Value} {f8 : Addr} {od8 an8 : Option Addr} {sl8 : Array (Option Value)} {oc8 kV8 dc8 pm8 cd8 ct8 : Value} {f9 : Addr} {od9 an9 : Option Addr} {sl9 : Array (Option Value)} {oc9 kV9 dc9 pm9 cd9 ct9 : Value} {f10 : Addr} {od10 an10 : Option Addr} {sl10 : Array (Option Value)} {oc10 kV10 dc10 pm10 cd10 ct10 : Value} {f11 : Addr} {od11 an11 : Option Addr} {sl11 : Array (Option Value)} {oc11 kV11 dc11 pm11 cd11 ct11 : Value} {f12 : Addr} {od12 an12 : Option Addr} {sl12 : Array (Option Value)} {oc12 kV12 dc12 pm12 cd12 ct12 : Value} {f13 : Addr} {od13 an13 : Option Addr} {sl13 : Array (Option Value)} {oc13 kV13 dc13 pm13 cd13 ct13 : Value} {f14 : Addr} {od14 an14 : Option Addr} {sl14 : Array (Option Value)} {oc14 kV14 dc14 pm14 cd14 ct14 : Value} {f15 : Addr} {od15 an15 : Option Addr} {sl15 : Array (Option Value)} {oc15 kV15 dc15 pm15 cd15 ct15 : Value} {f16 : Addr} {od16 an16 : Option Addr} {sl16 : Array (Option Value)} {oc16 kV16 dc16 pm16 cd16 ct16 : Value} {f17 : Addr} {od17 an17 : Option Addr} {sl17 : Array (Option Value)} {oc17 kV17 dc17 pm17 cd17 ct17 : Value} {f18 : Addr} {od18 an18 : Option Addr} {sl18 : Array (Option Value)} {oc18 kV18 dc18 pm18 cd18 ct18 : Value} {f19 : Addr} {od19 an19 : Option Addr} {sl19 : Array (Option Value)} {oc19 kV19 dc19 pm19 cd19 ct19 : Value} {f20 : Addr} {od20 an20 : Option Addr} {sl20 : Array (Option Value)} {oc20 kV20 dc20 pm20 cd20 ct20 : Value} {f21 : Addr} {od21 an21 : Option Addr} {sl21 : Array (Option Value)} {oc21 kV21 dc21 pm21 cd21 ct21 : Value} {f22 : Addr} {od22 an22 : Option Addr} {sl22 : Array (Option Value)} {oc22 kV22 dc22 pm22 cd22 ct22 : Value} {f23 : Addr} {od23 an23 : Option Addr} {sl23 : Array (Option Value)} {oc23 kV23 dc23 pm23 cd23 ct23 : Value} {tk1 : Tok} {tk2 : Tok}
    (a0 : PySem.W.nsIn K mainGlobals "is_integer" = some (some (.ref f0))) (l0 : K.lookup f0 = some ⟨oc0, od0, .func (PySem.W.fnOf "is_integer" "is_integer" (defArgs sIsInt) (defBody sIsInt) (defScope sIsInt) .none kV0 dc0 pm0 an0 cd0 ct0), sl0⟩) (c0 : PySem.W.codeIn K cd0 "is_integer" = true) (k0 : PySem.W.keepIn K (.ref f0) = true)
    (a1 : PySem.W.nsIn K mainGlobals "is_fraction" = some (some (.ref f1))) (l1 : K.lookup f1 = some ⟨oc1, od1, .func (PySem.W.fnOf "is_fraction" "is_fraction" (defArgs sIsFr) (defBody sIsFr) (defScope sIsFr) .none kV1 dc1 pm1 an1 cd1 ct1), sl1⟩) (c1 : PySem.W.codeIn K cd1 "is_fraction" = true) (k1 : PySem.W.keepIn K (.ref f1) = true)
    (a2 : PySem.W.nsIn K mainGlobals "is_step" = some (some (.ref f2))) (l2 : K.lookup f2 = some ⟨oc2, od2, .func (PySem.W.fnOf "is_step" "is_step" (defArgs sIsStep) (defBody sIsStep) (defScope sIsStep) .none kV2 dc2 pm2 an2 cd2 ct2), sl2⟩) (c2 : PySem.W.codeIn K cd2 "is_step" = true) (k2 : PySem.W.keepIn K (.ref f2) = true)
    (a3 : PySem.W.nsIn K mainGlobals "is_number" = some (some (.ref f3))) (l3 : K.lookup f3 = some ⟨oc3, od3, .func (PySem.W.fnOf "is_number" "is_number" (defArgs sIsNum) (defBody sIsNum) (defScope sIsNum) .none kV3 dc3 pm3 an3 cd3 ct3), sl3⟩) (c3 : PySem.W.codeIn K cd3 "is_number" = true) (k3 : PySem.W.keepIn K (.ref f3) = true)
    (a4 : PySem.W.nsIn K mainGlobals "check_step" = some (some (.ref f4))) (l4 : K.lookup f4 = some ⟨oc4, od4, .func (PySem.W.fnOf "check_step" "check_step" (defArgs sChStep) (defBody sChStep) (defScope sChStep) .none kV4 dc4 pm4 an4 cd4 ct4), sl4⟩) (c4 : PySem.W.codeIn K cd4 "check_step" = true) (k4 : PySem.W.keepIn K (.ref f4) = true)
    (a5 : PySem.W.nsIn K mainGlobals "check_number" = some (some (.ref f5))) (l5 : K.lookup f5 = some ⟨oc5, od5, .func (PySem.W.fnOf "check_number" "check_number" (defArgs sChNum) (defBody sChNum) (defScope sChNum) .none kV5 dc5 pm5 an5 cd5 ct5), sl5⟩) (c5 : PySem.W.codeIn K cd5 "check_number" = true) (k5 : PySem.W.keepIn K (.ref f5) = true)
    (a6 : PySem.W.nsIn K mainGlobals "next_mark" = some (some (.ref f6))) (l6 : K.lookup f6 = some ⟨oc6, od6, .func (PySem.W.fnOf "next_mark" "next_mark" (defArgs sNext) (defBody sNext) (defScope sNext) .none kV6 dc6 pm6 an6 cd6 ct6), sl6⟩) (c6 : PySem.W.codeIn K cd6 "next_mark" = true) (k6 : PySem.W.keepIn K (.ref f6) = true)
    (a7 : PySem.W.nsIn K mainGlobals "last_mark" = some (some (.ref f7))) (l7 : K.lookup f7 = some ⟨oc7, od7, .func (PySem.W.fnOf "last_mark" "last_mark" (defArgs sLast) (defBody sLast) (defScope sLast) .none kV7 dc7 pm7 an7 cd7 ct7), sl7⟩) (c7 : PySem.W.codeIn K cd7 "last_mark" = true) (k7 : PySem.W.keepIn K (.ref f7) = true)
    (a8 : PySem.W.nsIn K mainGlobals "mark_behind" = some (some (.ref f8))) (l8 : K.lookup f8 = some ⟨oc8, od8, .func (PySem.W.fnOf "mark_behind" "mark_behind" (defArgs sBehind) (defBody sBehind) (defScope sBehind) .none kV8 dc8 pm8 an8 cd8 ct8), sl8⟩) (c8 : PySem.W.codeIn K cd8 "mark_behind" = true) (k8 : PySem.W.keepIn K (.ref f8) = true)
    (a9 : PySem.W.nsIn K mainGlobals "_check_count" = some (some (.ref f9))) (l9 : K.lookup f9 = some ⟨oc9, od9, .func (PySem.W.fnOf "_check_count" "_check_count" (defArgs sChCount) (defBody sChCount) (defScope sChCount) .none kV9 dc9 pm9 an9 cd9 ct9), sl9⟩) (c9 : PySem.W.codeIn K cd9 "_check_count" = true) (k9 : PySem.W.keepIn K (.ref f9) = true)
    (a10 : PySem.W.nsIn K mainGlobals "_check_mark" = some (some (.ref f10))) (l10 : K.lookup f10 = some ⟨oc10, od10, .func (PySem.W.fnOf "_check_mark" "_check_mark" (defArgs sChMark) (defBody sChMark) (defScope sChMark) .none kV10 dc10 pm10 an10 cd10 ct10), sl10⟩) (c10 : PySem.W.codeIn K cd10 "_check_mark" = true) (k10 : PySem.W.keepIn K (.ref f10) = true)
    (a11 : PySem.W.nsIn K mainGlobals "_how_many_places" = some (some (.ref f11))) (l11 : K.lookup f11 = some ⟨oc11, od11, .func (PySem.W.fnOf "_how_many_places" "_how_many_places" (defArgs sMany) (defBody sMany) (defScope sMany) .none kV11 dc11 pm11 an11 cd11 ct11), sl11⟩) (c11 : PySem.W.codeIn K cd11 "_how_many_places" = true) (k11 : PySem.W.keepIn K (.ref f11) = true)
    (a12 : PySem.W.nsIn K mainGlobals "_beside_zero" = some (some (.ref f12))) (l12 : K.lookup f12 = some ⟨oc12, od12, .func (PySem.W.fnOf "_beside_zero" "_beside_zero" (defArgs sBeside) (defBody sBeside) (defScope sBeside) .none kV12 dc12 pm12 an12 cd12 ct12), sl12⟩) (c12 : PySem.W.codeIn K cd12 "_beside_zero" = true) (k12 : PySem.W.keepIn K (.ref f12) = true)
    (a13 : PySem.W.nsIn K mainGlobals "order" = some (some (.ref f13))) (l13 : K.lookup f13 = some ⟨oc13, od13, .func (PySem.W.fnOf "order" "order" (defArgs sOrder) (defBody sOrder) (defScope sOrder) .none kV13 dc13 pm13 an13 cd13 ct13), sl13⟩) (c13 : PySem.W.codeIn K cd13 "order" = true) (k13 : PySem.W.keepIn K (.ref f13) = true)
    (a14 : PySem.W.nsIn K mainGlobals "_law_tin" = some (some (.ref f14))) (l14 : K.lookup f14 = some ⟨oc14, od14, .func (PySem.W.fnOf "_law_tin" "_law_tin" (defArgs sTin) (defBody sTin) (defScope sTin) .none kV14 dc14 pm14 an14 cd14 ct14), sl14⟩) (c14 : PySem.W.codeIn K cd14 "_law_tin" = true) (k14 : PySem.W.keepIn K (.ref f14) = true)
    (a15 : PySem.W.nsIn K mainGlobals "_law_sip" = some (some (.ref f15))) (l15 : K.lookup f15 = some ⟨oc15, od15, .func (PySem.W.fnOf "_law_sip" "_law_sip" (defArgs sSip) (defBody sSip) (defScope sSip) .none kV15 dc15 pm15 an15 cd15 ct15), sl15⟩) (c15 : PySem.W.codeIn K cd15 "_law_sip" = true) (k15 : PySem.W.keepIn K (.ref f15) = true)
    (a16 : PySem.W.nsIn K mainGlobals "_law_pick" = some (some (.ref f16))) (l16 : K.lookup f16 = some ⟨oc16, od16, .func (PySem.W.fnOf "_law_pick" "_law_pick" (defArgs sPick) (defBody sPick) (defScope sPick) .none kV16 dc16 pm16 an16 cd16 ct16), sl16⟩) (c16 : PySem.W.codeIn K cd16 "_law_pick" = true) (k16 : PySem.W.keepIn K (.ref f16) = true)
    (a17 : PySem.W.nsIn K mainGlobals "_law_far" = some (some (.ref f17))) (l17 : K.lookup f17 = some ⟨oc17, od17, .func (PySem.W.fnOf "_law_far" "_law_far" (defArgs sFar) (defBody sFar) (defScope sFar) .none kV17 dc17 pm17 an17 cd17 ct17), sl17⟩) (c17 : PySem.W.codeIn K cd17 "_law_far" = true) (k17 : PySem.W.keepIn K (.ref f17) = true)
    (a18 : PySem.W.nsIn K mainGlobals "_law_gcd" = some (some (.ref f18))) (l18 : K.lookup f18 = some ⟨oc18, od18, .func (PySem.W.fnOf "_law_gcd" "_law_gcd" (defArgs sGcd) (defBody sGcd) (defScope sGcd) .none kV18 dc18 pm18 an18 cd18 ct18), sl18⟩) (c18 : PySem.W.codeIn K cd18 "_law_gcd" = true) (k18 : PySem.W.keepIn K (.ref f18) = true)
    (a19 : PySem.W.nsIn K mainGlobals "_law_low" = some (some (.ref f19))) (l19 : K.lookup f19 = some ⟨oc19, od19, .func (PySem.W.fnOf "_law_low" "_law_low" (defArgs sLow) (defBody sLow) (defScope sLow) .none kV19 dc19 pm19 an19 cd19 ct19), sl19⟩) (c19 : PySem.W.codeIn K cd19 "_law_low" = true) (k19 : PySem.W.keepIn K (.ref f19) = true)
    (a20 : PySem.W.nsIn K mainGlobals "_law_step" = some (some (.ref f20))) (l20 : K.lookup f20 = some ⟨oc20, od20, .func (PySem.W.fnOf "_law_step" "_law_step" (defArgs sStep) (defBody sStep) (defScope sStep) .none kV20 dc20 pm20 an20 cd20 ct20), sl20⟩) (c20 : PySem.W.codeIn K cd20 "_law_step" = true) (k20 : PySem.W.keepIn K (.ref f20) = true)
    (a21 : PySem.W.nsIn K mainGlobals "_law_behind" = some (some (.ref f21))) (l21 : K.lookup f21 = some ⟨oc21, od21, .func (PySem.W.fnOf "_law_behind" "_law_behind" (defArgs sLBehind) (defBody sLBehind) (defScope sLBehind) .none kV21 dc21 pm21 an21 cd21 ct21), sl21⟩) (c21 : PySem.W.codeIn K cd21 "_law_behind" = true) (k21 : PySem.W.keepIn K (.ref f21) = true)
    (a22 : PySem.W.nsIn K mainGlobals "_law_right" = some (some (.ref f22))) (l22 : K.lookup f22 = some ⟨oc22, od22, .func (PySem.W.fnOf "_law_right" "_law_right" (defArgs sRight) (defBody sRight) (defScope sRight) .none kV22 dc22 pm22 an22 cd22 ct22), sl22⟩) (c22 : PySem.W.codeIn K cd22 "_law_right" = true) (k22 : PySem.W.keepIn K (.ref f22) = true)
    (a23 : PySem.W.nsIn K mainGlobals "law" = some (some (.ref f23))) (l23 : K.lookup f23 = some ⟨oc23, od23, .func (PySem.W.fnOf "law" "law" (defArgs sLaw) (defBody sLaw) (defScope sLaw) .none kV23 dc23 pm23 an23 cd23 ct23), sl23⟩) (c23 : PySem.W.codeIn K cd23 "law" = true) (k23 : PySem.W.keepIn K (.ref f23) = true)
    (z0 : PySem.W.nsIn K mainGlobals "len" = some none)
    (z1 : PySem.W.nsIn K mainGlobals "int" = some none)
    (z2 : PySem.W.nsIn K mainGlobals "abs" = some none)
    (z3 : PySem.W.nsIn K mainGlobals "isinstance" = some none)
    (z4 : PySem.W.nsIn K mainGlobals "bool" = some none)
    (z5 : PySem.W.nsIn K mainGlobals "tuple" = some none)
    (z6 : PySem.W.nsIn K mainGlobals "range" = some none)
    (z7 : PySem.W.nsIn K mainGlobals "sorted" = some none)
    (z8 : PySem.W.nsIn K mainGlobals "min" = some none)
    (z9 : PySem.W.nsIn K mainGlobals "max" = some none)
    (z10 : PySem.W.nsIn K mainGlobals "all" = some none)
    (m0 : PySem.W.nsIn K mainGlobals "gcd" = some (some (.builtin "math.gcd")))
    (m1 : PySem.W.nsIn K mainGlobals "MOST_COUNT" = some (some (.int (10 ^ 30) tk1)))
    (m2 : PySem.W.nsIn K mainGlobals "_MOST_ORDERED" = some (some (.int 60 tk2)))
    : ∃ fd : FuncData, (∀ (s : Shared) (v : Value), BindsTo s fd ⟨[v], []⟩ [("_law_script", v)]) ∧ ∀ base : Heap, K.In base → base.Ns mainGlobals mg → FnG l.prog w K mg base CX0 9 fa fd ["_law_script"] (spLaw K) := by
  cases hfa.symm.trans (PySem.W.mg_of X G a23)
  have F0 := fun_mk (st := sIsInt) l0 c0 k0
  have d0 : Df K mg "is_integer" sIsInt ["given"] f0 _ := ⟨F0, PySem.W.mg_of X G a0, F0.binds fun _ _ _ _ _ _ us hl => match us, hl with | [_], _ => rfl⟩
  have F1 := fun_mk (st := sIsFr) l1 c1 k1
  have d1 : Df K mg "is_fraction" sIsFr ["given"] f1 _ := ⟨F1, PySem.W.mg_of X G a1, F1.binds fun _ _ _ _ _ _ us hl => match us, hl with | [_], _ => rfl⟩
  have F2 := fun_mk (st := sIsStep) l2 c2 k2
  have d2 : Df K mg "is_step" sIsStep ["given"] f2 _ := ⟨F2, PySem.W.mg_of X G a2, F2.binds fun _ _ _ _ _ _ us hl => match us, hl with | [_], _ => rfl⟩
  have F3 := fun_mk (st := sIsNum) l3 c3 k3
  have d3 : Df K mg "is_number" sIsNum ["given", "least", "most"] f3 _ := ⟨F3, PySem.W.mg_of X G a3, F3.binds fun _ _ _ _ _ _ us hl => match us, hl with | [_, _, _], _ => rfl⟩
  have F4 := fun_mk (st := sChStep) l4 c4 k4
  have d4 : Df K mg "check_step" sChStep ["given"] f4 _ := ⟨F4, PySem.W.mg_of X G a4, F4.binds fun _ _ _ _ _ _ us hl => match us, hl with | [_], _ => rfl⟩
  have F5 := fun_mk (st := sChNum) l5 c5 k5
  have d5 : Df K mg "check_number" sChNum ["given", "least", "most"] f5 _ := ⟨F5, PySem.W.mg_of X G a5, F5.binds fun _ _ _ _ _ _ us hl => match us, hl with | [_, _, _], _ => rfl⟩
  have F6 := fun_mk (st := sNext) l6 c6 k6
  have d6 : Df K mg "next_mark" sNext ["step", "count", "mark"] f6 _ := ⟨F6, PySem.W.mg_of X G a6, F6.binds fun _ _ _ _ _ _ us hl => match us, hl with | [_, _, _], _ => rfl⟩
  have F7 := fun_mk (st := sLast) l7 c7 k7
  have d7 : Df K mg "last_mark" sLast ["step", "count", "mark"] f7 _ := ⟨F7, PySem.W.mg_of X G a7, F7.binds fun _ _ _ _ _ _ us hl => match us, hl with | [_, _, _], _ => rfl⟩
  have F8 := fun_mk (st := sBehind) l8 c8 k8
  have d8 : Df K mg "mark_behind" sBehind ["mark", "many", "first", "last"] f8 _ := ⟨F8, PySem.W.mg_of X G a8, F8.binds fun _ _ _ _ _ _ us hl => match us, hl with | [_, _, _, _], _ => rfl⟩
  have F9 := fun_mk (st := sChCount) l9 c9 k9
  have d9 : Df K mg "_check_count" sChCount ["step", "count"] f9 _ := ⟨F9, PySem.W.mg_of X G a9, F9.binds fun _ _ _ _ _ _ us hl => match us, hl with | [_, _], _ => rfl⟩
  have F10 := fun_mk (st := sChMark) l10 c10 k10
  have d10 : Df K mg "_check_mark" sChMark ["step", "count", "mark"] f10 _ := ⟨F10, PySem.W.mg_of X G a10, F10.binds fun _ _ _ _ _ _ us hl => match us, hl with | [_, _, _], _ => rfl⟩
  have F11 := fun_mk (st := sMany) l11 c11 k11
  have d11 : Df K mg "_how_many_places" sMany ["step", "count"] f11 _ := ⟨F11, PySem.W.mg_of X G a11, F11.binds fun _ _ _ _ _ _ us hl => match us, hl with | [_, _], _ => rfl⟩
  have F12 := fun_mk (st := sBeside) l12 c12 k12
  have d12 : Df K mg "_beside_zero" sBeside ["step", "many"] f12 _ := ⟨F12, PySem.W.mg_of X G a12, F12.binds fun _ _ _ _ _ _ us hl => match us, hl with | [_, _], _ => rfl⟩
  have F13 := fun_mk (st := sOrder) l13 c13 k13
  have d13 : Df K mg "order" sOrder ["step", "count"] f13 _ := ⟨F13, PySem.W.mg_of X G a13, F13.binds fun _ _ _ _ _ _ us hl => match us, hl with | [_, _], _ => rfl⟩
  have F14 := fun_mk (st := sTin) l14 c14 k14
  have d14 : Df K mg "_law_tin" sTin ["_law_script", "_law_turn"] f14 _ := ⟨F14, PySem.W.mg_of X G a14, F14.binds fun _ _ _ _ _ _ us hl => match us, hl with | [_, _], _ => rfl⟩
  have F15 := fun_mk (st := sSip) l15 c15 k15
  have d15 : Df K mg "_law_sip" sSip ["_law_tin_here", "_law_top"] f15 _ := ⟨F15, PySem.W.mg_of X G a15, F15.binds fun _ _ _ _ _ _ us hl => match us, hl with | [_, _], _ => rfl⟩
  have F16 := fun_mk (st := sPick) l16 c16 k16
  have d16 : Df K mg "_law_pick" sPick ["_law_tin_here", "_law_menu"] f16 _ := ⟨F16, PySem.W.mg_of X G a16, F16.binds fun _ _ _ _ _ _ us hl => match us, hl with | [_, _], _ => rfl⟩
  have F17 := fun_mk (st := sFar) l17 c17 k17
  have d17 : Df K mg "_law_far" sFar ["_law_tin_here", "_law_most"] f17 _ := ⟨F17, PySem.W.mg_of X G a17, F17.binds fun _ _ _ _ _ _ us hl => match us, hl with | [_, _], _ => rfl⟩
  have F18 := fun_mk (st := sGcd) l18 c18 k18
  have d18 : Df K mg "_law_gcd" sGcd ["_law_one", "_law_two"] f18 _ := ⟨F18, PySem.W.mg_of X G a18, F18.binds fun _ _ _ _ _ _ us hl => match us, hl with | [_, _], _ => rfl⟩
  have F19 := fun_mk (st := sLow) l19 c19 k19
  have d19 : Df K mg "_law_low" sLow ["_law_top", "_law_bottom"] f19 _ := ⟨F19, PySem.W.mg_of X G a19, F19.binds fun _ _ _ _ _ _ us hl => match us, hl with | [_, _], _ => rfl⟩
  have F20 := fun_mk (st := sStep) l20 c20 k20
  have d20 : Df K mg "_law_step" sStep ["_law_tin_here", "_law_most"] f20 _ := ⟨F20, PySem.W.mg_of X G a20, F20.binds fun _ _ _ _ _ _ us hl => match us, hl with | [_, _], _ => rfl⟩
  have F21 := fun_mk (st := sLBehind) l21 c21 k21
  have d21 : Df K mg "_law_behind" sLBehind ["_law_many", "_law_first", "_law_last", "_law_k"] f21 _ := ⟨F21, PySem.W.mg_of X G a21, F21.binds fun _ _ _ _ _ _ us hl => match us, hl with | [_, _, _, _], _ => rfl⟩
  have F22 := fun_mk (st := sRight) l22 c22 k22
  have d22 : Df K mg "_law_right" sRight ["_law_tin_here"] f22 _ := ⟨F22, PySem.W.mg_of X G a22, F22.binds fun _ _ _ _ _ _ us hl => match us, hl with | [_], _ => rfl⟩
  have F23 := fun_mk (st := sLaw) l23 c23 k23
  have n0 := PySem.W.mg_none_of X G z0
  have n1 := PySem.W.mg_none_of X G z1
  have n2 := PySem.W.mg_none_of X G z2
  have n3 := PySem.W.mg_none_of X G z3
  have n4 := PySem.W.mg_none_of X G z4
  have n5 := PySem.W.mg_none_of X G z5
  have n6 := PySem.W.mg_none_of X G z6
  have n7 := PySem.W.mg_none_of X G z7
  have n8 := PySem.W.mg_none_of X G z8
  have n9 := PySem.W.mg_none_of X G z9
  have n10 := PySem.W.mg_none_of X G z10
  have v0 := PySem.W.mg_of X G m0
  have v1 := PySem.W.mg_of X G m1
  have v2 := PySem.W.mg_of X G m2
  have bl : Bl mg := ⟨n0, n1, n2⟩
  have bc : Bc mg := ⟨n3, n1, n4, n5, n0, v0⟩
  have rk : Rk K mg := { c := bc, min := n8, mc := ⟨_, v1⟩, fi := ⟨f0, _⟩, di := d0, fr := ⟨f1, _⟩, dr := d1, fs := ⟨f2, _⟩, ds := d2, fc := ⟨f4, _⟩, dc := d4, fm := ⟨f3, _⟩, dm := d3, fn := ⟨f5, _⟩, dn := d5, gb := ⟨f8, _⟩, eb := d8, gc := ⟨f9, _⟩, ec := d9, gk := ⟨f10, _⟩, ek := d10, gm := ⟨f11, _⟩, em := d11, gz := ⟨f12, _⟩, ez := d12 }
  have M : All K mg := { rk := rk, bl := bl, bo := ⟨bc, n6, n7, _, v2⟩, fo := ⟨f13, _⟩, dO := d13, fx := ⟨f6, _⟩, dx := d6, fl := ⟨f7, _⟩, dl := d7, gt := ⟨f14, _⟩, lt := d14, gs := ⟨f15, _⟩, ls := d15, gp := ⟨f16, _⟩, lp := d16, gf := ⟨f17, _⟩, lf := d17, gg := ⟨f18, _⟩, lg := d18, gl := ⟨f19, _⟩, ll := d19, ge := ⟨f20, _⟩, le := d20, gb := ⟨f21, _⟩, lb := d21 }
  exact ⟨_, fun s v => .of_eq rfl, fun base _ _ => ok_law F23 M ⟨n10, n9, n8⟩ d22⟩
theorem walk {l : PySem.W.OpenLaw} {q : Program} {loose : List Str} {XP : (Str → Option Value) → Heap → Prop} {YP : World → Heap → Prop} {d : DefRec} {K : Params → PySem.W.Frag} (hn : l.most = some 63) (hdf : d.params.defaults = [])
    (hY : ∀ (w : World) (h : Heap), YP w h → (K w.params).In h) (F : ∀ (w : World) (mg : Str → Option Value) (fa : Addr) (h : Heap), (K w.params).In h → h.Ns mainGlobals mg → mg d.name = some (.ref fa) →
      ∃ fd : FuncData, (∀ (s : Shared) (u : Value), BindsTo s fd ⟨[u], []⟩ [("_law_script", u)]) ∧ ∀ base : Heap, (K w.params).In base → base.Ns mainGlobals mg → FnG l.prog w (K w.params) mg base CX0 9 fa fd ["_law_script"] (spLaw (K w.params))) :
    PySem.W.WalkO q loose XP YP l.row.toRowW d [] (fun f vs => PySem.call f vs) :=
  walkG (n := 63) (k := 9) (x := "_law_script") (CX := fun _ => CX0) (sp := fun w => spLaw (K w.params)) hn (by decide) hdf ⟨rfl, by decide, by decide⟩ hY F (fun _ _ a ns hl _ hS => ⟨a, ns, rfl, hS, hl, fun _ => rfl⟩) fun _ _ _ _ _ z => z
end My
open PySem PySem.W PyProof.Rows
set_option maxRecDepth 100000 in
set_option maxHeartbeats 0 in
theorem PySem.Challenge.cw_rimorders_k03_whole_who_comes_behind_holds : PySem.Challenge.rw_rimorders_k03_whole_who_comes_behind.Holds := by
  w_on; o_law; k_head; (case hw => w_witness2)
  k_fill
  refine My.walk (l := PySem.Challenge.rw_rimorders_k03_whole_who_comes_behind) rfl rfl (fun w h Y => PySem.W.kIn_of Y) ?F
  case F =>
    intro w mg fa h KX G hmg
    refine' My.all_mk KX G hmg ?a0 ?l0 ?c0 ?k0 ?a1 ?l1 ?c1 ?k1 ?a2 ?l2 ?c2 ?k2 ?a3 ?l3 ?c3 ?k3 ?a4 ?l4 ?c4 ?k4 ?a5 ?l5 ?c5 ?k5 ?a6 ?l6 ?c6 ?k6 ?a7 ?l7 ?c7 ?k7 ?a8 ?l8 ?c8 ?k8 ?a9 ?l9 ?c9 ?k9 ?a10 ?l10 ?c10 ?k10 ?a11 ?l11 ?c11 ?k11 ?a12 ?l12 ?c12 ?k12 ?a13 ?l13 ?c13 ?k13 ?a14 ?l14 ?c14 ?k14 ?a15 ?l15 ?c15 ?k15 ?a16 ?l16 ?c16 ?k16 ?a17 ?l17 ?c17 ?k17 ?a18 ?l18 ?c18 ?k18 ?a19 ?l19 ?c19 ?k19 ?a20 ?l20 ?c20 ?k20 ?a21 ?l21 ?c21 ?k21 ?a22 ?l22 ?c22 ?k22 ?a23 ?l23 ?c23 ?k23 ?z0 ?z1 ?z2 ?z3 ?z4 ?z5 ?z6 ?z7 ?z8 ?z9 ?z10 ?m0 ?m1 ?m2
    (case a0 => k_is)
    (case l0 => k_is)
    (case c0 => k_is)
    (case k0 => k_is)
    (case a1 => k_is)
    (case l1 => k_is)
    (case c1 => k_is)
    (case k1 => k_is)
    (case a2 => k_is)
    (case l2 => k_is)
    (case c2 => k_is)
    (case k2 => k_is)
    (case a3 => k_is)
    (case l3 => k_is)
    (case c3 => k_is)
    (case k3 => k_is)
    (case a4 => k_is)
    (case l4 => k_is)
    (case c4 => k_is)
    (case k4 => k_is)
    (case a5 => k_is)
    (case l5 => k_is)
    (case c5 => k_is)
    (case k5 => k_is)
    (case a6 => k_is)
    (case l6 => k_is)
    (case c6 => k_is)
    (case k6 => k_is)
    (case a7 => k_is)
    (case l7 => k_is)
    (case c7 => k_is)
    (case k7 => k_is)
    (case a8 => k_is)
    (case l8 => k_is)
    (case c8 => k_is)
    (case k8 => k_is)
    (case a9 => k_is)
    (case l9 => k_is)
    (case c9 => k_is)
    (case k9 => k_is)
    (case a10 => k_is)
    (case l10 => k_is)
    (case c10 => k_is)
    (case k10 => k_is)
    (case a11 => k_is)
    (case l11 => k_is)
    (case c11 => k_is)
    (case k11 => k_is)
    (case a12 => k_is)
    (case l12 => k_is)
    (case c12 => k_is)
    (case k12 => k_is)
    (case a13 => k_is)
    (case l13 => k_is)
    (case c13 => k_is)
    (case k13 => k_is)
    (case a14 => k_is)
    (case l14 => k_is)
    (case c14 => k_is)
    (case k14 => k_is)
    (case a15 => k_is)
    (case l15 => k_is)
    (case c15 => k_is)
    (case k15 => k_is)
    (case a16 => k_is)
    (case l16 => k_is)
    (case c16 => k_is)
    (case k16 => k_is)
    (case a17 => k_is)
    (case l17 => k_is)
    (case c17 => k_is)
    (case k17 => k_is)
    (case a18 => k_is)
    (case l18 => k_is)
    (case c18 => k_is)
    (case k18 => k_is)
    (case a19 => k_is)
    (case l19 => k_is)
    (case c19 => k_is)
    (case k19 => k_is)
    (case a20 => k_is)
    (case l20 => k_is)
    (case c20 => k_is)
    (case k20 => k_is)
    (case a21 => k_is)
    (case l21 => k_is)
    (case c21 => k_is)
    (case k21 => k_is)
    (case a22 => k_is)
    (case l22 => k_is)
    (case c22 => k_is)
    (case k22 => k_is)
    (case a23 => k_is)
    (case l23 => k_is)
    (case c23 => k_is)
    (case k23 => k_is)
    (case z0 => k_is)
    (case z1 => k_is)
    (case z2 => k_is)
    (case z3 => k_is)
    (case z4 => k_is)
    (case z5 => k_is)
    (case z6 => k_is)
    (case z7 => k_is)
    (case z8 => k_is)
    (case z9 => k_is)
    (case z10 => k_is)
    (case m0 => k_is)
    (case m1 => k_is)
    (case m2 => k_is)
