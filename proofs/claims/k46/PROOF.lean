import PyProof.Rows.All
import Wide.All
import OpenK.AllK
import Wide.FinOn
import HandS.ForMost
import HandS.ExcValue
import HandS.ExcInit
import HandS.IsInst
import HandS.ExcIs
import HandS.ExcField
import HandS.Wide
import HandS.WideBits
import HandS.MakeKwOnly
import KE.KExcIs
import HandS.Defaults
import HandS.HeadEnd
import HandS.HeadHook4
import HandS.Head2
import HandS.Conv
import HandS.TupAny
import HandS.SortOrd
import HandS.SortRule
import PyProof.ReprRoads
import HandS.NamedTupSort
import HandS.Walk
import HandS.Iter
import HandS.Zip
import HandS.Words
import HandS.Ends
import PyProof.TypeEq
import PyProof.InstEq
import PyProof.ReprLen
import PyProof.FitsInt
import HandS.RaiseMore
import HandS.Style
import KE.DatumOrd
import HandS.DictComp
import HandS.Flt
import HandS.DictTup
import KE.KDictWalk
import HandS.EndTab
import HandS.NestedK
import KE.KDictItemsList
import HandS.Deep
import HandS.SortInts
import HandS.More
import HandS.TupSets
import PySem.Challenge.RW_facesagain_k46_values_of_one_number
set_option Elab.async false
set_option linter.all false
set_option maxRecDepth 100000
/-! exceptions of own classes as values: made with an own __init__ (positional, keywords), their fields, isinstance -/
namespace PySem
namespace Fa
open PySem.W PySem.Calls PyProof.Rows PySem.HandSPX
section
variable {prog : Program} {w : World} {A : Around} {E : Value → Shared → Prop} {R : Result → Shared → Prop} {h : Heap} {g : Array GenState} {d : Drawn} {t : Nat} {os : OsState}
variable {nm q : Str} {C N : Addr} {bs bm bmB : List Value} {hdct : Bool} {sn : List Str} {sub : List Value} {ab : Bool} {col : Option Bool} {dd : Option Addr} {k0 k1 k2 k3 k5 : Option Value} {B newId initId : String}
theorem kw_check (F : ExcBaseFacts B newId initId bmB) (same : ∀ X : String, bm.contains (.type X) = bmB.contains (.type X)) {us : List Value} {kw : List (Str × Value)} {Q : Unit → Shared → Prop}
    (oC : h.get? C = some (excClassObj nm q C N bs bm hdct sn sub ab col dd k0 k1 k2 k3 k5 newId)) (fin : Q () ⟨h, g, d, t, os⟩) : wpAny (model prog w) A (checkBuiltinCall newId ⟨.ref C :: us, kw⟩) Q E ⟨h, g, d, t, os⟩ := by
  have c1 : (Value.ref C :: bm).contains (.type B) = true := by rw [List.contains_cons, same, F.hasB, Bool.or_true]
  have c2 := F.noStar
  simp only [checkBuiltinCall, F.newKind, F.newSplit, F.newRow]
  repeat (first
    | refine wpAny_loadPart_at oC ?_
    | (refine wpAny_isSubtype_exc oC ?_; rw [c1])
    | refine wpAny_staticBase_exc oC ?_
    | refine wpAny_madeBy_exc oC ?_
    | simp only [bne_self_eq_false, Bool.false_eq_true, if_false]
    | wp_step)
  exact fin
theorem kw_new (F : ExcBaseFacts B newId initId bmB) (same : ∀ X : String, bm.contains (.type X) = bmB.contains (.type X)) {us : List Value} {kw : List (Str × Value)}
    (oC : h.get? C = some (excClassObj nm q C N bs bm hdct sn sub ab col dd k0 k1 k2 k3 k5 newId))
    (fin : R (.ok (.ret (.ref (h.objs.size + 1)))) ⟨(h.push { cls := .type "tuple", data := .seq us.toArray }).push { cls := .ref C, data := .fields #[.ref h.objs.size, .none, .none, .none, .bool false, .none] }, g, d, t, os⟩)
    (hu : us.length ≤ sizeLine) : codeAny (model prog w) A (.builtin newId ⟨.ref C :: us, kw⟩) R ⟨h, g, d, t, os⟩ := by
  have c0 := F.ends
  have c1 : (Value.ref C :: bm).contains (.type B) = true := by rw [List.contains_cons, same, F.hasB, Bool.or_true]
  have c2 : (Value.ref C :: bm).contains (.type "AttributeError") = false := by rw [List.contains_cons, same, F.noAttr]; rfl
  have c3 : (Value.ref C :: bm).contains (.type "NameError") = false := by rw [List.contains_cons, same, F.noName]; rfl
  refine codeAny_builtinAt F.entry ?_
  unfold Builtin.«BaseException.__new__»
  refine wpAt_bind ?_
  show wpAt _ _ _ (stack >>= _) _ _ _
  refine wpAt_bind (wpAt_stack fun p below => wpAt_of_wpAny ?_)
  wp_walk
  refine wpAt_of_wpAny ?_
  rw [F.owner]
  repeat (first
    | with_reducible refine wpAny_madeHere_exc F.canon oC ?_
    | with_reducible refine wpAny_loadPart_at oC ?_
    | (with_reducible refine wpAny_isSubtype_exc oC ?_; first | rw [c1] | rw [c2] | rw [c3])
    | wp_step)
  show R _ _
  rw [Heap.size_push]
  exact fin
theorem kw_type_call (F : ExcBaseFacts B newId initId bmB) (same : ∀ X : String, bm.contains (.type X) = bmB.contains (.type X)) {us : List Value} {kw : List (Str × Value)} {fI : Addr} {Q : Fin → Shared → Prop}
    (oC : h.get? C = some (excClassObj nm q C N bs bm hdct sn sub ab col dd k0 k1 k2 k3 k5 newId))
    (hi : W.Looks (model prog w) h (typeLookup (.ref C) "__init__") (some (.ref fI))) (hb : ∀ self, W.Looks (model prog w) h (bindSpecial (.ref fI) self) (.ref fI, [self])) (hu : us.length ≤ sizeLine)
    (run : codeAny (model prog w) A (.call (.ref fI) ⟨.ref (h.objs.size + 1) :: us, kw⟩)
      (fun r s' => match r with | .ok (.ret v) => v = .none ∧ Q (.done (.ret (.ref (h.objs.size + 1)))) s' | .ok _ => False | .error e => E e s')
      ⟨(h.push (W.kdv_tup us)).push (excO C h.objs.size), g, d, t, os⟩) :
    wpAny (model prog w) A (Builtin.«type.__call__» ⟨.ref C :: us, kw⟩) Q E ⟨h, g, d, t, os⟩ := by
  repeat (first
    | with_reducible refine wpAny_loadPart_at oC ?_
    | with_reducible refine wpAny_madeBy_exc oC ?_
    | wp_step)
  refine codeAny_call_builtin_code (Code.quiet_builtin _ F.quiet) (kw_check F same oC ?_)
  refine kw_new F same oC ?_ hu
  show wpAny _ _ _ _ _ _
  have kk : ∀ b o, h.get? b = some o → ((h.push (W.kdv_tup us)).push (excO C h.objs.size)).get? b = some o := fun b o e =>
    Heap.get?_push_of_some _ (Heap.get?_push_of_some _ e)
  have oC1 := kk _ _ oC
  have oE : ((h.push (W.kdv_tup us)).push (excO C h.objs.size)).get? (h.objs.size + 1) = some (excO C h.objs.size) := by
    heap_get
  have cC : (Value.ref C :: bm).contains (.ref C) = true := by
    simp
  have i1 := hi.keeps kk
  have b1 := (hb (.ref (h.objs.size + 1))).keeps kk
  unfold isInstance
  repeat (first
    | with_reducible refine wpAny_loadPart_at oE ?_
    | (with_reducible refine wpAny_isSubtype_exc oC1 ?_; rw [cC])
    | wp_step)
  show wpAny _ _ (typeLookup (.ref C) _) _ _ _
  refine i1.at ?_
  refine wpAny_holding (wpAny_bind (b1.at ?_))
  refine wpAny_bind (wpAny_call (codeAny_mono run fun r s' z => ?_))
  rcases r with e | (v | _ | _ | _) <;> first | exact z | exact z.elim | skip
  obtain ⟨rfl, z⟩ := z
  first
    | exact wpAny_pure (wpAny_pure z)
    | (wp_walk; exact z)
theorem kw_own (F : ExcBaseFacts B newId initId bmB) (same : ∀ X : String, bm.contains (.type X) = bmB.contains (.type X)) {us : List Value} {kw : List (Str × Value)} {fI : Addr}
    (oC : h.get? C = some (excClassObj nm q C N bs bm hdct sn sub ab col dd k0 k1 k2 k3 k5 newId))
    (hi : W.Looks (model prog w) h (typeLookup (.ref C) "__init__") (some (.ref fI))) (hb : ∀ self, W.Looks (model prog w) h (bindSpecial (.ref fI) self) (.ref fI, [self])) (hu : us.length ≤ sizeLine)
    (run : codeAny (model prog w) (A.under (.builtin "type.__call__" ⟨.ref C :: us, kw⟩)) (.call (.ref fI) ⟨.ref (h.objs.size + 1) :: us, kw⟩) (W.InitBack (h.objs.size + 1) R)
      ⟨(h.push (W.kdv_tup us)).push (excO C h.objs.size), g, d, t, os⟩) :
    codeAny (model prog w) A (.call (.ref C) ⟨us, kw⟩) R ⟨h, g, d, t, os⟩ := by
  have f1 := tc_lookup
  have f2 := tc_bind (.ref C)
  have hTy : (⟨h, g, d, t, os⟩ : Shared).TypeIs (.ref C) "type" := ⟨_, oC, rfl⟩
  refine codeAny_of_tree ?_
  show wpAny _ _ (callAny (.ref C) _) _ _ _
  repeat (any_goals (first
    | assumption
    | with_reducible refine wpAny_loadPart_at oC ?_
    | wp_step))
  refine ⟨rfl, ?_⟩
  refine codeAny_call_builtin_at (Code.quiet_builtin _ (by decide +kernel)) entry_typeCall (wpAny_check_type_call_sub oC (kw_type_call F same oC hi hb hu ?_))
  refine codeAny_mono run fun r s' z => ?_
  rcases r with e | (v | _ | _ | _) <;> exact z
end
end Fa
end PySem

namespace Fa
open PySem PySem.Spec PyProof.Rows L2
/-- C(e, .., k = v, ..), an own exception with its own __init__, as a value -/
def tMkV (C : Addr) (n m : Nat) (sp : Sp) (gV : List V → List V → List V) (t tk : TA) : TE := fun σ H Q => t σ H fun vs H1 => tk σ H1 fun zs H2 =>
  vs.length = n ∧ n ≤ 1000 ∧ zs.length = m ∧ ∀ a, H2 a = none → sp (gV (.ref a :: vs) zs) (upd H2 a (exo a C none)) (fun v H3 => v = .non ∧ Q (.ref a) H3) (fun _ _ _ => False)
section
variable {X : Cx} {CX : CXT} {k n : Nat} {fI C : Addr} {fd : FuncData} {ps ks : List Str} {sp : Sp} {x : Str} {p pos : Pos} {e : Expr} {es : List Expr} {kws : List Keyword} {t tk : TA} {g : List Value → List Value → List Value} {gV : List V → List V → List V}
theorem run_mkV {pins : List (Addr × Obj)} {σ : L2.St} {H : Hp} {s : Shared} {Q : VK} {us ws : List Value} {vs zs : List V} (T : OexC X.K C) (iC : PySem.W.findIn X.K (.ref C) "__init__" = some (some (.ref fI)))
    (tI : PySem.W.typeIn X.K (.ref fI) = some (.type "function")) (F1 : FnOk X.prog X.w X.K X.mg X.base CX k fI fd ps sp) (hr : Room (k + 1) X.A) (hb : KBn X.K fd ps (n + 1) ks g gV) (hx : Passes CX X (fun _ _ _ => False))
    (I : Inv X pins σ H s) (r : Vals vs us) (rz : Vals zs ws) (l1 : vs.length = n) (l0 : n ≤ 1000) (l2 : zs.length = ks.length)
    (h : ∀ a, H a = none → sp (gV (.ref a :: vs) zs) (upd H a (exo a C none)) (fun v H3 => v = .non ∧ Q (.ref a) H3) (fun _ _ _ => False)) :
    wpAny (model X.prog X.w) X.A (call (.ref C) us (ks.zip ws)) (EP X pins σ Q) X.xe s := by
  obtain ⟨nm, q, N, bs, bm, sn, sub, ab, col, dd, k0, k1, k2, k3, k5, hC, hbm⟩ := T.cls
  obtain ⟨hp, gg, dr, t1, os⟩ := s
  have big : hp.objs.size ≤ hp.objs.size + 1 := Nat.le_succ _
  have hq := h (hp.objs.size + 1) (I.hok.fresh big)
  have kk : ∀ b o, hp.get? b = some o → ((hp.push (PySem.W.kdv_tup us)).push (PySem.HandSPX.excO C hp.objs.size)).get? b = some o := fun b o e =>
    Heap.get?_push_of_some _ (Heap.get?_push_of_some _ e)
  have oE : ((hp.push (PySem.W.kdv_tup us)).push (PySem.HandSPX.excO C hp.objs.size)).get? (hp.objs.size + 1) = some (PySem.HandSPX.excO C hp.objs.size) := by
    heap_get
  have I2 : Inv X pins σ (upd H (hp.objs.size + 1) (exo (hp.objs.size + 1) C none)) ⟨(hp.push (PySem.W.kdv_tup us)).push (PySem.HandSPX.excO C hp.objs.size), gg, dr, t1, os⟩ :=
    I.laid (t' := t1) (a := hp.objs.size + 1) (o := exo (hp.objs.size + 1) C none) kk big (exo_ok oE)
  have r1 : Vals (V.ref (hp.objs.size + 1) :: vs) (Value.ref (hp.objs.size + 1) :: us) := .cons rfl r
  have r2 := hb.rel r1 rz
  have n1 : (Value.ref (hp.objs.size + 1) :: us).length = n + 1 := by
    rw [List.length_cons, ← r.length, l1]
  have hus : us.length ≤ sizeLine := by
    rw [← r.length, l1, sizeLine_eq]
    omega
  refine wpAny_call (PySem.Fa.kw_own F.excBase_ValueError (fun Y => PySem.HandSPX.refsVE_contains Y bm hbm) (I.kIn _ _ hC) (PySem.W.looks_findIn I.kIn iC) (fun self => PySem.W.bind_fn I.kIn self tI) hus
    (codeAny_mono (F1.run _ X.stack _ _ ⟨Value.ref (hp.objs.size + 1) :: us, ks.zip ws⟩ (g (Value.ref (hp.objs.size + 1) :: us) ws) _ _ (fun _ _ _ => False) (hr.make C us (ks.zip ws))
      (I2.env0.make C us (ks.zip ws)) (hb.to _ (Value.ref (hp.objs.size + 1) :: us) ws I2.kIn n1 (rz.length.symm.trans l2)) r2 hq) fun r s' hq' => ?_))
  cases r with
  | error er => exact hx pins σ _ _ er s' I2 hq'
  | ok fl =>
    cases fl with
    | ret u =>
      obtain ⟨v, H', I3, rv, ev, q3⟩ := I2.after hq'
      subst ev
      exact ⟨rv, V.ref (hp.objs.size + 1), H', I3, rfl, q3⟩
    | next => exact False.elim hq'
    | brk => exact False.elim hq'
    | cont => exact False.elim hq'
theorem pe_mkV (T : OexC X.K C) (iC : PySem.W.findIn X.K (.ref C) "__init__" = some (some (.ref fI))) (tI : PySem.W.typeIn X.K (.ref fI) = some (.type "function"))
    (F1 : FnOk X.prog X.w X.K X.mg X.base CX k fI fd ps sp) (hr : Room (k + 1) X.A) (hg : Gl X x) (hm : X.mg x = some (.ref C)) (hb : KBn X.K fd ps (n + 1) [] g gV) (hx : Passes CX X (fun _ _ _ => False)) (ha : PA X (e :: es) t)
    (hdb : (x == ("__debug__" : Str)) = false := by decide) (he : starEach (e :: es) X.env = (false, eval e X.env) :: starEach es X.env := by rfl) (hpl : (backTo pos (starEach es X.env)).any (·.1) = false := by rfl) :
    PE X (.Call (.Name x p) (e :: es) [] pos) (tMkV C n 0 sp gV t tNil) := by
  refine ⟨fun pins s σ H Q I h => ?_⟩
  refine wpAny_Call_Name_kw (ld_glob I hg hm ?_ hdb)
  refine PySem.W.callWith_K (h₀ := X.base) I.ok.mod.kin T.kC (thn (ha.run pos pins s σ H _ I h) fun us s1 ⟨vs, H1, I1, r1, l1, l0, l2, q1⟩ => ⟨I1.kIn, ?_⟩) he hpl
  exact run_mkV (ks := []) (ws := []) (zs := []) T iC tI F1 hr hb hx I1 r1 .nil l1 l0 l2 q1
theorem pe_mkVK (T : OexC X.K C) (iC : PySem.W.findIn X.K (.ref C) "__init__" = some (some (.ref fI))) (tI : PySem.W.typeIn X.K (.ref fI) = some (.type "function"))
    (F1 : FnOk X.prog X.w X.K X.mg X.base CX k fI fd ps sp) (hr : Room (k + 1) X.A) (hg : Gl X x) (hm : X.mg x = some (.ref C)) (hb : KBn X.K fd ps 1 ks g gV) (hx : Passes CX X (fun _ _ _ => False)) (hkw : PK X kws tk)
    (hall : (backToKw pos (keywordEach kws X.env)).all (·.1.isSome) = true := by rfl) (hks : (backToKw pos (keywordEach kws X.env)).filterMap (·.1) = ks := by rfl) (hdb : (x == ("__debug__" : Str)) = false := by decide)
    (hpl : ((backTo pos (starEach [] X.env)).any (·.1) || (backToKw pos (keywordEach kws X.env)).any (·.1.isNone)) = false := by rfl) :
    PE X (.Call (.Name x p) [] kws pos) (tMkV C 0 ks.length sp gV tNil tk) := by
  refine ⟨fun pins s σ H Q I h => ?_⟩
  refine wpAny_Call_Name_kw (ld_glob I hg hm ?_ hdb)
  refine PySem.W.callWith_KW0 (h₀ := X.base) I.ok.mod.kin T.kC hall ?_ hpl
  refine thn (hkw.run pos pins s σ H _ I h) fun ws s2 ⟨zs, H2, I2, rz, l1, l0, l2, q2⟩ => ⟨I2.kIn, ?_⟩
  rw [hks]
  exact run_mkV (us := []) (vs := []) T iC tI F1 hr hb hx I2 .nil rz rfl l0 l2 q2
end
/-- at a: an exception of the class at C, with these fields -/
def ExcAt (H : Hp) (a C : Addr) (fs : List (Str × V)) : Prop := (H a = some (ExO (.ref C) a) ∧ fs = []) ∨ ∃ d, H a = some (exo a C (some d)) ∧ H d = some (exd d fs)
theorem ExcAt.same {H H' : Hp} {a C : Addr} {fs : List (Str × V)} (e : Same H H') (h : ExcAt H a C fs) : ExcAt H' a C fs := by
  rcases h with ⟨h, z⟩ | ⟨d, h1, h2⟩
  · exact .inl ⟨e _ _ h, z⟩
  · exact .inr ⟨d, e _ _ h1, e _ _ h2⟩
theorem ExcAt.inst {P : Program} {w : World} {H : Hp} {h : Heap} {a C : Addr} {fs : List (Str × V)} (hok : HOk P w H h) (x : ExcAt H a C fs) : ∃ o od, PySem.W.InstAt h a o C od := by
  rcases x with ⟨x, _⟩ | ⟨d, x1, x2⟩
  · have y : ObjOk P w H h a (.ext fun h => ∃ (oe : Obj) (vs : Array Value), h.get? a = some oe ∧ Zc (.ref C) none oe ∧ oe.data = .fields vs ∧ vs[1]? = some .none ∧ vs[2]? = some .none ∧ 4 < vs.size) := hok a _ x
    obtain ⟨oe, vs, e, z, dt, _⟩ := y.1
    exact ⟨oe, none, e, z.1, by unfold PySem.W.notCls; rw [dt] <;> rfl, by rw [z.2]; trivial⟩
  · obtain ⟨t1, e⟩ := exo_at hok x1
    obtain ⟨mA, ⟨od, es, ep, e2, _⟩, _⟩ := exd_at hok x2
    exact ⟨_, some od, e, rfl, rfl, e2⟩
/-- what isinstance and a field's read ask of the class -/
structure KxC (K : PySem.W.Frag) (C : Addr) : Prop where
  cl : (PySem.W.clsIn K C).isSome = true
  ga : PySem.W.findIn K (.ref C) "__getattribute__" = some (some (.builtin "BaseException.__getattribute__"))
  gg : PySem.W.findIn K (.ref C) "__getattr__" = some none
  sb : PySem.W.subIn K (.ref C) (.type "BaseException") = some true
  ca : PySem.W.findIn K (.ref C) "__class__" = some (some (.builtin "object.__class__"))
  cg : PySem.W.specialIn K (.builtin "object.__class__") "__get__" = some (some (.builtin "getset_descriptor.__get__"))
  tk : PySem.W.takesIn K (.builtin "object.__class__") = some true
  mr : PySem.W.mroIn K C (.type "object") = some true
/-- isinstance(x, c), x an exception of an own class -/
def rIsiE (K : PySem.W.Frag) : List V → Hp → VK → Prop := fun xs H Q => ∃ (a C : Addr) (fs : List (Str × V)) (c : V) (u : Value) (b : Bool), xs = [.ref a, c] ∧ ExcAt H a C fs ∧ KxC K C ∧ ClsV c u ∧ PySem.W.kitOne K (.ref C) u = some b ∧ Q (.bl b) H
theorem call_isiE {X : Cx} : CallR X (.builtin "isinstance") (rIsiE X.K) := by
  intro pins s σ H xs us Q I r h
  obtain ⟨a, C, fs, c, u, b, rfl, ex, k, kc, e, q⟩ := h
  obtain ⟨u1, u2, rfl, r1, r2⟩ := vals2 r
  have e2 := kc.eq r2
  subst e2
  cases (show u1 = Value.ref a from r1)
  obtain ⟨o, od, J⟩ := ex.inst I.hok
  exact PySem.W.kia_one (PySem.W.kitx_exc k.cl k.ga k.gg k.sb k.ca k.cg k.tk k.mr) I.kIn J e (fun z => nomatch z) fun tk => ⟨.bl b, H, I.tok tk, rfl, q⟩
/-- e.f, e an exception of an own class that keeps it -/
def tXfV (K : PySem.W.Frag) (f : Str) (te : TE) : TE := fun σ H Q => te σ H fun x H1 => ∃ (a C d : Addr) (fs : List (Str × V)) (v : V), x = .ref a ∧ H1 a = some (exo a C (some d)) ∧ H1 d = some (exd d fs) ∧ XfC K C ∧
  PySem.W.findIn K (.ref C) f = some none ∧ fs.lookup f = some v ∧ Q v H1
theorem pe_xfV {X : Cx} {e : Expr} {te : TE} {pos : Pos} {n : Str} (he : PE X e te) (hb : attributeBase e n X.env (eval e X.env) = eval e X.env := by rfl) : PE X (.Attribute e n pos) (tXfV X.K n te) := by
  refine ⟨fun pins s σ H Q I h => ?_⟩
  refine attr_of hb (thn (he.run pins s σ H _ I h) fun u s1 hh => ?_)
  obtain ⟨x, H1, I1, rx, a, C, d, fs, v, ex, ea, ed, T, hno, l, q⟩ := hh
  subst ex
  obtain rfl : u = Value.ref a := rx
  obtain ⟨t1, hx⟩ := exo_at I1.hok ea
  obtain ⟨mA, hns, hr⟩ := exd_at I1.hok ed
  obtain ⟨od, ho, hl⟩ := lookIn_ns hns
  obtain ⟨u, hu, ru⟩ := RelO.some_of (v := v) (o := mA n) (by rw [← l]; exact hr n)
  have J : PySem.W.InstAt s1.heap a { cls := .ref C, dict := some d, data := .fields #[.ref t1, .none, .none, .none, .bool false, .none] } C (some od) := ⟨hx, rfl, rfl, ho⟩
  exact HandSPX.exc_get I1.kIn J T.ga T.gg T.exC (PySem.W.findObj_own T.hdC hno rfl (by rw [hl, hu])) (handed_of ru) ⟨v, H1, I1.tok _, ru, q⟩
/-! ### powers of any size -/
def CPowW (i j : Int) : Prop := 0 ≤ j ∧ j ≤ 64 ∧ ∃ n, i.natAbs < 2 ^ n ∧ n ≤ 1000000
theorem op_powW {X : Cx} : OpR X (binaryOp .Pow) (rI CPowW fun i j => .int (i ^ j.toNat)) := opI fun i j _ _ _ _ _ hc q => by
  obtain ⟨h0, h1, n, hn, hs⟩ := hc
  refine pow_int h0 ?_ q
  have b := PyProof.Rows.intBits_le hn
  have e : (2 : Int) ^ 27 = 134217728 := by decide
  have m : (Builtin.Int.intBits i : Int) * j ≤ 1000000 * 64 := Int.mul_le_mul (by omega) h1 h0 (by omega)
  omega
end Fa

namespace Fa
open PySem PySem.Spec PyProof.Rows L2
section
variable {K : PySem.W.Frag} {x qual : Str} {st : Stmt} {f : Addr} {fd : FuncData} {ps ks : List Str} {n : Nat}
/-- a def without defaults, from the head's facts -/
theorem fun_of (F : FunD K x qual (defArgs st) (defBody st) (defScope st) [] [] f fd) : Fun K x qual st f fd := by
  obtain ⟨oc, od, dV, kV, doc, pm, an, cdv, ct, osl, e, lk, hcd, hD, _⟩ := F.ex
  rcases hD with ⟨_, z⟩ | ⟨z, _⟩
  · subst z
    exact ⟨⟨oc, od, kV, doc, pm, an, cdv, ct, osl, e, lk, hcd⟩, F.kp⟩
  · exact absurd rfl z
/-- how its arguments bind, where some are written by name -/
theorem kbn_of (F : Fun K x qual st f fd) (g : {α : Type} → List α → List α → List α) (hrel : ∀ {vs zs : List V} {us ws : List Value}, Vals vs us → Vals zs ws → Vals (g vs zs) (g us ws))
    (h : ∀ (kV doc pm : Value) (an : Option Addr) (cdv ct : Value) (us ws : List Value), us.length = n → ws.length = ks.length → bindArgs (PySem.W.fnOf x qual (defArgs st) (defBody st) (defScope st) .none kV doc pm an cdv ct) ⟨us, ks.zip ws⟩ = pure (ps.zip (g us ws))) :
    KBn K fd ps n ks (fun us ws => g us ws) (fun vs zs => g vs zs) := by
  obtain ⟨oc, od, kV, doc, pm, an, cdv, ct, osl, e, lk, hcd⟩ := F.ex
  subst e
  exact ⟨fun s us ws _ h1 h2 => .of_eq (h kV doc pm an cdv ct us ws h1 h2), fun r1 r2 => hrel r1 r2⟩
end
/-! ### rules whose reading names the written part by a letter (for blocks) -/
section
variable (K : PySem.W.Frag) {X : Cx}
theorem ixL (h : X.K = K := by rfl) : IxR X (rIxL K) := h ▸ ix_list
theorem ixT (h : X.K = K := by rfl) : IxR X (rIxT K) := h ▸ ix_tup
theorem slL (h : X.K = K := by rfl) : SlR X (rSlL K) := h ▸ sl_list
def rLenQ : List V → Hp → VK → Prop := fun xs H Q => ∃ p ys, xs = [.ref p] ∧ (SqL K H p ys ∨ SqT K H p ys) ∧ Q (.int ys.length) H
theorem lenQ (h : X.K = K := by rfl) : CallR X (.builtin "len") (rLenQ K) := h ▸ call_len_seq
theorem isiQ (h : X.K = K := by rfl) : CallR X (.builtin "isinstance") (rIsi K) := h ▸ call_isi
theorem isiTQ (h : X.K = K := by rfl) : CallR X (.builtin "isinstance") (rIsiT K) := h ▸ call_isiT
theorem isiEQ (h : X.K = K := by rfl) : CallR X (.builtin "isinstance") (rIsiE K) := h ▸ call_isiE
def rTupQ : List V → Hp → VK → Prop := fun xs H Q => ∃ p ys, xs = [.ref p] ∧ ((SqL K H p ys ∧ ∀ l, H l = none → Q (.ref l) (upd H l (.tup ys))) ∨ (SqT K H p ys ∧ Q (.ref p) H))
theorem tupQ (h : X.K = K := by rfl) : CallR X (.type "tuple") (rTupQ K) := h ▸ call_tuple_of
def rLstQ : List V → Hp → VK → Prop := fun xs H Q => ∃ p ys, xs = [.ref p] ∧ (SqL K H p ys ∨ SqT K H p ys) ∧ ∀ l, H l = none → Q (.ref l) (upd H l (.lst ys))
theorem lstQ (h : X.K = K := by rfl) : CallR X (.type "list") (rLstQ K) := h ▸ call_list_of
theorem allQ (hc : X.calm = true) (h : X.K = K := by rfl) : CallR X (.builtin "all") (rAll K) := h ▸ cr_all hc
theorem eqQ (hu : X.A.units + 64 < cLine) (h : X.K = K := by rfl) : OpR X (compareOp .Eq) (rEqD K) := h ▸ op_eqD hu
theorem neQ (hu : X.A.units + 64 < cLine) (h : X.K = K := by rfl) : OpR X (compareOp .NotEq) (rNeD K) := h ▸ op_neD hu
theorem inQ (h : X.K = K := by rfl) : OpR X (compareOp .In) (rIn K false) := h ▸ op_in_seq
theorem listQ {tg l : Expr} {tl : TE} (hl : PE X l tl) (h : X.K = K := by rfl) : PI X tg l (iList K tl) := h ▸ pi_list hl
end
/-! ### small things of readings -/
theorem yes_if {σ : L2.St} {H : Hp} {A B : Hp → Prop} (h : A H) : tYes σ H (fun b H3 => if b = true then A H3 else B H3) := by
  show (if true = true then A H else B H)
  rw [if_pos rfl]
  exact h
theorem same_new {H : Hp} {p : Addr} {o : HO} (h : H p = none) : Same H (upd H p o) := fun b x e => by
  rw [upd_ne (ne_of_none e h)]
  exact e
theorem cut_map (ns : List Int) (lo hi : Option Int) : ∃ ms : List Int, cutV (ns.map V.int) lo hi = ms.map V.int ∧ ms.length ≤ ns.length := by
  refine ⟨(ns.drop (HT.sIx (ns.map V.int).length 0 lo)).take (HT.sIx (ns.map V.int).length (ns.map V.int).length hi - HT.sIx (ns.map V.int).length 0 lo), ?_, ?_⟩
  · unfold cutV
    rw [List.map_take, List.map_drop]
  · rw [List.length_take, List.length_drop]
    omega
def But (p : Addr) (H H' : Hp) : Prop := ∀ b, b ≠ p → H' b = H b
theorem But.refl (p : Addr) (H : Hp) : But p H H := fun _ _ => rfl
theorem But.trans {p : Addr} {H H1 H2 : Hp} (a : But p H H1) (b : But p H1 H2) : But p H H2 := fun c h => (b c h).trans (a c h)
theorem But.upd {p : Addr} {H H1 : Hp} {o : HO} (a : But p H H1) : But p H (upd H1 p o) := fun c h => (upd_ne h).trans (a c h)
/-- all that was tracked stands, but at p -/
def Kp (p : Addr) (H H' : Hp) : Prop := ∀ b o, b ≠ p → H b = some o → H' b = some o
theorem Kp.refl (p : Addr) (H : Hp) : Kp p H H := fun _ _ _ h => h
theorem Kp.trans {p : Addr} {H H1 H2 : Hp} (a : Kp p H H1) (b : Kp p H1 H2) : Kp p H H2 := fun c o n h => b c o n (a c o n h)
theorem But.kp {p : Addr} {H H1 : Hp} (a : But p H H1) : Kp p H H1 := fun c o n h => (a c n).trans h
theorem kp_same {p : Addr} {H H1 : Hp} (a : Same H H1) : Kp p H H1 := fun c o _ h => a c o h
theorem Kp.free {p b : Addr} {H H1 : Hp} (a : Kp p H H1) (n : b ≠ p) (h : H1 b = none) : H b = none := by
  cases e : H b with
  | none => rfl
  | some o =>
    rw [a b o n e] at h
    cases h
theorem kp_new {p b : Addr} {H : Hp} {o : HO} (h : H b = none) : Kp p H (upd H b o) := fun c u _ e => by
  rw [upd_ne (ne_of_none e h)]
  exact e
/-- and one more object that was not tracked at the start may change -/
theorem Kp.mut {p b : Addr} {H H1 : Hp} {o : HO} (a : Kp p H H1) (h : H b = none) : Kp p H (upd H1 b o) := fun c u n e => by
  rw [upd_ne (ne_of_none e h)]
  exact a c u n e
theorem nat_lt_pow {x : Int} {n : Nat} (h0 : 0 < x) (h : x < 2 ^ n) : x.natAbs < 2 ^ n := by
  have e : ((2 ^ n : Nat) : Int) = (2 : Int) ^ n := by
    rw [Int.natCast_pow]
    rfl
  omega
theorem iteDS {c A B : Prop} [Decidable c] (hc : c) (h : A) : if decide c = true then A else B := by
  rw [decide_eq_true hc]
  exact iteT h
theorem int_at {ms : List Int} {i : Nat} {x : V} (h : (ms.map V.int)[i]? = some x) : ∃ n, ms[i]? = some n ∧ x = V.int n := by
  rw [List.getElem?_map] at h
  cases e : ms[i]? with
  | none =>
    rw [e] at h
    cases h
  | some z =>
    rw [e] at h
    exact ⟨z, rfl, (Option.some.inj h).symm⟩
end Fa

namespace Fa
open PySem PySem.Spec PyProof.Rows L2
/-! ### what the head tells of the exception classes, as one look -/
def oexB (K : PySem.W.Frag) (C : Addr) : Bool := (match K.lookup C with
  | some ⟨.type "type", _, .cls cd, sl⟩ => (match cd.mro, sl.toList with
    | .ref C' :: bm, [_, _, _, _, some (.builtin n), _] => C' == C && (n == "ValueError.__new__" && (!cd.hasDel && (cd.hasDict && PySem.HandSPX.refsVE bm)))
    | _, _ => false)
  | _ => false) && (He.eqO (PySem.W.findIn K (.ref C) "__setattr__") (some (some (.builtin "object.__setattr__"))) && (decide (PySem.W.subIn K (.ref C) (.type "BaseException") = some true) && (decide (PySem.W.typeIn K (.ref C) = some (.type "type")) && PySem.W.keepIn K (.ref C))))
theorem oexB_ok {K : PySem.W.Frag} {C : Addr} (q : oexB K C = true) : OexC K C := by
  unfold oexB at q
  obtain ⟨q, q2⟩ := He.ba q
  obtain ⟨q2, q3⟩ := He.ba q2
  obtain ⟨q3, q4⟩ := He.ba q3
  obtain ⟨q4, q5⟩ := He.ba q4
  refine ⟨?_, He.eqO_ok q2, of_decide_eq_true q3, of_decide_eq_true q4, q5⟩
  split at q
  · rename_i dd cd sl ho
    split at q
    · rename_i C' bm k0 k1 k2 k3 n k5 hm hs
      simp only [Bool.and_eq_true, beq_iff_eq, Bool.not_eq_true'] at q
      obtain ⟨rfl, rfl, hdel, hd1, ht⟩ := q
      obtain ⟨nm, bs, mro, ns, qn, hd, sn, sub, ab, col, del⟩ := cd
      dsimp only at hm hdel hd1
      subst hm hdel hd1
      have hsl : sl = #[k0, k1, k2, k3, some (.builtin "ValueError.__new__"), k5] := by
        obtain ⟨l⟩ := sl
        simp only at hs
        rw [hs]
      subst hsl
      exact ⟨nm, qn, ns, bs, bm, sn, sub, ab, col, dd, k0, k1, k2, k3, k5, ho, ht⟩
    · cases q
  · cases q
def kxB (K : PySem.W.Frag) (C : Addr) : Bool := (PySem.W.clsIn K C).isSome && (He.eqO (PySem.W.findIn K (.ref C) "__getattribute__") (some (some (.builtin "BaseException.__getattribute__"))) && (He.eqO (PySem.W.findIn K (.ref C) "__getattr__") (some none) &&
  (decide (PySem.W.subIn K (.ref C) (.type "BaseException") = some true) && (He.eqO (PySem.W.findIn K (.ref C) "__class__") (some (some (.builtin "object.__class__"))) && (He.eqO (PySem.W.specialIn K (.builtin "object.__class__") "__get__") (some (some (.builtin "getset_descriptor.__get__"))) &&
  (decide (PySem.W.takesIn K (.builtin "object.__class__") = some true) && decide (PySem.W.mroIn K C (.type "object") = some true)))))))
theorem kxB_ok {K : PySem.W.Frag} {C : Addr} (q : kxB K C = true) : KxC K C := by
  obtain ⟨h1, q⟩ := He.ba q
  obtain ⟨h2, q⟩ := He.ba q
  obtain ⟨h3, q⟩ := He.ba q
  obtain ⟨h4, q⟩ := He.ba q
  obtain ⟨h5, q⟩ := He.ba q
  obtain ⟨h6, q⟩ := He.ba q
  obtain ⟨h7, h8⟩ := He.ba q
  exact ⟨h1, He.eqO_ok h2, He.eqO_ok h3, of_decide_eq_true h4, He.eqO_ok h5, He.eqO_ok h6, of_decide_eq_true h7, of_decide_eq_true h8⟩
theorem all_lt {n : Nat} {f : Nat → Bool} (h : (List.range n).all f = true) : ∀ i, i < n → f i = true := fun i hi => List.all_eq_true.mp h i (List.mem_range.mpr hi)
end Fa

namespace Fa
open PySem PySem.Spec PyProof.Rows L2
/-! ### data: how deep, comparable with itself, shown -/
/-- no dict in it, texts fit, at most n deep -/
def Shp (n : Nat) (d : PyData) : Prop := PyData.canLay0 d = true ∧ PyData.depth d ≤ n
theorem shp_int (n : Nat) (i : Int) : Shp n (.int i) := ⟨rfl, Nat.zero_le _⟩
theorem shp_bool (n : Nat) (b : Bool) : Shp n (.bool b) := ⟨rfl, Nat.zero_le _⟩
theorem shp_all {n : Nat} : ∀ {ds : List PyData}, (∀ d ∈ ds, Shp n d) → PyData.canLayAll0 ds = true ∧ PyData.depthAll ds ≤ n
  | [], _ => ⟨rfl, Nat.zero_le _⟩
  | d :: ds, h => by
    obtain ⟨h1, h2⟩ := h d List.mem_cons_self
    obtain ⟨h3, h4⟩ := shp_all fun e he => h e (List.mem_cons_of_mem _ he)
    refine ⟨?_, ?_⟩
    · show (PyData.canLay0 d && PyData.canLayAll0 ds) = true
      rw [h1, h3]
      rfl
    · show max (PyData.depth d) (PyData.depthAll ds) ≤ n
      omega
theorem shp_list {n : Nat} {ds : List PyData} (h : ∀ d ∈ ds, Shp n d) : Shp (n + 1) (.list ds) := by
  obtain ⟨h1, h2⟩ := shp_all h
  exact ⟨h1, by show PyData.depthAll ds + 1 ≤ n + 1; omega⟩
theorem shp_tuple {n : Nat} {ds : List PyData} (h : ∀ d ∈ ds, Shp n d) : Shp (n + 1) (.tuple ds) := by
  obtain ⟨h1, h2⟩ := shp_all h
  exact ⟨h1, by show PyData.depthAll ds + 1 ≤ n + 1; omega⟩
theorem Shp.shaped {n : Nat} {d : PyData} (h : Shp n d) (hn : n ≤ 64) : SeqAt.shaped d = true := by
  unfold SeqAt.shaped
  rw [h.1, decide_eq_true (show PyData.depth d ≤ 64 by have := h.2; omega)]
  rfl
theorem shp_ints (n : Nat) (l : List Int) : Shp (n + 1) (.list (l.map PyData.int)) := shp_list fun d hd => by
  obtain ⟨i, _, rfl⟩ := List.mem_map.mp hd
  exact shp_int _ _
mutual
theorem eqv_same : ∀ d : PyData, PyData.canLay0 d = true → PyData.eqv d d = true
  | .none, _ => rfl
  | .bool b, _ => by rw [PyData.eqv, beq_self_eq_true]
  | .int i, _ => by rw [PyData.eqv, beq_self_eq_true]
  | .str x, _ => by rw [PyData.eqv, beq_self_eq_true]
  | .list xs, h => by
    rw [PyData.eqv]
    exact eqv_sames xs h
  | .tuple xs, h => by
    rw [PyData.eqv]
    exact eqv_sames xs h
  | .dict _, h => by cases h
theorem eqv_sames : ∀ ds : List PyData, PyData.canLayAll0 ds = true → PyData.eqvAll ds ds = true
  | [], _ => rfl
  | d :: ds, h => by
    obtain ⟨h1, h2⟩ := He.ba (show (PyData.canLay0 d && PyData.canLayAll0 ds) = true from h)
    show (PyData.eqv d d && PyData.eqvAll ds ds) = true
    rw [eqv_same d h1, eqv_sames ds h2]
    rfl
end
theorem dp_ints {K : PySem.W.Frag} {H : Hp} : ∀ l : List Int, DpAll K H (l.map V.int) (l.map PyData.int)
  | [] => .nil
  | _ :: r => .cons (.int _) (dp_ints r)
mutual
theorem Dp.same {K : PySem.W.Frag} {H H' : Hp} (s : Same H H') : ∀ (d : PyData) (v : V), Dp K H v d → Dp K H' v d
  | .none, _, h => by cases h; exact .non
  | .bool b, _, h => by cases h; exact .bl b
  | .int i, _, h => by cases h; exact .int i
  | .str x, _, h => by cases h; exact .str x
  | .list ds, _, h => by
    cases h with
    | lst hs ha => exact .lst (s.seq hs) (DpAll.same s ds _ ha)
  | .tuple ds, _, h => by
    cases h with
    | tup hs ha =>
      refine .tup ?_ (DpAll.same s ds _ ha)
      rcases hs with (h | ⟨o, h⟩) | h
      · exact .inl (.inl (s _ _ h))
      · exact .inl (.inr ⟨o, s _ _ h⟩)
      · exact .inr h
  | .dict _, _, h => by cases h
theorem DpAll.same {K : PySem.W.Frag} {H H' : Hp} (s : Same H H') : ∀ (ds : List PyData) (vs : List V), DpAll K H vs ds → DpAll K H' vs ds
  | [], _, h => by cases h; exact .nil
  | d :: ds, _, h => by
    cases h with
    | cons h1 h2 => exact .cons (Dp.same s d _ h1) (DpAll.same s ds _ h2)
end
/-! ### an equality whose two sides are one datum -/
theorem iteN0 {b : Bool} {A B : Prop} (hb : b = true) (h : B) : if (!b) = true then A else B := by
  rw [hb]
  exact iteF h
theorem iteN1 {b : Bool} {A B : Prop} (hb : b = false) (h : A) : if (!b) = true then A else B := by
  rw [hb]
  exact iteT h
/-! ### repr of data: the guards of the calls around hold nothing -/
def rRepr (K : PySem.W.Frag) : List V → Hp → VK → Prop := fun xs H Q => ∃ (a : Addr) (d : PyData), xs = [.ref a] ∧ Dp K H (.ref a) d ∧ PyData.depth d ≤ 64 ∧ PyData.showable d = true ∧ PyData.hasDict d = false ∧ d.shown.length ≤ sizeLine ∧ Q (.str d.shown) H
theorem call_repr {X : Cx} (gd : X.A.guards = some []) (hu : X.A.units + 66 < cLine) : CallR X (.builtin "repr") (rRepr X.K) := by
  intro pins s σ H xs us Q I r h
  obtain ⟨a, d, rfl, hd, h1, h2, h3, h4, q⟩ := h
  obtain ⟨u, rfl, r1⟩ := vals1 r
  cases (show u = Value.ref a from r1)
  obtain ⟨as, rd⟩ := Dp.reads I d _ _ hd r1
  refine repr_of_reads' rd h2 (fun z => by rw [h3] at z; cases z) gd (by omega) (fun _ _ e => e) (fun h' u tk hk => ?_) h4
  exact ⟨.str d.shown, H, I.kept (t' := tk) (fun b o e => hk b o e), ⟨u, rfl⟩, q⟩
end Fa

/-! sorted of a family's tuples (pattern, many) -/
namespace Fa
open PySem PySem.Spec PyProof.Rows L2
theorem lex_eq : ∀ xs ys : List Int, HT.lexLt xs ys = false → HT.lexLt ys xs = false → xs = ys
  | [], [], _, _ => rfl
  | [], _ :: _, h, _ => by cases h
  | _ :: _, [], _, h => by cases h
  | x :: xs, y :: ys, h1, h2 => by
    rw [HT.lexLt_cons] at h1 h2
    by_cases e : x = y
    · rw [if_pos e] at h1
      rw [if_pos e.symm] at h2
      rw [e, lex_eq xs ys h1 h2]
    · rw [if_neg e] at h1
      rw [if_neg (fun z => e z.symm)] at h2
      have := of_decide_eq_false h1
      have := of_decide_eq_false h2
      omega
def lexF (p q : List Int × Int) : Bool := if p.1 = q.1 then decide (p.2 < q.2) else HT.lexLt p.1 q.1
theorem lexF_eq {p q : List Int × Int} (h : p.1 = q.1) : lexF p q = decide (p.2 < q.2) := if_pos h
theorem lexF_ne {p q : List Int × Int} (h : ¬ p.1 = q.1) : lexF p q = HT.lexLt p.1 q.1 := if_neg h
theorem swo_lexF {α : Type} (k : α → List Int × Int) : SrtO.Swo fun v u => lexF (k v) (k u) := by
  refine ⟨fun x y h => ?_, fun x y z h1 h2 => ?_⟩
  · by_cases e : (k x).1 = (k y).1
    · rw [lexF_eq e] at h
      rw [lexF_eq e.symm]
      have := of_decide_eq_true h
      exact decide_eq_false (by omega)
    · rw [lexF_ne e] at h
      rw [lexF_ne fun z => e z.symm]
      exact NtL.lex_asym _ _ h
  · by_cases e1 : (k y).1 = (k x).1
    · rw [lexF_eq e1] at h1
      by_cases e2 : (k z).1 = (k y).1
      · rw [lexF_eq e2] at h2
        rw [lexF_eq (e2.trans e1)]
        have := of_decide_eq_false h1
        have := of_decide_eq_false h2
        exact decide_eq_false (by omega)
      · rw [lexF_ne e2] at h2
        rw [lexF_ne fun q => e2 (q.trans e1.symm), ← e1]
        exact h2
    · rw [lexF_ne e1] at h1
      by_cases e2 : (k z).1 = (k y).1
      · rw [lexF_ne fun q => e1 (e2.symm.trans q), e2]
        exact h1
      · rw [lexF_ne e2] at h2
        by_cases e3 : (k z).1 = (k x).1
        · rw [e3] at h2
          exact absurd (lex_eq _ _ h1 h2) e1
        · rw [lexF_ne e3]
          exact NtL.lex_tr _ _ _ h1 h2
/-- v is the tuple (pattern, many) -/
def IsFm (h : Heap) (v : Value) (p : List Int × Int) : Prop := ∃ a b o t n its, v = .ref a ∧ h.get? a = some o ∧ o.cls = .type "tuple" ∧ o.data = .seq #[.ref b, .int p.2 t] n ∧ IsTup h b its ∧ IntsAre its.toList p.1
theorem isTup_keeps {h h' : Heap} {b : Addr} {its : Array Value} (t : IsTup h b its) (k : ∀ b o, h.get? b = some o → o.cls = .type "tuple" → h'.get? b = some o) : IsTup h' b its := by
  obtain ⟨o, ho, hc, r⟩ := t
  exact ⟨o, k _ _ ho hc, hc, r⟩
theorem IsFm.keeps {h h' : Heap} {v : Value} {p : List Int × Int} (f : IsFm h v p) (k : ∀ b o, h.get? b = some o → o.cls = .type "tuple" → h'.get? b = some o) : IsFm h' v p := by
  obtain ⟨a, b, o, t, n, its, e, ho, hc, hd, ht, hi⟩ := f
  exact ⟨a, b, o, t, n, its, e, k _ _ ho hc, hc, hd, isTup_keeps ht k, hi⟩
theorem reads_ints {h : Heap} : ∀ {us : List Value} {ns : List Int}, IntsAre us ns → ∃ as, ReadsAll h us (ns.map PyData.int) as
  | _, _, .nil => ⟨_, .nil⟩
  | _, _, .cons _ _ r => by
    obtain ⟨as, q⟩ := reads_ints (h := h) r
    exact ⟨_, .cons (.int _ _) q⟩
theorem reads_tup {h : Heap} {b : Addr} {its : Array Value} {ns : List Int} (t : IsTup h b its) (i : IntsAre its.toList ns) : ∃ as, Reads h (.ref b) (.tuple (ns.map PyData.int)) as := by
  obtain ⟨o, ho, hc, n, hd⟩ := t
  obtain ⟨as, q⟩ := reads_ints (h := h) i
  exact ⟨_, .tuple ho hc hd q⟩
theorem eqvAll_ints : ∀ l m : List Int, PyData.eqvAll (l.map PyData.int) (m.map PyData.int) = decide (l = m)
  | [], [] => by rw [decide_eq_true rfl] <;> rfl
  | [], _ :: _ => by rw [decide_eq_false (fun z => by cases z)] <;> rfl
  | _ :: _, [] => by rw [decide_eq_false (fun z => by cases z)] <;> rfl
  | x :: l, y :: m => by
    show (PyData.eqv (.int x) (.int y) && PyData.eqvAll (l.map PyData.int) (m.map PyData.int)) = _
    rw [eqvAll_ints l m, PyData.eqv]
    by_cases e : x = y
    · subst e
      by_cases e2 : l = m
      · subst e2
        rw [decide_eq_true rfl, decide_eq_true rfl, beq_self_eq_true] <;> rfl
      · rw [decide_eq_false e2, decide_eq_false (fun z => e2 (List.cons.inj z).2), Bool.and_false]
    · rw [decide_eq_false (fun z => e (List.cons.inj z).1), beq_eq_false_iff_ne.mpr e, Bool.false_and]
theorem eqv_tints (l m : List Int) : PyData.eqv (.tuple (l.map PyData.int)) (.tuple (m.map PyData.int)) = decide (l = m) := by
  rw [PyData.eqv, eqvAll_ints]
theorem eqv_lints (l m : List Int) : PyData.eqv (.list (l.map PyData.int)) (.list (m.map PyData.int)) = decide (l = m) := by
  rw [PyData.eqv, eqvAll_ints]
theorem canLay_ints : ∀ l : List Int, PyData.canLayAll0 (l.map PyData.int) = true
  | [] => rfl
  | _ :: r => canLay_ints r
theorem depth_ints : ∀ l : List Int, PyData.depthAll (l.map PyData.int) = 0
  | [] => rfl
  | _ :: r => by
    show max 0 (PyData.depthAll (r.map PyData.int)) = 0
    rw [depth_ints r]
    rfl
section
variable {prog : Program} {w : World} {A : Around} {s : Shared}
theorem fm_cmp {vs : List Value} {k : Value → List Int × Int} (hu : A.units + 1 < cLine) (hp : ∀ v ∈ vs, IsFm s.heap v (k v)) : SrtO.Cmp prog w A s (tuples' false) (fun p => p.1 ∈ vs) (SrtO.lt2 fun v u => lexF (k v) (k u)) := by
  intro p q hm hm'
  have h1 := hp _ hm
  have h2 := hp _ hm'
  show wpAny (model prog w) A (keyLt' (tuples' false) p.1 q.1) (fun r s' => s' = s ∧ r = lexF (k p.1) (k q.1)) (fun _ _ => False) s
  generalize k p.1 = x at h1 ⊢
  generalize k q.1 = y at h2 ⊢
  obtain ⟨a, b, o, t, n, its, e, ho, hc, hd, ht, hi⟩ := h1
  obtain ⟨a', b', o', t', n', its', e', ho', hc', hd', ht', hi'⟩ := h2
  rw [e, e']
  refine PySem.W.kat_lt ho hd ho' hd' ?_
  show PySem.W.KatLex prog w A false (decide (2 < 2)) _ [(.ref b, .ref b'), (.int x.2 t, .int y.2 t')] 0 s
  obtain ⟨as1, r1⟩ := reads_tup ht hi
  obtain ⟨as2, r2⟩ := reads_tup ht' hi'
  refine PySem.W.kat_cons (SeqAt.eqAt_reads _ _ A s _ _ _ _ r1 r2 (canLay_ints _) (canLay_ints _) ?_ prog w _ _ ?_)
  · have d1 : PyData.depth (.tuple (x.1.map PyData.int)) = 1 := by
      show PyData.depthAll _ + 1 = 1
      rw [depth_ints]
    rw [d1]
    have := Nat.min_le_left 1 (PyData.depth (.tuple (y.1.map PyData.int)))
    omega
  rw [eqv_tints]
  refine PySem.W.kat_go (fun e1 => ?_) (fun e1 => ?_)
  · have ex : x.1 = y.1 := of_decide_eq_true e1
    refine PySem.W.kat_yes (PySem.W.kat_cons (SeqAt.EqAt.int_int x.2 t y.2 t' prog w _ _ ?_))
    refine PySem.W.kat_go (fun e2 => ?_) (fun e2 => ?_)
    · have ey : x.2 = y.2 := by simpa using e2
      refine PySem.W.kat_yes (PySem.W.kat_nil ⟨rfl, ?_⟩)
      rw [lexF_eq ex, ey]
      exact (decide_eq_false (Int.lt_irrefl _)).symm
    · refine PySem.W.kat_no (PySem.W.kat_one _ _ (PyProof.Rows.lt_int ?_))
      exact (show s = s ∧ decide (x.2 < y.2) = lexF x y from ⟨rfl, (lexF_eq ex).symm⟩)
  · have ex : ¬ x.1 = y.1 := of_decide_eq_false e1
    refine PySem.W.kat_no (PySem.W.kat_one _ _ (HT.lt_tupInts ht ht' hi hi' (by omega) ?_))
    exact (show s = s ∧ HT.lexLt x.1 y.1 = lexF x y from ⟨rfl, (lexF_ne ex).symm⟩)
theorem firstsF {h : Heap} : ∀ {vs : List Value}, (∀ v ∈ vs, ∃ p, IsFm h v p) → ∃ fs : List Value, PySem.W.KatTups h vs fs ∧ fs.length = vs.length ∧ ∀ f ∈ fs, ∃ b o, f = Value.ref b ∧ h.get? b = some o ∧ o.cls = .type "tuple"
  | [], _ => ⟨[], PySem.W.KatTups.nil, rfl, fun _ hm => nomatch hm⟩
  | v :: vs, hp => by
    obtain ⟨fs, h1, h2, h3⟩ := firstsF (vs := vs) fun v' hm => hp v' (List.mem_cons_of_mem _ hm)
    obtain ⟨p, a, b, o, t, n, its, e, ho, hc, hd, ⟨o2, ho2, hc2, _⟩, _⟩ := hp v List.mem_cons_self
    subst e
    refine ⟨.ref b :: fs, PySem.W.KatTups.cons ho hc hd rfl h1, by rw [List.length_cons, List.length_cons, h2], fun f hm => ?_⟩
    rcases List.mem_cons.mp hm with rfl | hm
    · exact ⟨b, o2, rfl, ho2, hc2⟩
    · exact h3 f hm
theorem fm_sortable {a : Addr} {vs : List Value} {k : Value → List Int × Int} (hu : A.units + 1 < cLine) (h0 : 0 < vs.length) (hp : ∀ v ∈ vs, IsFm s.heap v (k v)) (ha : ∀ o, s.heap.get? a = some o → o.cls ≠ .type "tuple") : SrtO.SortableO prog w A s a vs fun v u => lexF (k v) (k u) := by
  intro h' keep
  have kk : ∀ b o, s.heap.get? b = some o → o.cls = .type "tuple" → h'.get? b = some o := fun b o e c => keep b o (fun z => by subst z; exact ha o e c) e
  have hp' : ∀ v ∈ vs, IsFm h' v (k v) := fun v hm => (hp v hm).keeps kk
  obtain ⟨fs, h1, h2, h3⟩ := firstsF fun v hm => ⟨_, hp' v hm⟩
  refine ⟨tuples' false, fun Q E hq => ?_, fm_cmp hu hp'⟩
  refine PySem.W.kat_kind (T := .type "tuple") h1 (by omega) (fun f hm => ?_) (by rfl) ?_
  · obtain ⟨b, o, rfl, ho, hc⟩ := h3 f hm
    intro A2 Q2 E2 s2 k2 q2
    exact wpAny_typeOf (T := "tuple") ⟨_, k2 _ _ ho, hc⟩ q2
  · have e : (Value.type "tuple" != Value.type "tuple") = false := by decide +kernel
    rw [e]
    exact hq
end
abbrev ltF (k : V → List Int × Int) (x y : V) : Bool := lexF (k x) (k y)
/-- sorted(xs), xs a list of tuples (pattern, many) -/
def rSortF (K : PySem.W.Frag) : List V → Hp → VK → Prop := fun vs H Q => ∃ (a : Addr) (xs : List V) (k : V → List Int × Int), vs = [V.ref a] ∧ SqL K H a xs ∧ (∀ x ∈ xs, ∃ t b, x = V.ref t ∧ H t = some (.tup [.ref b, .int (k x).2]) ∧ H b = some (.tup ((k x).1.map V.int))) ∧
  ∀ ys p, SrtO.Srtd (ltF k) ys → ys.Perm xs → H p = none → Q (.ref p) (upd H p (.lst ys))
theorem cr_sortF {X : Cx} (hu : X.A.units + 64 < cLine) : CallR X (.builtin "sorted") (rSortF X.K) := by
  intro pins s σ H vs us Q I r h
  obtain ⟨a, xs, k, rfl, hs, hx, q⟩ := h
  obtain ⟨its, rv, hl, hz⟩ := I.list hs
  obtain ⟨u, rfl, ru⟩ := vals1 r
  obtain rfl : u = Value.ref a := ru
  obtain ⟨e1, e2⟩ := refs_back rv fun x m => by
    obtain ⟨t, _, e, _⟩ := hx x m
    exact ⟨t, e⟩
  have fm : ∀ v ∈ its, IsFm s.heap v (k (backV v)) := fun v hv => by
    obtain ⟨t, rfl⟩ := e2 v hv
    have hm : V.ref t ∈ xs := by
      rw [e1]
      exact List.mem_map.mpr ⟨_, hv, rfl⟩
    obtain ⟨t', b, e, ht, hb⟩ := hx _ hm
    cases e
    obtain ⟨_, its2, r2, o, ho, hc, n, hd⟩ := I.hok _ _ ht
    obtain ⟨u1, u2, rfl, ri, rj⟩ := vals2 r2
    obtain rfl : u1 = Value.ref b := ri
    obtain ⟨t2, rfl⟩ := rj
    obtain ⟨_, its3, r3, ht3⟩ := I.hok _ _ hb
    exact ⟨t, b, o, t2, n, its3.toArray, rfl, ho, hc, hd, ht3, intsAre_of r3⟩
  refine SrtO.sorted_ord (swo_lexF fun u => k (backV u)) hl.isList (by rw [← rv.length]; exact hz) (fun h2 h₁ a' ha kk => ?_) fun out h1 h2 => ?_
  · refine fm_sortable (s := { s with heap := h₁ }) (by show X.A.units + 1 + 1 + 1 < cLine; omega) (by omega) (fun v hm => (fm v hm).keeps fun b o e _ => (kk b o e).2) fun o e => ?_
    have e' : some o = some (seqObj "list" its.toArray 0) := e.symm.trans ha
    cases e'
    intro c
    exact absurd (Value.type.inj c) (by decide)
  · have h3 : ∀ u ∈ out, ∃ a, u = Value.ref a := fun u hu => e2 u (h2.perm.mem_iff.mp hu)
    have hb : (out.map backV).Perm xs := by
      rw [e1]
      exact h2.perm.map backV
    obtain ⟨n, hn⟩ := PyProof.Rows.sortedAll_at s.heap its out.toArray
    refine ⟨.ref (s.heap.objs.size + 1), upd H (s.heap.objs.size + 1) (.lst (out.map backV)), I.laid (t' := s.toks) (fun b o e => PyProof.Rows.sortedAll_old e) (Nat.le_succ _) ⟨?_, out, n, vals_back h3, hn⟩, rfl, q _ _ (SrtO.srtd_map h1) hb (I.hok.fresh (Nat.le_succ _))⟩
    rw [hb.length_eq]
    exact hz
theorem sortF (K : PySem.W.Frag) {X : Cx} (hu : X.A.units + 64 < cLine) (h : X.K = K := by rfl) : CallR X (.builtin "sorted") (rSortF K) := h ▸ cr_sortF hu
end Fa

/-! families: patterns with how many; in a heap; in a dict while it is filled -/
namespace Fa
open PySem PySem.Spec PyProof.Rows L2
/-- a pattern of days below n -/
structure Pat (n : Int) (ds : List Int) : Prop where
  ne : ds ≠ []
  asc : ds.Pairwise (· < ·)
  bd : ∀ d ∈ ds, 0 ≤ d ∧ d < n
abbrev Fm : Type := List (List Int × Int)
/-- a family: ascending, unlike patterns, each at least once and at most c times -/
structure Fam (n c : Int) (fam : Fm) : Prop where
  asc : fam.Pairwise fun p q => HT.lexLt p.1 q.1 = true
  pat : ∀ p ∈ fam, Pat n p.1
  bd : ∀ p ∈ fam, 1 ≤ p.2 ∧ p.2 ≤ c
/-- at t: the tuple (pattern, many) -/
def FmAt (H : Hp) (x : V) (p : List Int × Int) : Prop := ∃ t b, x = .ref t ∧ H t = some (.tup [.ref b, .int p.2]) ∧ H b = some (.tup (p.1.map V.int))
def FamAt (H : Hp) (a : Addr) (fam : Fm) : Prop := ∃ xs : List V, H a = some (.lst xs) ∧ Paired (FmAt H) xs fam
theorem FmAt.keep {H H' : Hp} {x : V} {p : List Int × Int} (h : FmAt H x p) (k : ∀ b xs, H b = some (.tup xs) → H' b = some (.tup xs)) : FmAt H' x p := by
  obtain ⟨t, b, e, h1, h2⟩ := h
  exact ⟨t, b, e, k _ _ h1, k _ _ h2⟩
theorem FamAt.keep {H H' : Hp} {a : Addr} {fam : Fm} (h : FamAt H a fam) (ha : ∀ xs, H a = some (.lst xs) → H' a = some (.lst xs)) (k : ∀ b xs, H b = some (.tup xs) → H' b = some (.tup xs)) : FamAt H' a fam := by
  obtain ⟨xs, e, p⟩ := h
  exact ⟨xs, ha _ e, L2.Paired.mapP p fun _ _ q => q.keep k⟩
theorem FamAt.same {H H' : Hp} {a : Addr} {fam : Fm} (h : FamAt H a fam) (s : Same H H') : FamAt H' a fam := h.keep (fun _ e => s _ _ e) fun _ _ e => s _ _ e
theorem paired_len {α β : Type} {F : α → β → Prop} {l : List α} {m : List β} (h : Paired F l m) : l.length = m.length := Paired.length h
theorem paired_at {α β : Type} {F : α → β → Prop} : ∀ {l : List α} {m : List β} {i : Nat} {x : α}, Paired F l m → l[i]? = some x → ∃ y, m[i]? = some y ∧ F x y
  | _, _, _, _, .nil, e => by simp at e
  | _, _, 0, _, .cons r _, e => by
    simp at e
    subst e
    exact ⟨_, rfl, r⟩
  | _, _, i + 1, x, .cons _ t, e => by
    obtain ⟨y, h1, h2⟩ := paired_at (i := i) (x := x) t (by simpa using e)
    exact ⟨y, by simpa using h1, h2⟩
/-! ### the dict of a family while it is filled -/
structure KvOk (n c : Int) (i : Nat) (kvs : List (List Key × V)) : Prop where
  nd : (kvs.map (·.1)).Nodup
  len : kvs.length ≤ i
  ok : ∀ kv ∈ kvs, ∃ ds m, kv = (ds.map Sum.inl, V.int m) ∧ Pat n ds ∧ 1 ≤ m ∧ m ≤ c * i
theorem kvOk_nil {n c : Int} : KvOk n c 0 [] := ⟨List.nodup_nil, Nat.le_refl _, fun _ h => nomatch h⟩
theorem kvOk_get {n c : Int} {i : Nat} {kvs : List (List Key × V)} (h : KvOk n c i kvs) (c0 : 0 ≤ c) (k : List Key) : ∃ m, (valV kvs k).getD (.int 0) = .int m ∧ 0 ≤ m ∧ m ≤ c * i := by
  unfold valV
  cases e : kvs.find? fun kv => decide (kv.1 = k) with
  | none => exact ⟨0, rfl, Int.le_refl _, Int.mul_nonneg c0 (by omega)⟩
  | some kv =>
    obtain ⟨ds, m, rfl, _, h1, h2⟩ := h.ok kv (List.mem_of_find?_eq_some e)
    exact ⟨m, rfl, by omega, h2⟩
theorem kvOk_put {n c : Int} {i : Nat} {kvs : List (List Key × V)} (h : KvOk n c i kvs) (c0 : 0 ≤ c) {ds : List Int} {m : Int} (p : Pat n ds) (h1 : 1 ≤ m) (h2 : m ≤ c * (i + 1)) : KvOk n c (i + 1) (putK kvs (ds.map Sum.inl) (.int m)) := by
  have up : ∀ kv ∈ kvs, ∃ ds m, kv = (ds.map Sum.inl, V.int m) ∧ Pat n ds ∧ 1 ≤ m ∧ m ≤ c * ((i + 1 : Nat) : Int) := fun kv hk => by
    obtain ⟨d, m, e, q, b1, b2⟩ := h.ok kv hk
    refine ⟨d, m, e, q, b1, ?_⟩
    have : c * ((i + 1 : Nat) : Int) = c * i + c := by
      rw [Int.natCast_add]
      rw [Int.mul_add]
      show c * i + c * 1 = _
      rw [Int.mul_one]
    omega
  unfold putK
  by_cases e : (kvs.any fun kv => decide (kv.1 = ds.map Sum.inl)) = true
  · rw [if_pos e]
    refine ⟨?_, ?_, fun kv hk => ?_⟩
    · rw [List.map_map, show ((fun x : List Key × V => x.1) ∘ fun kv : List Key × V => if kv.1 = ds.map Sum.inl then (kv.1, V.int m) else kv) = fun kv => kv.1 by
        funext kv
        show (if kv.1 = ds.map Sum.inl then (kv.1, V.int m) else kv).1 = kv.1
        split <;> rfl]
      exact h.nd
    · rw [List.length_map]
      have := h.len
      omega
    · obtain ⟨kv0, h0, rfl⟩ := List.mem_map.mp hk
      by_cases q : kv0.1 = ds.map Sum.inl
      · rw [if_pos q, q]
        exact ⟨ds, m, rfl, p, h1, by rw [Int.natCast_add]; exact h2⟩
      · rw [if_neg q]
        exact up kv0 h0
  · rw [if_neg e]
    refine ⟨?_, ?_, fun kv hk => ?_⟩
    · rw [List.map_append, List.nodup_append]
      refine ⟨h.nd, List.pairwise_singleton _ _, fun a ha b hb => ?_⟩
      have hb' : b = ds.map Sum.inl := List.mem_singleton.mp hb
      intro z
      refine e (List.any_eq_true.mpr ?_)
      obtain ⟨kv, h0, e0⟩ := List.mem_map.mp ha
      exact ⟨kv, h0, decide_eq_true (e0.trans (z.trans hb'))⟩
    · rw [List.length_append]
      have := h.len
      simp only [List.length_singleton]
      omega
    · rcases List.mem_append.mp hk with hk | hk
      · exact up kv hk
      · rw [List.mem_singleton.mp hk]
        exact ⟨ds, m, rfl, p, h1, by rw [Int.natCast_add]; exact h2⟩
/-- the family of the dict's pairs, in the dict's order -/
def famOf (kvs : List (List Key × V)) : Fm := kvs.map fun kv => (kv.1.map fun | .inl i => i | .inr _ => 0, match kv.2 with | .int m => m | _ => 0)
theorem famOf_at {n c : Int} {i : Nat} {kvs : List (List Key × V)} (h : KvOk n c i kvs) {j : Nat} {k : List Key} {v : V} (e : kvs[j]? = some (k, v)) : ∃ ds m, k = ds.map Sum.inl ∧ v = .int m ∧ (famOf kvs)[j]? = some (ds, m) := by
  obtain ⟨ds, m, e2, _⟩ := h.ok (k, v) (List.mem_of_getElem? e)
  obtain ⟨rfl, rfl⟩ := Prod.mk.inj e2
  refine ⟨ds, m, rfl, rfl, ?_⟩
  unfold famOf
  rw [List.getElem?_map, e]
  show some ((ds.map Sum.inl).map _, m) = some (ds, m)
  rw [List.map_map, show ((fun | .inl i => i | .inr _ => 0 : Key → Int) ∘ Sum.inl) = id from rfl, List.map_id]
theorem famOf_all {n c : Int} {i : Nat} {kvs : List (List Key × V)} (h : KvOk n c i kvs) : (∀ p ∈ famOf kvs, Pat n p.1 ∧ 1 ≤ p.2 ∧ p.2 ≤ c * i) ∧ ((famOf kvs).map (·.1)).Nodup ∧ (famOf kvs).length = kvs.length := by
  have key : ∀ kv ∈ kvs, ∃ ds m, kv = (ds.map Sum.inl, V.int m) ∧ Pat n ds ∧ 1 ≤ m ∧ m ≤ c * i := h.ok
  refine ⟨fun p hp => ?_, ?_, ?_⟩
  · obtain ⟨j, hj, e⟩ := List.mem_iff_getElem.mp hp
    have hj' : j < kvs.length := by
      unfold famOf at hj
      rw [List.length_map] at hj
      exact hj
    have e1 : kvs[j]? = some (kvs[j].1, kvs[j].2) := List.getElem?_eq_getElem hj'
    obtain ⟨ds, m, k1, v1, e2⟩ := famOf_at h e1
    rw [List.getElem?_eq_getElem hj, e] at e2
    obtain ⟨d2, m2, e3, q⟩ := key kvs[j] (List.getElem_mem hj')
    have e4 : (kvs[j].1, kvs[j].2) = (d2.map Sum.inl, V.int m2) := e3
    obtain ⟨z1, z2⟩ := Prod.mk.inj e4
    rw [k1] at z1
    rw [v1] at z2
    have d : ds = d2 := (List.map_inj_right fun _ _ hh => Sum.inl.inj hh).mp z1
    have mm : m = m2 := V.int.inj z2
    rw [Option.some.inj e2, d, mm]
    exact q
  · unfold famOf
    rw [List.map_map]
    have nd := h.nd
    have : ∀ l : List (List Key × V), (∀ kv ∈ l, ∃ ds m, kv = (ds.map Sum.inl, V.int m) ∧ Pat n ds ∧ 1 ≤ m ∧ m ≤ c * i) → (l.map (·.1)).Nodup → (l.map ((·.1) ∘ fun kv : List Key × V => ((kv.1.map fun | .inl i => i | .inr _ => 0 : List Int), (match kv.2 with | .int m => m | _ => 0 : Int)))).Nodup := by
      intro l hl hn
      induction l with
      | nil => exact List.nodup_nil
      | cons a l ih =>
        rw [List.map_cons, List.nodup_cons] at hn ⊢
        refine ⟨fun hm => hn.1 ?_, ih (fun kv hk => hl kv (List.mem_cons_of_mem _ hk)) hn.2⟩
        obtain ⟨b, hb, eb⟩ := List.mem_map.mp hm
        obtain ⟨d1, m1, e1, _⟩ := hl a List.mem_cons_self
        obtain ⟨d2, m2, e2, _⟩ := hl b (List.mem_cons_of_mem _ hb)
        subst e1 e2
        have q : (d2.map Sum.inl : List Key).map (fun | .inl i => i | .inr _ => 0) = (d1.map Sum.inl : List Key).map (fun | .inl i => i | .inr _ => 0) := eb
        rw [List.map_map, List.map_map, show ((fun | .inl i => i | .inr _ => 0 : Key → Int) ∘ Sum.inl) = id from rfl, List.map_id, List.map_id] at q
        subst q
        exact List.mem_map.mpr ⟨_, hb, rfl⟩
    exact this kvs key nd
  · unfold famOf
    rw [List.length_map]
/-- unlike patterns in order: ascending -/
theorem sorted_fam {k : V → List Int × Int} {ys : List V} (hs : SrtO.Srtd (ltF k) ys) (nd : (ys.map fun y => (k y).1).Nodup) : (ys.map k).Pairwise fun p q => HT.lexLt p.1 q.1 = true := by
  rw [List.pairwise_map]
  have nd' : ys.Pairwise fun x y => (k x).1 ≠ (k y).1 := List.pairwise_map.mp nd
  have hs' : ys.Pairwise fun x y => ltF k y x = false := hs
  refine (hs'.and nd').imp fun {x y} h => ?_
  have h1 : lexF (k y) (k x) = false := h.1
  rw [lexF_ne fun z => h.2 z.symm] at h1
  cases e : HT.lexLt (k x).1 (k y).1 with
  | true => rfl
  | false => exact absurd (lex_eq _ _ e h1) h.2
theorem ints_inj : ∀ {l m : List Int}, l.map V.int = m.map V.int → l = m
  | [], [], _ => rfl
  | [], _ :: _, h => by cases h
  | _ :: _, [], h => by cases h
  | x :: l, y :: m, h => by
    obtain ⟨h1, h2⟩ := List.cons.inj h
    rw [V.int.inj h1, ints_inj h2]
theorem FmAt.inj {H : Hp} {x : V} {p q : List Int × Int} (h : FmAt H x p) (h' : FmAt H x q) : p = q := by
  obtain ⟨t, b, rfl, h1, h2⟩ := h
  obtain ⟨t', b', e, h3, h4⟩ := h'
  cases e
  rw [h1] at h3
  have e2 := HO.tup.inj (Option.some.inj h3)
  obtain ⟨e3, e4⟩ := List.cons.inj e2
  cases e3
  have e5 := V.int.inj (List.cons.inj e4).1
  rw [h2] at h4
  have e6 := ints_inj (HO.tup.inj (Option.some.inj h4))
  exact Prod.ext e6 e5
theorem fm_key {H : Hp} {xs : List V} {fam : Fm} (h : Paired (FmAt H) xs fam) : ∃ k : V → List Int × Int, xs.map k = fam ∧ ∀ x ∈ xs, FmAt H x (k x) := by
  classical
  refine ⟨fun x => if e : ∃ p, FmAt H x p then e.choose else ([], 0), ?_, ?_⟩
  · induction h with
    | nil => rfl
    | cons r t ih =>
      rw [List.map_cons, ih]
      refine congrArg (· :: _) ?_
      have e : ∃ p, FmAt H _ p := ⟨_, r⟩
      rw [dif_pos e]
      exact e.choose_spec.inj r
  · intro x hx
    obtain ⟨i, hi, e⟩ := List.mem_iff_getElem.mp hx
    obtain ⟨y, _, hy⟩ := paired_at h (by rw [List.getElem?_eq_getElem hi, e])
    have e : ∃ p, FmAt H x p := ⟨_, hy⟩
    show FmAt H x (if e : ∃ p, FmAt H x p then e.choose else ([], 0))
    rw [dif_pos e]
    exact e.choose_spec
theorem paired_map {H : Hp} {k : V → List Int × Int} : ∀ {ys : List V}, (∀ y ∈ ys, FmAt H y (k y)) → Paired (FmAt H) ys (ys.map k)
  | [], _ => .nil
  | _ :: _, h => .cons (h _ List.mem_cons_self) (paired_map fun y hy => h y (List.mem_cons_of_mem _ hy))
/-- the sorted list is a family -/
theorem fam_of_sorted {H : Hp} {n c : Int} {i : Nat} {kvs : List (List Key × V)} {xs ys : List V} {k : V → List Int × Int} (hk : KvOk n c i kvs) (e : xs.map k = famOf kvs) (hx : ∀ x ∈ xs, FmAt H x (k x)) (hs : SrtO.Srtd (ltF k) ys) (hp : ys.Perm xs) :
    Paired (FmAt H) ys (ys.map k) ∧ Fam n (c * i) (ys.map k) ∧ (ys.map k).length ≤ i := by
  obtain ⟨h1, h2, h3⟩ := famOf_all hk
  have pm : (ys.map k).Perm (famOf kvs) := by
    rw [← e]
    exact hp.map k
  refine ⟨paired_map fun y hy => hx y (hp.mem_iff.mp hy), ⟨sorted_fam hs ?_, fun p hm => (h1 p (pm.mem_iff.mp hm)).1, fun p hm => (h1 p (pm.mem_iff.mp hm)).2⟩, ?_⟩
  · have q := pm.map (·.1)
    rw [List.map_map] at q
    exact q.nodup_iff.mpr h2
  · rw [pm.length_eq, h3]
    exact hk.len
theorem valV_at {κ : Type} [DecidableEq κ] : ∀ {kvs : List (κ × V)} {j : Nat} {k : κ} {v : V}, (kvs.map (·.1)).Nodup → kvs[j]? = some (k, v) → valV kvs k = some v
  | [], _, _, _, _, e => by simp at e
  | a :: l, 0, k, v, _, e => by
    simp at e
    subst e
    exact valV_pos rfl
  | a :: l, j + 1, k, v, nd, e => by
    rw [List.map_cons, List.nodup_cons] at nd
    have e' : l[j]? = some (k, v) := by simpa using e
    rw [valV_neg fun z => nd.1 (by
      rw [z]
      exact List.mem_map.mpr ⟨_, List.mem_of_getElem? e', rfl⟩)]
    exact valV_at nd.2 e'
theorem paired_snoc {α β : Type} {F : α → β → Prop} : ∀ {l : List α} {m : List β} {a : α} {b : β}, Paired F l m → F a b → Paired F (l ++ [a]) (m ++ [b])
  | _, _, _, _, .nil, h => .cons h .nil
  | _, _, _, _, .cons r t, h => .cons r (paired_snoc t h)
end Fa

namespace K46
open PySem PySem.Spec PyProof.Rows L2 Fa
def topS (i : Nat) : Stmt := PySem.Challenge.pw_facesagain_k46_values_of_one_number.main.body.getD i (.Pass ⟨0, 0, 0, 0⟩)
abbrev s__law_bag : Stmt := topS 28
abbrev N__law_bag : List Str := ["script", "stir", "cell"]
theorem sc__law_bag : FnScope N__law_bag ["script"] (defScope s__law_bag) := ⟨rfl, rfl, rfl, by decide +kernel, rfl, by decide +kernel, by decide +kernel⟩
abbrev s__law_stirred : Stmt := topS 29
abbrev N__law_stirred : List Str := ["bag", "wide", "found", "k", "mixed"]
theorem sc__law_stirred : FnScope N__law_stirred ["bag", "wide"] (defScope s__law_stirred) := ⟨rfl, rfl, rfl, by decide +kernel, rfl, by decide +kernel, by decide +kernel⟩
abbrev s__law_draw : Stmt := topS 30
abbrev N__law_draw : List Str := ["bag", "wide", "found"]
theorem sc__law_draw : FnScope N__law_draw ["bag", "wide"] (defScope s__law_draw) := ⟨rfl, rfl, rfl, by decide +kernel, rfl, by decide +kernel, by decide +kernel⟩
/-- the bag: its numbers, how many are read, what is left of one, the stir, the draws -/
structure BagAt (H : Hp) (p q : Addr) : Prop where
  ok : ∃ (xs : List Int) (i v s c : Int), q ≠ p ∧ H p = some (.lst [.ref q, .int i, .int v, .int s, .int c]) ∧ H q = some (.lst (xs.map V.int)) ∧ (∀ x ∈ xs, 0 ≤ x) ∧ 0 ≤ i ∧ 0 ≤ v ∧ 0 ≤ s ∧ s < 2147483647
theorem BagAt.same {H H' : Hp} {p qq : Addr} (h : BagAt H p qq) (s : Same H H') : BagAt H' p qq := by
  obtain ⟨xs, i, v, st, c, nq, hp, hq, r⟩ := h.ok
  exact ⟨xs, i, v, st, c, nq, s _ _ hp, s _ _ hq, r⟩
theorem BagAt.far {H : Hp} {p qq b : Addr} {o : HO} (h : BagAt H p qq) (n : b ≠ p ∧ b ≠ qq) : BagAt (upd H b o) p qq := by
  obtain ⟨xs, i, v, st, c, nq, hp, hq, r⟩ := h.ok
  exact ⟨xs, i, v, st, c, nq, by rw [upd_ne n.1.symm]; exact hp, by rw [upd_ne n.2.symm]; exact hq, r⟩
theorem BagAt.ne {H : Hp} {p qq b : Addr} (h : BagAt H p qq) (n : H b = none) : b ≠ p ∧ b ≠ qq := by
  obtain ⟨xs, i, v, st, c, nq, hp, hq, r⟩ := h.ok
  exact ⟨(ne_of_none hp n).symm, (ne_of_none hq n).symm⟩
theorem lt3000 {x : Int} (h : x ≤ 100000000000000000000000000000000) : x < 2 ^ 3000 := by
  have e : (100000000000000000000000000000000 : Int) < 2 ^ 3000 := by decide +kernel
  omega
section
variable {P : Program} {w : World} {K : PySem.W.Frag} {mg : Str → Option Value} {base : Heap}
def spBag (K : PySem.W.Frag) : Sp := fun vs H Q _ => ∃ (a : Addr) (ns : List Int), vs = [.ref a] ∧ SqL K H a (ns.map V.int) ∧ ns.length ≤ 63 ∧ ∀ H' p qq, Same H H' → H p = none → BagAt H' p qq → Q (.ref p) H'
theorem ok_bag {f : Addr} {fd : FuncData} {k : Nat} (F : Fun K "_law_bag" "_law_bag" s__law_bag f fd) (m_int : mg "int" = none) (m_abs : mg "abs" = none) : FnOk P w K mg base CX0 (k + 1) f fd ["script"] (spBag K) := by
  refine F.ok sc__law_bag (fun vs H Q E h => ?_) (fun cdv A outer s H vs Q E hr h => ?_)
  · obtain ⟨a, ns, rfl, _⟩ := h
    rfl
  · obtain ⟨a, ns, rfl, hS, hlen, q⟩ := h
    refine ⟨_, (pss_cons (ps_set (i := 1) sc__law_bag.nd rfl (by first | exact Or.inl rfl | exact Or.inr rfl) pe_int)
  (pss_cons (ps_for PassesOwn.never rfl (Fa.listQ K (pe_slice (Fa.slL K) (pv 0) po_none (po_some pe_int))) (pg_name (i := 2) sc__law_bag.nd rfl (by first | exact Or.inl rfl | exact Or.inr rfl)) (pss_one (ps_set (i := 1) sc__law_bag.nd rfl (by first | exact Or.inl rfl | exact Or.inr rfl) (pe_op op_mod (pe_callTy call_int1 (by rfl) m_int PyProof.Rows.boot_int (pa_cons (pe_op op_add (pe_op op_add (pe_op op_mul (pv 1) pe_int) (pe_op op_mod (pe_callTy call_int1 (by rfl) m_int PyProof.Rows.boot_int (pa_cons (pv 2) pa_nil)) pe_int)) pe_int) pa_nil)) pe_int))))
  (pss_one (ps_ret (pe_lst (pa_cons (pe_lc (own := [("cell", 2)]) (g := (gName 2)) (tt := tYes) rfl sc__law_bag.nd (Fa.listQ K (pe_slice (Fa.slL K) (pv 0) po_none (po_some pe_int))) (blkOk_by (N := N__law_bag) (sc := defScope s__law_bag) (by decide +kernel)) (fun _ _ _ _ _ => (pg_name (i := 2) sc__law_bag.nd rfl (by first | exact Or.inl rfl | exact Or.inr rfl))) (fun _ _ _ _ _ => pts_nil) (fun _ _ _ _ _ => (pe_op op_mod (pe_callTy call_int1 (by rfl) m_int PyProof.Rows.boot_int (pa_cons (pe_callB call_abs (by rfl) m_abs PyProof.Rows.boot_abs (pa_cons (pv 2) pa_nil)) pa_nil)) (pe_op Fa.op_powW (pe_op Fa.op_powW pe_int pe_int) pe_int)))) (pa_cons pe_int (pa_cons pe_int (pa_cons (pv 1) (pa_cons pe_int pa_nil)))))))))), ?_⟩
    refine ⟨.ref a, rfl, 63, rfl, a, _, rfl, hS, fun c nc => ?_⟩
    obtain ⟨ms, em, lm⟩ := cut_map ns none (some 63)
    rw [em]
    refine ⟨c, rfl, ⟨_, .inl (.inl upd_same)⟩, for_list (xs := ms.map V.int) (fun i σ H1 => H1 = upd H c (.lst (ms.map V.int)) ∧ ∃ (st : Int) (y : Option V), σ = [some (.ref a), some (.int st), y] ∧ 0 ≤ st ∧ st < 2147483647) ?_ ?_ ?_ ?_⟩
    · exact ⟨rfl, 163, none, rfl, by omega, by omega⟩
    · rintro i σ H1 _ ⟨rfl, _⟩
      exact .inl (.inl upd_same)
    · rintro i x σ H1 hx ⟨rfl, st, y, rfl, h0, h1⟩
      obtain ⟨n, rfl⟩ : ∃ n, x = V.int n := by
        rw [List.getElem?_map] at hx
        cases e : ms[i]? with
        | none =>
          rw [e] at hx
          cases hx
        | some z =>
          rw [e] at hx
          exact ⟨z, (Option.some.inj hx).symm⟩
      refine ⟨_, rfl, _, _, rfl, rfl, .inr ⟨by decide, by decide⟩, _, rfl, .inl ⟨_, rfl, _, _, rfl, rfl, (by show (0 : Int) < _; decide), _, _, rfl, rfl, _, _, rfl, rfl, .inl ⟨_, rfl, _, _, rfl, rfl, (by show (0 : Int) < _; decide), ?_⟩⟩⟩
      exact ⟨rfl, _, _, rfl, Int.emod_nonneg _ (by decide), Int.emod_lt_of_pos _ (by decide)⟩
    · rintro σ H1 ⟨rfl, st, y, rfl, h0, h1⟩
      have nca : ∀ {b : Addr} {o : HO}, H b = some o → b ≠ c := fun e => ne_of_none e nc
      have s1 : Same H (upd H c (.lst (ms.map V.int))) := same_new nc
      refine ⟨.ref a, rfl, 63, rfl, a, _, rfl, s1.seq hS, fun c2 nc2 => ?_⟩
      rw [em]
      generalize eH : upd H c (.lst (ms.map V.int)) = Hc at *
      have s2 : Same Hc (upd Hc c2 (.lst (ms.map V.int))) := same_new nc2
      refine ⟨c2, rfl, ⟨_, .inl (.inl upd_same)⟩, fun D nD => ?_⟩
      have s3 : Same (upd Hc c2 (.lst (ms.map V.int))) (upd (upd Hc c2 (.lst (ms.map V.int))) D (.lst [])) := same_new nD
      refine lc_list (xs := ms.map V.int) (fun i H2 => Same (upd Hc c2 (.lst (ms.map V.int))) H2 ∧ ∃ xs : List Int, xs.length = i ∧ H2 D = some (.lst (xs.map V.int)) ∧ ∀ x ∈ xs, 0 ≤ x) ?_ ?_ ?_ ?_
      · exact ⟨s3, [], rfl, upd_same, fun x h => nomatch h⟩
      · rintro i H2 _ ⟨s4, _⟩
        exact .inl (.inl (s4 _ _ upd_same))
      · rintro i x H2 hx ⟨s4, xs, el, eD, h2⟩
        obtain ⟨n, rfl⟩ : ∃ n, x = V.int n := by
          rw [List.getElem?_map] at hx
          cases e : ms[i]? with
          | none =>
            rw [e] at hx
            cases hx
          | some z =>
            rw [e] at hx
            exact ⟨z, (Option.some.inj hx).symm⟩
        have hi : i < ms.length := by
          have := (List.getElem?_eq_some_iff.mp hx).1
          rw [List.length_map] at this
          exact this
        refine ⟨rfl, yes_if ?_⟩
        refine ⟨_, rfl, _, rfl, .inl ⟨_, rfl, _, _, rfl, rfl, ⟨by decide, by decide, 10, by decide, by decide⟩, _, _, rfl, rfl, ⟨by decide, by decide, 300, by decide +kernel, by decide⟩, _, _, rfl, rfl, ?_, xs.map V.int, eD, ?_, ?_⟩⟩
        · show (0 : Int) < _
          decide +kernel
        · rw [List.length_map, el]
          exact small1000 (by omega)
        · refine ⟨fun b o e => ?_, xs ++ [(if n < 0 then -n else n) % ((10 ^ Int.toNat 60) ^ Int.toNat 10)], ?_, ?_, ?_⟩
          rotate_left
          · rw [List.length_append, el]
            rfl
          · rw [upd_same, List.map_append]
            rfl
          · intro x hx
            rcases List.mem_append.mp hx with hx | hx
            · exact h2 x hx
            · rw [List.mem_singleton.mp hx]
              exact Int.emod_nonneg _ (by decide +kernel)
          · rw [upd_ne (ne_of_none e nD)]
            exact s4 b o e
      · rintro H2 ⟨s4, xs, el, eD, h2⟩
        refine ⟨_, rfl, by show 5 ≤ sizeLine; decide, fun p np => ?_⟩
        have npD : p ≠ D := fun z => by
          rw [z, eD] at np
          cases np
        refine q _ p D (((s1.trans s2).trans s4).trans (same_new np)) ?_ ⟨xs, 0, 0, st, 0, npD.symm, upd_same, ?_, h2, by omega, by omega, h0, h1⟩
        · exact ((s1.trans s2).trans s4).free np
        · rw [upd_ne npD.symm]
          exact eD
def spDraw : Sp := fun vs H Q _ => ∃ (p qq : Addr) (wd : Int), vs = [.ref p, .int wd] ∧ BagAt H p qq ∧ 0 < wd ∧ wd < 2 ^ 3000 ∧ ∀ H' r, But p H H' → BagAt H' p qq → 0 ≤ r → r < wd → Q (.int r) H'
theorem ok_stirred {f : Addr} {fd : FuncData} {k : Nat} (F : Fun K "_law_stirred" "_law_stirred" s__law_stirred f fd) (m_int : mg "int" = none) (m_range : mg "range" = none) : FnOk P w K mg base CX0 (k + 1) f fd ["bag", "wide"] spDraw := by
  refine F.ok sc__law_stirred (fun vs H Q E h => ?_) (fun cdv A outer s H vs Q E hr h => ?_)
  · obtain ⟨p, qq, wd, rfl, _⟩ := h
    rfl
  · obtain ⟨p, qq, wd, rfl, hB, w0, w1, q⟩ := h
    refine ⟨_, (pss_cons (ps_set (i := 2) sc__law_stirred.nd rfl (by first | exact Or.inl rfl | exact Or.inr rfl) pe_int)
  (pss_cons (ps_for PassesOwn.never rfl (pi_range1 (by rfl) m_range (pa_cons (pe_op op_add pe_int (pe_op op_fdivW (pe_bits (pv 1)) pe_int)) pa_nil)) (pg_name (i := 3) sc__law_stirred.nd rfl (by first | exact Or.inl rfl | exact Or.inr rfl)) (pss_cons (ps_asg (pe_op op_add (pe_ix (Fa.ixL K) (pv 0) pe_int (fun _ _ => rfl)) pe_int) (pg_sub (pv 0) pe_int set_list))
  (pss_cons (ps_set (i := 4) sc__law_stirred.nd rfl (by first | exact Or.inl rfl | exact Or.inr rfl) (pe_op op_add (pe_op op_add (pe_op op_add (pe_op Fa.op_powW (pe_ix (Fa.ixL K) (pv 0) pe_int (fun _ _ => rfl)) pe_int) (pe_op op_mul pe_int (pe_ix (Fa.ixL K) (pv 0) pe_int (fun _ _ => rfl)))) (pe_op op_mul pe_int (pe_ix (Fa.ixL K) (pv 0) pe_int (fun _ _ => rfl)))) pe_int))
  (pss_cons (ps_asg (pe_op op_mod (pe_callTy call_int1 (by rfl) m_int PyProof.Rows.boot_int (pa_cons (pv 4) pa_nil)) pe_int) (pg_sub (pv 0) pe_int set_list))
  (pss_one (ps_set (i := 2) sc__law_stirred.nd rfl (by first | exact Or.inl rfl | exact Or.inr rfl) (pe_op op_add (pe_op op_mul (pv 2) pe_int) (pe_op op_fdivW (pe_ix (Fa.ixL K) (pv 0) pe_int (fun _ _ => rfl)) pe_int))))))))
  (pss_one (ps_ret (pe_op op_mod (pe_callTy call_int1 (by rfl) m_int PyProof.Rows.boot_int (pa_cons (pv 2) pa_nil)) (pv 1)))))), ?_⟩
    have hb := PyProof.Rows.intBits_le (nat_lt_pow w0 w1)
    have hb2 : (Builtin.Int.intBits wd : Int) / 27 ≤ 3000 / 27 := Int.ediv_le_ediv (by decide) (by omega)
    have hb3 : 0 ≤ (Builtin.Int.intBits wd : Int) / 27 := Int.ediv_nonneg (by omega) (by decide)
    refine ⟨_, rfl, wd, rfl, _, _, rfl, rfl, ⟨by decide, by decide⟩, _, _, rfl, rfl, _, rfl, by omega, by omega, ?_⟩
    refine for_range (lo := 0) (fun i σ H1 => But p H H1 ∧ BagAt H1 p qq ∧ ∃ (fo : Int) (y3 y4 : Option V), σ = [some (.ref p), some (.int wd), some (.int fo), y3, y4]) ?_ ?_ ?_
    · exact ⟨But.refl p H, hB, 0, none, none, rfl⟩
    · rintro i σ H1 hi ⟨hB1, ⟨xs, ii, v, st, c, nq, hp, hq, hx, i0, v0, s0, s1⟩, fo, y3, y4, rfl⟩
      refine ⟨_, rfl, _, _, _, _, rfl, rfl, .inl (.inl hp), rfl, _, _, rfl, rfl, _, rfl, p, _, _, 4, rfl, rfl, hp, rfl, ?_⟩
      refine ⟨_, rfl, _, _, _, _, rfl, rfl, .inl (.inl upd_same), rfl, _, _, rfl, rfl, ⟨by decide, by decide, 31, by omega, by decide⟩, ?_⟩
      refine ⟨_, rfl, _, _, _, _, rfl, rfl, .inl (.inl upd_same), rfl, _, _, rfl, rfl, .inl ⟨by decide, by decide⟩, _, _, rfl, rfl, ?_⟩
      refine ⟨_, rfl, _, _, _, _, rfl, rfl, .inl (.inl upd_same), rfl, _, _, rfl, rfl, .inl ⟨by decide, by decide⟩, _, _, rfl, rfl, _, _, rfl, rfl, ?_⟩
      refine ⟨_, rfl, .inl ⟨_, rfl, _, _, rfl, rfl, (by show (0 : Int) < _; decide), _, rfl, p, _, _, 3, rfl, rfl, upd_same, rfl, ?_⟩⟩
      refine ⟨_, rfl, _, _, rfl, rfl, .inr ⟨by decide, by decide⟩, _, rfl, _, _, _, _, rfl, rfl, .inl (.inl upd_same), rfl, _, _, rfl, rfl, ⟨by decide, by decide⟩, _, _, rfl, rfl, ?_⟩
      refine ⟨hB1.upd.upd, ⟨xs, ii, v, _, _, nq, upd_same, ?_, hx, i0, v0, Int.emod_nonneg _ (by decide), Int.emod_lt_of_pos _ (by decide)⟩, _, _, _, rfl⟩
      rw [upd_ne nq, upd_ne nq]
      exact hq
    · rintro σ H1 ⟨hB1, hB2, fo, y3, y4, rfl⟩
      refine ⟨_, rfl, .inl ⟨_, rfl, _, rfl, _, _, rfl, rfl, w0, ?_⟩⟩
      exact q _ _ hB1 hB2 (Int.emod_nonneg _ (by omega)) (Int.emod_lt_of_pos _ w0)
theorem ok_draw {f : Addr} {fd : FuncData} {k : Nat} (F : Fun K "_law_draw" "_law_draw" s__law_draw f fd) {f__law_stirred : Addr} {d__law_stirred : FuncData} (F__law_stirred : Fun K "_law_stirred" "_law_stirred" s__law_stirred f__law_stirred d__law_stirred) (G__law_stirred : FnOk P w K mg base CX0 k f__law_stirred d__law_stirred ["bag", "wide"] spDraw) (b__law_stirred : Binds K d__law_stirred ["bag", "wide"] []) (g__law_stirred : mg "_law_stirred" = some (.ref f__law_stirred)) (m_int : mg "int" = none) (m_len : mg "len" = none) : FnOk P w K mg base CX0 (k + 1) f fd ["bag", "wide"] spDraw := by
  refine F.ok sc__law_draw (fun vs H Q E h => ?_) (fun cdv A outer s H vs Q E hr h => ?_)
  · obtain ⟨p, qq, wd, rfl, _⟩ := h
    rfl
  · obtain ⟨p, qq, wd, rfl, ⟨xs, ii, v, st, c, nq, hp, hq, hx, i0, v0, s0, s1⟩, w0, w1, q⟩ := h
    refine ⟨_, (pss_cons (ps_if (PW.pt (pw_and (pt_cmpR op_eq (pe_ix (Fa.ixL K) (pv 0) pe_int (fun _ _ => rfl)) pe_int (nomark _)) (pw_and1 (pt_cmpR op_lt (pe_ix (Fa.ixL K) (pv 0) pe_int (fun _ _ => rfl)) (pe_callB (Fa.lenQ K) (by rfl) m_len PySem.boot_len (pa_cons (pe_ix (Fa.ixL K) (pv 0) pe_int (fun _ _ => rfl)) pa_nil)) (nomark _))))) (pss_cons (ps_asg (pe_ix (Fa.ixL K) (pe_ix (Fa.ixL K) (pv 0) pe_int (fun _ _ => rfl)) (pe_ix (Fa.ixL K) (pv 0) pe_int (fun _ _ => rfl)) (fun _ _ => rfl)) (pg_sub (pv 0) pe_int set_list))
  (pss_one (ps_asg (pe_op op_add (pe_ix (Fa.ixL K) (pv 0) pe_int (fun _ _ => rfl)) pe_int) (pg_sub (pv 0) pe_int set_list)))) (pss_one (ps_if (pt_cmpR op_eq (pe_ix (Fa.ixL K) (pv 0) pe_int (fun _ _ => rfl)) pe_int (nomark _)) (pss_one (ps_ret (pe_call G__law_stirred (hr.mono (by omega)) (by rfl) g__law_stirred F__law_stirred.kp b__law_stirred .nil pass0 (pa_cons (pv 0) (pa_cons (pv 1) pa_nil))))) pss_nil)))
  (pss_cons (ps_set (i := 2) sc__law_draw.nd rfl (by first | exact Or.inl rfl | exact Or.inr rfl) (pe_op op_mod (pe_callTy call_int1 (by rfl) m_int PyProof.Rows.boot_int (pa_cons (pe_ix (Fa.ixL K) (pv 0) pe_int (fun _ _ => rfl)) pa_nil)) (pv 1)))
  (pss_cons (ps_asg (pe_op op_fdivW (pe_ix (Fa.ixL K) (pv 0) pe_int (fun _ _ => rfl)) (pv 1)) (pg_sub (pv 0) pe_int set_list))
  (pss_one (ps_ret (pv 2)))))), ?_⟩
    obtain ⟨j, rfl⟩ : ∃ j : Nat, ii = j := ⟨ii.toNat, by omega⟩
    have wl : wd.natAbs.log2 < 9000 := (wide_div (i := 0) w0 (nat_lt_pow w0 w1) (by decide) (by decide)).2
    refine ⟨_, rfl, _, _, _, _, rfl, rfl, .inl (.inl hp), rfl, rfl, _, rfl, ite2 (fun e => ?_) (fun e => ?_)⟩
    · have ev : v = 0 := V.int.inj (of_decide_eq_true e)
      subst ev
      refine ⟨_, rfl, _, _, _, _, rfl, rfl, .inl (.inl hp), rfl, _, rfl, _, _, _, _, rfl, rfl, .inl (.inl hp), rfl, qq, _, rfl, .inl (.inl (.inl hq)), _, _, rfl, rfl, _, rfl, ite2 (fun e2 => ?_) (fun e2 => ?_)⟩
      · have hj : j < xs.length := by
          have := of_decide_eq_true e2
          rw [List.length_map] at this
          omega
        have ej : (xs.map V.int)[j]? = some (V.int xs[j]) := by
          rw [List.getElem?_map, List.getElem?_eq_getElem hj]
          rfl
        refine ⟨_, rfl, _, _, _, _, rfl, rfl, .inl (.inl hp), rfl, _, rfl, _, _, _, _, rfl, rfl, .inl (.inl hp), rfl, _, _, _, _, rfl, rfl, .inl (.inl hq), atI_nat ej, _, rfl, p, _, _, 2, rfl, rfl, hp, rfl, ?_⟩
        refine ⟨_, rfl, _, _, _, _, rfl, rfl, .inl (.inl upd_same), rfl, _, _, rfl, rfl, _, rfl, p, _, _, 1, rfl, rfl, upd_same, rfl, ?_⟩
        refine ⟨_, rfl, _, _, _, _, rfl, rfl, .inl (.inl upd_same), rfl, .inl ⟨_, rfl, _, rfl, _, _, rfl, rfl, w0, ?_⟩⟩
        refine ⟨_, rfl, _, _, _, _, rfl, rfl, .inl (.inl upd_same), rfl, _, rfl, _, _, rfl, rfl, ⟨w0, wl⟩, _, rfl, p, _, _, 2, rfl, rfl, upd_same, rfl, _, rfl, ?_⟩
        refine q _ _ (But.refl p H).upd.upd.upd ⟨xs, _, _, st, c, nq, upd_same, ?_, hx, by omega, Int.ediv_nonneg (hx _ (List.getElem_mem hj)) (by omega), s0, s1⟩ (Int.emod_nonneg _ (by omega)) (Int.emod_lt_of_pos _ w0)
        rw [upd_ne nq, upd_ne nq, upd_ne nq]
        exact hq
      · refine ⟨_, rfl, _, _, _, _, rfl, rfl, .inl (.inl hp), rfl, rfl, _, rfl, ?_⟩
        refine iteT ?_
        exact ⟨_, rfl, _, rfl, p, qq, wd, rfl, ⟨xs, _, _, st, c, nq, hp, hq, hx, i0, v0, s0, s1⟩, w0, w1, q⟩
    · refine iteF ?_
      refine ⟨_, rfl, _, _, _, _, rfl, rfl, .inl (.inl hp), rfl, rfl, _, rfl, ite2 (fun z => absurd z e) (fun _ => ?_)⟩
      refine ⟨_, rfl, _, _, _, _, rfl, rfl, .inl (.inl hp), rfl, .inl ⟨_, rfl, _, rfl, _, _, rfl, rfl, w0, ?_⟩⟩
      refine ⟨_, rfl, _, _, _, _, rfl, rfl, .inl (.inl hp), rfl, _, rfl, _, _, rfl, rfl, ⟨w0, wl⟩, _, rfl, p, _, _, 2, rfl, rfl, hp, rfl, _, rfl, ?_⟩
      refine q _ _ (But.refl p H).upd ⟨xs, _, _, st, c, nq, upd_same, ?_, hx, by omega, Int.ediv_nonneg v0 (by omega), s0, s1⟩ (Int.emod_nonneg _ (by omega)) (Int.emod_lt_of_pos _ w0)
      rw [upd_ne nq]
      exact hq
end
end K46

namespace K46
open PySem PySem.Spec PyProof.Rows L2 Fa
abbrev s__law_pattern : Stmt := topS 32
abbrev N__law_pattern : List Str := ["bag", "many", "found", "one"]
theorem sc__law_pattern : FnScope N__law_pattern ["bag", "many"] (defScope s__law_pattern) := ⟨rfl, rfl, rfl, by decide +kernel, rfl, by decide +kernel, by decide +kernel⟩
section
variable {P : Program} {w : World} {K : PySem.W.Frag} {mg : Str → Option Value} {base : Heap}
def spPat0 : Sp := fun vs H Q _ => ∃ (p qq : Addr) (n : Int), vs = [.ref p, .int n] ∧ BagAt H p qq ∧ 1 ≤ n ∧ n ≤ 30 ∧
  ∀ H' t ds, Kp p H H' → H t = none → H' t = some (.tup (ds.map V.int)) → Pat n ds → BagAt H' p qq → Q (.ref t) H'
theorem ok_pat0 {f : Addr} {fd : FuncData} {k : Nat} (F : Fun K "_law_pattern" "_law_pattern" s__law_pattern f fd) {f__law_draw : Addr} {d__law_draw : FuncData} (F__law_draw : Fun K "_law_draw" "_law_draw" s__law_draw f__law_draw d__law_draw) (G__law_draw : FnOk P w K mg base CX0 k f__law_draw d__law_draw ["bag", "wide"] spDraw) (b__law_draw : Binds K d__law_draw ["bag", "wide"] []) (g__law_draw : mg "_law_draw" = some (.ref f__law_draw)) (m_tuple : mg "tuple" = none) (m_range : mg "range" = none) : FnOk P w K mg base CX0 (k + 1) f fd ["bag", "many"] spPat0 := by
  refine F.ok sc__law_pattern (fun vs H Q E h => ?_) (fun cdv A outer s H vs Q E hr h => ?_)
  · obtain ⟨p, qq, n, rfl, _⟩ := h
    rfl
  · obtain ⟨p, qq, n, rfl, hB, n1, n30, q⟩ := h
    refine ⟨_, (pss_cons (ps_setLc (i := 2) (own := [("one", 3)]) (g := (gName 3)) rfl sc__law_pattern.nd rfl rfl (sw_true rfl rfl rfl (by decide +kernel)) (pi_range1 (by rfl) m_range (pa_cons (pv 1) pa_nil)) (blkOk_by (N := N__law_pattern) (sc := defScope s__law_pattern) (by decide +kernel)) (fun _ _ _ _ _ => (pg_name (i := 3) sc__law_pattern.nd rfl (by first | exact Or.inl rfl | exact Or.inr rfl))) (fun _ _ _ _ _ => (pts_one (pt_cmpR op_eq (pe_call G__law_draw (hr.mono (by omega)) (by rfl) g__law_draw F__law_draw.kp b__law_draw .nil pass0 (pa_cons (pv 0) (pa_cons pe_int pa_nil))) pe_int (nomark _)))) (fun _ _ _ _ _ => (pv 3)))
  (pss_one (ps_ret (pe_ifExp (pt_cmpR (Fa.neQ K hr.units) (pv 2) (pe_lst pa_nil) (nomark _)) (pe_callTy (Fa.tupQ K) (by rfl) m_tuple PyProof.Rows.boot_tuple (pa_cons (pv 2) pa_nil)) (pe_tup (pa_cons (pe_call G__law_draw (hr.mono (by omega)) (by rfl) g__law_draw F__law_draw.kp b__law_draw .nil pass0 (pa_cons (pv 0) (pa_cons (pv 1) pa_nil))) pa_nil)))))), ?_⟩
    refine ⟨_, rfl, n, rfl, by omega, by omega, fun D nD => ?_⟩
    have nDp := hB.ne nD
    refine lc_range (lo := 0) (fun i H' => BagAt H' p qq ∧ Kp p H H' ∧ ∃ ds : List Int, H' D = some (.lst (ds.map V.int)) ∧ ds.length ≤ i ∧ ds.Pairwise (· < ·) ∧ ∀ d ∈ ds, 0 ≤ d ∧ d < (i : Int)) ?_ ?_ ?_
    · exact ⟨hB.far nDp, kp_new nD, [], upd_same, Nat.le_refl _, .nil, fun d h => nomatch h⟩
    · rintro i H3 hi ⟨hB3, k3, ds, eD, ld, asc, bd⟩
      refine ⟨rfl, _, rfl, p, qq, 3, rfl, hB3, by decide, lt3000 (by decide), fun H4 r4 b4 hB4 r40 r4m => ⟨rfl, _, rfl, ite2 (fun e4 => ?_) (fun e4 => ?_)⟩⟩
      · refine ⟨_, rfl, ds.map V.int, (b4 D nDp.1).trans eD, ?_, ?_⟩
        · rw [List.length_map]
          exact small1000 (by omega)
        · refine ⟨hB4.far nDp, (k3.trans b4.kp).mut nD, ds ++ [(i : Int)], ?_, ?_, ?_, ?_⟩
          · rw [upd_same, List.map_append, Int.zero_add]
            rfl
          · rw [List.length_append]
            simp only [List.length_singleton]
            omega
          · rw [List.pairwise_append]
            refine ⟨asc, List.pairwise_singleton _ _, fun a ha b hb => ?_⟩
            rw [List.mem_singleton.mp hb]
            exact (bd a ha).2
          · intro d hd
            rcases List.mem_append.mp hd with hd | hd
            · have := bd d hd
              omega
            · rw [List.mem_singleton.mp hd]
              omega
      · refine ⟨hB4, k3.trans b4.kp, ds, (b4 D nDp.1).trans eD, by omega, asc, fun d hd => ?_⟩
        have := bd d hd
        omega
    · rintro H3 ⟨hB3, k3, ds, eD, ld, asc, bd⟩
      refine ⟨_, rfl, Nat.zero_le _, fun z nz => ?_⟩
      have nzp := hB3.ne nz
      refine ⟨.list (ds.map PyData.int), .list [], .lst (.inl (.inl (same_new nz _ _ eD))) (dp_ints ds), .lst (.inl (.inl upd_same)) .nil, (shp_ints 0 ds).shaped (by decide), rfl, _, rfl, ?_⟩
      have k4 : Kp p H (upd H3 z (.lst [])) := k3.trans (kp_new nz)
      have hB4 := hB3.far (o := .lst []) nzp
      have eD4 := (same_new (o := .lst []) nz) _ _ eD
      generalize upd H3 z _ = H4 at k4 hB4 eD4 ⊢
      cases ds with
      | nil =>
        refine iteN0 rfl ?_
        refine ⟨_, rfl, _, rfl, p, qq, n, rfl, hB4, by omega, lt3000 (by omega), fun H5 r5 b5 hB5 r50 r5n => ⟨by show 1 ≤ sizeLine; decide, fun t nt => ?_⟩⟩
        have ntp := hB5.ne nt
        have k5 := k4.trans b5.kp
        refine q _ t [r5] (k5.trans (kp_new nt)) (k5.free ntp.1 nt) upd_same ⟨List.cons_ne_nil _ _, List.pairwise_singleton _ _, fun d hd => ?_⟩ (hB5.far ntp)
        rw [List.mem_singleton.mp hd]
        exact ⟨r50, r5n⟩
      | cons d0 ds =>
        refine iteN1 rfl ?_
        refine ⟨_, rfl, D, _, rfl, .inl ⟨.inl (.inl eD4), fun t nt => ?_⟩⟩
        have ntp := hB4.ne nt
        exact q _ t (d0 :: ds) (k4.trans (kp_new nt)) (k4.free ntp.1 nt) upd_same ⟨List.cons_ne_nil _ _, asc, fun d hd => by have := bd d hd; omega⟩ (hB4.far ntp)
end
end K46

/-! sheets: the numbers of a family, how the law reckons them; rows in a heap -/
namespace Fa
open PySem PySem.Spec PyProof.Rows L2
/-! ### who came on the days b to e -/
def hits (p : List Int) (b e : Int) : Bool := p.any fun d => decide (b ≤ d) && decide (d ≤ e)
def unl (fam : Fm) (b e : Int) : Int := (fam.map fun p => if hits p.1 b e then p.2 else 0).sum
def shRow (fam : Fm) (d w : Nat) : List Int := (List.range (min (d + 1) w)).map fun (k : Nat) => unl fam ((d : Int) - (k : Int)) (d : Int)
def shOf (fam : Fm) (n w : Nat) : List (List Int) := (List.range n).map fun d => shRow fam d w
theorem unl_cons (p : List Int × Int) (fam : Fm) (b e : Int) : unl (p :: fam) b e = (if hits p.1 b e then p.2 else 0) + unl fam b e := by
  unfold unl
  rw [List.map_cons, List.sum_cons]
theorem unl_append (f g : Fm) (b e : Int) : unl (f ++ g) b e = unl f b e + unl g b e := by
  unfold unl
  rw [List.map_append, List.sum_append]
theorem unl_nonneg {fam : Fm} (h : ∀ p ∈ fam, 0 ≤ p.2) (b e : Int) : 0 ≤ unl fam b e := by
  induction fam with
  | nil => exact Int.le_refl _
  | cons p fam ih =>
    rw [unl_cons]
    have := ih fun q hq => h q (List.mem_cons_of_mem _ hq)
    have := h p List.mem_cons_self
    split <;> omega
theorem unl_le {fam : Fm} {c : Int} (h : ∀ p ∈ fam, 0 ≤ p.2 ∧ p.2 ≤ c) (b e : Int) : unl fam b e ≤ c * (fam.length : Int) := by
  induction fam with
  | nil =>
    show (0 : Int) ≤ c * ((0 : Nat) : Int)
    rw [Int.natCast_zero, Int.mul_zero]
    exact Int.le_refl _
  | cons p fam ih =>
    rw [unl_cons, List.length_cons, Int.natCast_add, Int.mul_add]
    have := ih fun q hq => h q (List.mem_cons_of_mem _ hq)
    have := h p List.mem_cons_self
    have e1 : c * ((1 : Nat) : Int) = c := Int.mul_one c
    rw [e1]
    split <;> omega
/-! ### the law's reckoning: numbers at (row, back) -/
abbrev Cells : Type := Nat → Nat → Int
/-- one stretch of a pattern: from day d on, until the next one -/
def add1 (g : Cells) (m d d' : Int) : Cells := fun s k => if d ≤ (s : Int) ∧ (s : Int) < d' ∧ (s : Int) - (k : Int) = d then g s k + m else g s k
def prs (p : List Int) (n : Int) : List (Int × Int) := p.zip (p.tail ++ [n])
def addP (g : Cells) (m : Int) (l : List (Int × Int)) : Cells := l.foldl (fun g q => add1 g m q.1 q.2) g
def addF (n : Int) (fam : Fm) : Cells := fam.foldl (fun g p => addP g p.2 (prs p.1 n)) fun _ _ => 0
/-- whose last day up to s is s - k -/
def lastAt (p : List Int) (s k : Nat) : Bool := p.any (fun d => decide (d = (s : Int) - (k : Int))) && p.all fun d => decide (d ≤ (s : Int) → d ≤ (s : Int) - (k : Int))
theorem addP_val (n m : Int) : ∀ (p : List Int) (g : Cells) (s k : Nat), p.Pairwise (· < ·) → (∀ d ∈ p, d < n) → (s : Int) < n → addP g m (prs p n) s k = g s k + if lastAt p s k then m else 0
  | [], g, s, k, _, _, _ => by
    show g s k = g s k + if lastAt [] s k then m else 0
    rw [show lastAt [] s k = false from rfl]
    simp
  | d :: p, g, s, k, ha, hb, hs => by
    obtain ⟨h1, h2⟩ := List.pairwise_cons.mp ha
    have hb' : ∀ e ∈ p, e < n := fun e he => hb e (List.mem_cons_of_mem _ he)
    -- the next day behind d
    obtain ⟨d', hd', e1, lo, hi⟩ : ∃ d', prs (d :: p) n = (d, d') :: prs p n ∧ d < d' ∧ (∀ e ∈ p, d' ≤ e) ∧ (d' = n ∧ p = [] ∨ d' ∈ p) := by
      cases p with
      | nil => exact ⟨n, rfl, hb d List.mem_cons_self, fun e he => (nomatch he), .inl ⟨rfl, rfl⟩⟩
      | cons e p =>
        refine ⟨e, rfl, h1 e List.mem_cons_self, fun x hx => ?_, .inr List.mem_cons_self⟩
        rcases List.mem_cons.mp hx with rfl | hx
        · exact Int.le_refl _
        · exact Int.le_of_lt ((List.pairwise_cons.mp h2).1 x hx)
    rw [hd']
    show addP (add1 g m d d') m (prs p n) s k = _
    rw [addP_val n m p _ s k h2 hb' hs]
    unfold add1
    by_cases c : d ≤ (s : Int) ∧ (s : Int) < d' ∧ (s : Int) - (k : Int) = d
    · rw [if_pos c]
      have l0 : lastAt p s k = false := by
        unfold lastAt
        rw [Bool.and_eq_false_iff]
        left
        rw [List.any_eq_false]
        intro e he z
        have := of_decide_eq_true z
        have := h1 e he
        omega
      have l1 : lastAt (d :: p) s k = true := by
        unfold lastAt
        rw [Bool.and_eq_true_iff]
        refine ⟨List.any_eq_true.mpr ⟨d, List.mem_cons_self, decide_eq_true c.2.2.symm⟩, List.all_eq_true.mpr fun e he => decide_eq_true fun z => ?_⟩
        rcases List.mem_cons.mp he with rfl | he
        · omega
        · have := lo e he
          omega
      rw [l0, l1]
      simp
    · rw [if_neg c]
      have l1 : lastAt (d :: p) s k = lastAt p s k := by
        unfold lastAt
        rw [List.any_cons, List.all_cons]
        by_cases z : d = (s : Int) - (k : Int)
        · -- then a later day is up to s
          have hs' : d' ≤ (s : Int) := by omega
          have hm : d' ∈ p := by
            rcases hi with ⟨rfl, _⟩ | h
            · omega
            · exact h
          have no : (p.all fun d => decide (d ≤ (s : Int) → d ≤ (s : Int) - (k : Int))) = false := by
            rw [List.all_eq_false]
            refine ⟨d', hm, ?_⟩
            intro q
            have := of_decide_eq_true q hs'
            omega
          rw [no, Bool.and_false, Bool.and_false, Bool.and_false]
        · rw [decide_eq_false z, Bool.false_or]
          by_cases a : (p.any fun d => decide (d = (s : Int) - (k : Int))) = true
          · obtain ⟨e, he, q⟩ := List.any_eq_true.mp a
            have e2 := of_decide_eq_true q
            have := h1 e he
            rw [decide_eq_true (show d ≤ (s : Int) → d ≤ (s : Int) - (k : Int) from fun _ => by omega), Bool.true_and]
          · rw [Bool.eq_false_iff.mpr a, Bool.false_and, Bool.false_and]
      rw [l1]
def lst (fam : Fm) (s k : Nat) : Int := (fam.map fun p => if lastAt p.1 s k then p.2 else 0).sum
theorem addF_gen (n : Int) (s k : Nat) (hs : (s : Int) < n) : ∀ (fam : Fm) (g : Cells), (∀ p ∈ fam, Pat n p.1) → fam.foldl (fun g p => addP g p.2 (prs p.1 n)) g s k = g s k + lst fam s k
  | [], g, _ => by
    show g s k = g s k + 0
    omega
  | p :: fam, g, h => by
    have hp := h p List.mem_cons_self
    show fam.foldl _ (addP g p.2 (prs p.1 n)) s k = _
    rw [addF_gen n s k hs fam _ fun q hq => h q (List.mem_cons_of_mem _ hq), addP_val n p.2 p.1 g s k hp.asc (fun d hd => (hp.bd d hd).2) hs]
    show _ = g s k + ((p :: fam).map fun p => if lastAt p.1 s k then p.2 else 0).sum
    rw [List.map_cons, List.sum_cons]
    show g s k + (if lastAt p.1 s k then p.2 else 0) + lst fam s k = _
    unfold lst
    omega
theorem addF_val {n : Int} {fam : Fm} (h : ∀ p ∈ fam, Pat n p.1) {s k : Nat} (hs : (s : Int) < n) : addF n fam s k = lst fam s k := by
  unfold addF
  rw [addF_gen n s k hs fam _ h]
  omega
/-- sums of the first ones -/
def pre (g : Cells) (s : Nat) : Nat → Int
  | 0 => g s 0
  | k + 1 => pre g s k + g s (k + 1)
theorem hits_step {p : List Int} (ha : p.Pairwise (· < ·)) (s k : Nat) : (if hits p ((s : Int) - ((k + 1 : Nat) : Int)) s then (1 : Int) else 0) = (if hits p ((s : Int) - (k : Int)) s then 1 else 0) + if lastAt p s (k + 1) then 1 else 0 := by
  by_cases h : hits p ((s : Int) - (k : Int)) s = true
  · obtain ⟨d, hd, e⟩ := List.any_eq_true.mp h
    obtain ⟨e1, e2⟩ := He.ba e
    have e1 := of_decide_eq_true e1
    have e2 := of_decide_eq_true e2
    have h2 : hits p ((s : Int) - ((k + 1 : Nat) : Int)) s = true := List.any_eq_true.mpr ⟨d, hd, Bool.and_eq_true_iff.mpr ⟨decide_eq_true (by omega), decide_eq_true e2⟩⟩
    have h3 : lastAt p s (k + 1) = false := by
      unfold lastAt
      rw [Bool.and_eq_false_iff]
      right
      rw [List.all_eq_false]
      refine ⟨d, hd, fun q => ?_⟩
      have := of_decide_eq_true q e2
      omega
    rw [h, h2, h3]
    rfl
  · have h0 := Bool.eq_false_iff.mpr h
    have no : ∀ d ∈ p, d ≤ (s : Int) → d < (s : Int) - (k : Int) := fun d hd hs => by
      refine Int.not_le.mp fun z => h (List.any_eq_true.mpr ⟨d, hd, Bool.and_eq_true_iff.mpr ⟨decide_eq_true z, decide_eq_true hs⟩⟩)
    have eqv : hits p ((s : Int) - ((k + 1 : Nat) : Int)) s = lastAt p s (k + 1) := by
      rw [Bool.eq_iff_iff]
      constructor
      · intro q
        obtain ⟨d, hd, e⟩ := List.any_eq_true.mp q
        obtain ⟨e1, e2⟩ := He.ba e
        have e1 := of_decide_eq_true e1
        have e2 := of_decide_eq_true e2
        have := no d hd e2
        refine Bool.and_eq_true_iff.mpr ⟨List.any_eq_true.mpr ⟨d, hd, decide_eq_true (by omega)⟩, List.all_eq_true.mpr fun x hx => decide_eq_true fun z => ?_⟩
        have := no x hx z
        omega
      · intro q
        obtain ⟨q1, _⟩ := He.ba q
        obtain ⟨d, hd, e⟩ := List.any_eq_true.mp q1
        have e := of_decide_eq_true e
        exact List.any_eq_true.mpr ⟨d, hd, Bool.and_eq_true_iff.mpr ⟨decide_eq_true (by omega), decide_eq_true (by omega)⟩⟩
    rw [h0, eqv]
    simp
theorem hits_zero {p : List Int} (s : Nat) : hits p ((s : Int) - ((0 : Nat) : Int)) s = lastAt p s 0 := by
  rw [Bool.eq_iff_iff]
  constructor
  · intro q
    obtain ⟨d, hd, e⟩ := List.any_eq_true.mp q
    obtain ⟨e1, e2⟩ := He.ba e
    have e1 := of_decide_eq_true e1
    have e2 := of_decide_eq_true e2
    exact Bool.and_eq_true_iff.mpr ⟨List.any_eq_true.mpr ⟨d, hd, decide_eq_true (by omega)⟩, List.all_eq_true.mpr fun x hx => decide_eq_true fun z => by omega⟩
  · intro q
    obtain ⟨q1, _⟩ := He.ba q
    obtain ⟨d, hd, e⟩ := List.any_eq_true.mp q1
    have e := of_decide_eq_true e
    exact List.any_eq_true.mpr ⟨d, hd, Bool.and_eq_true_iff.mpr ⟨decide_eq_true (by omega), decide_eq_true (by omega)⟩⟩
theorem ite_mul (b : Bool) (m : Int) : (if b then m else 0) = (if b then (1 : Int) else 0) * m := by
  cases b with
  | true =>
    show m = 1 * m
    omega
  | false =>
    show 0 = 0 * m
    omega
theorem pre_lst (s : Nat) : ∀ (k : Nat) (fam : Fm), (∀ p ∈ fam, p.1.Pairwise (· < ·)) → pre (lst fam) s k = unl fam ((s : Int) - (k : Int)) s
  | 0, fam, h => by
    show lst fam s 0 = _
    unfold lst unl
    congr 1
    refine List.map_congr_left fun p _ => ?_
    rw [hits_zero]
  | k + 1, fam, h => by
    show pre (lst fam) s k + lst fam s (k + 1) = _
    rw [pre_lst s k fam h]
    unfold lst unl
    induction fam with
    | nil => rfl
    | cons p fam ih =>
      simp only [List.map_cons, List.sum_cons]
      have ih' := ih fun q hq => h q (List.mem_cons_of_mem _ hq)
      have st := hits_step (h p List.mem_cons_self) s k
      rw [ite_mul (hits p.1 ((s : Int) - (k : Int)) s), ite_mul (lastAt p.1 s (k + 1)), ite_mul (hits p.1 ((s : Int) - ((k + 1 : Nat) : Int)) s), st, Int.add_mul]
      omega
/-- the law's reckoning gives the sheet's numbers -/
theorem law_cells {n : Int} {fam : Fm} (h : ∀ p ∈ fam, Pat n p.1) {s k : Nat} (hs : (s : Int) < n) : pre (addF n fam) s k = unl fam ((s : Int) - (k : Int)) s := by
  rw [← pre_lst s k fam fun p hp => (h p hp).asc]
  induction k with
  | zero => exact addF_val h hs
  | succ k ih =>
    show pre (addF n fam) s k + addF n fam s (k + 1) = pre (lst fam) s k + lst fam s (k + 1)
    rw [ih, addF_val h hs]
end Fa

/-! defs that are called where no object is being shown: repr can stand in them -/
namespace Fa
open PySem PySem.Spec PyProof.Rows L2
/-- nothing is being shown around -/
def Nog (A : Around) : Prop := A.guards = some []
theorem Nog.deeper {A : Around} (g : Nog A) (env : Env) : Nog (A.deeper env) := g
structure FnG (P : Program) (w : World) (K : PySem.W.Frag) (mg : Str → Option Value) (base : Heap) (k : Nat)
    (f : Addr) (fd : FuncData) (ps : List Str) (sp : Sp) : Prop where
  size : ∀ xs M R W, sp xs M R W → xs.length = ps.length
  runs : ∀ (A : Around) (out : List Env) (st : Shared) (M : Hp) (ar : Args) (us : List Value) (xs : List V) (R : VK) (W : XK),
    Room k A → Nog A → Env0 P w K mg base A out st M → BindsTo st fd ar (ps.zip us) → Vals xs us → sp xs M R W →
    codeAny (model P w) A (.call (.ref f) ar) (CR CX0 out P w M st R W) st
theorem FnG.of {P : Program} {w : World} {K : PySem.W.Frag} {mg : Str → Option Value} {base : Heap} {k : Nat} {f : Addr} {fd : FuncData} {ps : List Str} {sp : Sp}
    (F : FnOk P w K mg base CX0 k f fd ps sp) : FnG P w K mg base k f fd ps sp :=
  ⟨F.len, fun A out st M ar us xs R W hr _ e b v q => F.run A out st M ar us xs R W hr e b v q⟩
theorem FnG.mono {P : Program} {w : World} {K : PySem.W.Frag} {mg : Str → Option Value} {base : Heap} {j k : Nat} {f : Addr} {fd : FuncData} {ps : List Str} {sp : Sp}
    (F : FnG P w K mg base j f fd ps sp) (h : j ≤ k) : FnG P w K mg base k f fd ps sp :=
  ⟨F.size, fun A out st M ar us xs R W hr => F.runs A out st M ar us xs R W (hr.mono h)⟩
section
variable {P : Program} {w : World} {K : PySem.W.Frag} {mg : Str → Option Value} {base : Heap}
/-- a def by its body, where nothing is being shown -/
theorem funG {x qual : Str} {st : Stmt} {f : Addr} {fd : FuncData} {N ps : List Str} {k : Nat} {sp : Sp} (F : Fun K x qual st f fd)
    (S : FnScope N ps (defScope st)) (size : ∀ xs M R W, sp xs M R W → xs.length = ps.length)
    (body : ∀ (cdv : Value) (A : Around) (outer : List Env) (s : Shared) (H : Hp) (vs : List V) (Q : VK) (E : XK),
      Room k (A.deeper (envOfC qual (defScope st) s.heap.objs.size f cdv)) → Nog (A.deeper (envOfC qual (defScope st) s.heap.objs.size f cdv)) → sp vs H Q E →
      ∃ t, PSs (cxOf CX0 P w K mg base N qual (defScope st) f cdv A outer s H E).nox (defBody st) t ∧
        t { nx := fun _ H' => Q .non H', rt := Q } (start N vs) H) : FnG P w K mg base (k + 1) f fd ps sp := by
  obtain ⟨oc, od, kV, doc, pm, an, cdv, ct, osl, rfl, look, code⟩ := F.ex
  refine ⟨size, fun A out sh M ar us xs R W hr ng e b r q => ?_⟩
  have n1 := size _ _ _ _ q
  have kin : K.In sh.heap := e.mod.kin.keeps fun c o z => (e.bs c o z).1
  have free : sh.heap.NoLimit := e.mod.nolimit.keeps fun c o z => (e.bs c o z).1
  have kinds : ∀ y ∈ ps.zip us, (defScope st).names.lookup y.1 = some .local ∨
      ((defScope st).names.lookup y.1 = some .cell ∧ ((cellsFrom (sh.heap.objs.size + 1) (defScope st).names []).lookup y.1).isSome = true) := by
    rintro ⟨nm, u⟩ hy
    rcases S.par nm (List.of_mem_zip hy).1 with z | z
    · exact .inl z
    · exact .inr ⟨z, PySem.W.cellsFrom_some _ _ _ (.inl z)⟩
  have frame := kin _ _ look
  have rec' := PySem.W.codeRec_of kin code
  refine codeAny_call_function hr.depth frame rfl S.co S.gen rfl rec' (b _ _ _ _ ?_)
  refine wpAny_newFunctionEnv_cells S.kind kinds fun env he s1 inn => ?_
  subst he
  refine ⟨free.keeps inn.toInCall.keep, codeAny_func ?_⟩
  obtain ⟨t0, h0, q0⟩ := body cdv A out sh M xs R W (hr.deeper _) (ng.deeper _) q
  have t1 := h0.nox
  have J0 := inv_start (CX := CX0) (E := W) (cd := cdv) (f := f) S hr.hd e n1 r inn
  refine wpAny_mono (t1.run [] s1 (start N xs) M _ J0 q0) (fun fl s2 z => ?_) fun _ _ z => z
  cases fl with
  | ret u =>
    obtain ⟨v, σ2, M2, J, rv, q2⟩ := z
    exact ⟨v, M2, J.os, J.bare, J.base, J.hok, rv, q2⟩
  | next =>
    obtain ⟨σ2, M2, J, q2⟩ := z
    exact ⟨.non, M2, J.os, J.bare, J.base, J.hok, rfl, q2⟩
  | brk =>
    obtain ⟨_, _, _, z2⟩ := z
    cases z2
  | cont =>
    obtain ⟨_, _, _, z2⟩ := z
    cases z2
end
section
variable {X : Cx} {k n : Nat} {f : Addr} {fd : FuncData} {ps ks : List Str} {sp : Sp} {x : Str} {p pos : Pos} {e : Expr} {es : List Expr} {kws : List Keyword} {t tk : TA} {g : List Value → List Value → List Value} {gV : List V → List V → List V}
theorem runG {pins : List (Addr × Obj)} {σ : L2.St} {H : Hp} {s : Shared} {Q : VK} {ar : Args} {us : List Value} {vs : List V} (F : FnG X.prog X.w X.K X.mg X.base k f fd ps sp)
    (hr : Room k X.A) (ng : Nog X.A) (I : Inv X pins σ H s) (b : BindsTo s fd ar (ps.zip us)) (r : Vals vs us) (h : sp vs H Q E0) :
    codeAny (model X.prog X.w) X.A (.call (.ref f) ar) (fun r s' => match r with | .ok (.ret u) => EP X pins σ Q u s' | _ => False) s := by
  refine codeAny_mono (F.runs X.A X.stack s H ar us vs Q E0 hr ng I.env0 b r h) fun z s2 hz => ?_
  match z, hz with
  | .error _, hz => exact hz
  | .ok (.ret _), hz => exact I.after hz
  | .ok .next, hz => exact hz
  | .ok .brk, hz => exact hz
  | .ok .cont, hz => exact hz
theorem runG' {pins : List (Addr × Obj)} {σ : L2.St} {H : Hp} {s : Shared} {Q : VK} {us ws zz : List Value} {nms : List Str} {vs : List V} (F : FnG X.prog X.w X.K X.mg X.base k f fd ps sp)
    (hr : Room k X.A) (ng : Nog X.A) (I : Inv X pins σ H s) (b : BindsTo s fd ⟨us, nms.zip ws⟩ (ps.zip zz)) (r : Vals vs zz) (h : sp vs H Q E0) :
    wpAny (model X.prog X.w) X.A (call (.ref f) us (nms.zip ws)) (EP X pins σ Q) X.xe s := by
  refine wpAny_call (codeAny_mono (runG F hr ng I b r h) fun z s2 hz => ?_)
  match z, hz with
  | .error _, hz => exact False.elim hz
  | .ok (.ret _), hz => exact hz
  | .ok .next, hz => exact False.elim hz
  | .ok .brk, hz => exact False.elim hz
  | .ok .cont, hz => exact False.elim hz
/-- f(e, ..) -/
theorem pe_callG (F : FnG X.prog X.w X.K X.mg X.base k f fd ps sp) (hr : Room k X.A) (ng : Nog X.A) (hg : Gl X x) (hm : X.mg x = some (.ref f)) (hk : PySem.W.keepIn X.K (.ref f) = true)
    (hb : Binds X.K fd ps []) (ha : PA X (e :: es) t) (hdb : (x == ("__debug__" : Str)) = false := by decide)
    (he : starEach (e :: es) X.env = (false, eval e X.env) :: starEach es X.env := by rfl) (hpl : (backTo pos (starEach es X.env)).any (·.1) = false := by rfl) :
    PE X (.Call (.Name x p) (e :: es) [] pos) (tCall sp [] E0 t) := by
  refine ⟨fun pins s σ H Q I h => wpAny_Call_Name_kw (ld_glob I hg hm ?_ hdb)⟩
  refine PySem.W.callWith_K (h₀ := X.base) I.ok.mod.kin hk ?_ he hpl
  refine thn (ha.run pos pins s σ H _ I h) ?_
  rintro us s1 ⟨vs, H1, I1, r, q⟩
  refine ⟨I1.kIn, ?_⟩
  rw [List.append_nil] at q
  have l1 : us.length = ps.length := r.length.symm.trans (F.size _ _ _ _ q)
  have b1 := hb s1 us I1.kIn (by rw [List.append_nil]; exact l1)
  rw [List.append_nil] at b1
  exact runG' (ws := []) (nms := []) F hr ng I1 b1 r q
/-- f(k = v, ..) -/
def tCallKW (sp : Sp) (m : Nat) (gV : List V → List V → List V) (tk : TA) : TE := fun σ H Q => tk σ H fun zs H2 => zs.length = m ∧ sp (gV [] zs) H2 Q E0
theorem pe_callGK (F : FnG X.prog X.w X.K X.mg X.base k f fd ps sp) (hr : Room k X.A) (ng : Nog X.A) (hg : Gl X x) (hm : X.mg x = some (.ref f)) (hk : PySem.W.keepIn X.K (.ref f) = true)
    (hb : KBn X.K fd ps 0 ks g gV) (hkw : PK X kws tk) (hall : (backToKw pos (keywordEach kws X.env)).all (·.1.isSome) = true := by rfl)
    (hks : (backToKw pos (keywordEach kws X.env)).filterMap (·.1) = ks := by rfl) (hdb : (x == ("__debug__" : Str)) = false := by decide)
    (hpl : ((backTo pos (starEach [] X.env)).any (·.1) || (backToKw pos (keywordEach kws X.env)).any (·.1.isNone)) = false := by rfl) :
    PE X (.Call (.Name x p) [] kws pos) (tCallKW sp ks.length gV tk) := by
  refine ⟨fun pins s σ H Q I h => wpAny_Call_Name_kw (ld_glob I hg hm ?_ hdb)⟩
  refine PySem.W.callWith_KW0 (h₀ := X.base) I.ok.mod.kin hk hall ?_ hpl
  refine thn (hkw.run pos pins s σ H _ I h) ?_
  rintro ws s2 ⟨zs, H2, I2, rz, l2, q2⟩
  refine ⟨I2.kIn, ?_⟩
  rw [hks]
  exact runG' (us := []) F hr ng I2 (hb.to s2 [] ws I2.kIn rfl (rz.length.symm.trans l2)) (hb.rel .nil rz) q2
end
end Fa

/-! a law whose defs show objects: its end -/
namespace Fa
open PySem PySem.Spec PyProof.Rows L2
section
variable {P : Program} {w : World} {K : PySem.W.Frag} {mg mb : Str → Option Value} {k : Nat} {fa a : Addr} {fd : FuncData} {x : Str} {sp : Sp} {st : Shared} {vs : List Value} {ns : List Int}
/-- what the law's call must give -/
def Well (st : Shared) (r : Result) (s2 : Shared) : Prop := r = .ok (.ret (.bool true)) ∧ OldK st.heap s2.heap ∧ s2.os = st.os ∧ AllBare s2.gens
theorem law_runG {M : Hp} (kin : K.In st.heap) (main : st.heap.Ns mainGlobals mg) (hb : st.heap.Ns builtinsNs mb)
    (boot : ∀ y : Str, y ≠ "__name__" → mb y = bootBuiltins y) (free : st.heap.NoLimit) (gens : st.gens = #[])
    (at' : st.heap.get? a = some { cls := .type "list", data := .seq vs.toArray }) (room : Room k callerA)
    (F : ∀ base : Heap, K.In base → base.Ns mainGlobals mg → FnG P w K mg base k fa fd [x] sp)
    (bnd : ∀ (s : Shared) (u : Value), BindsTo s fd ⟨[u], []⟩ [(x, u)]) (only : Only M) (q : sp [.ref a] M (fun v _ => v = .bl true) E0)
    (hok : HOk P w M st.heap) (one : ∀ b, M b ≠ none → b = a) (notK : M a ≠ none → K.lookup a = none) :
    codeAny (model P w) callerA (.call (.ref fa) ⟨[.ref a], []⟩) (Well st) st := by
  have plain : ∀ {b : Addr} {o : Obj}, st.heap.get? b = some o → (∀ es ep, o.data = .dict es ep → M b = none) := fun {b o} e es ep d => by
    cases c : M b with
    | none => rfl
    | some u =>
      cases one b (by rw [c]; exact Option.some_ne_none _)
      rw [at'] at e
      cases e
      exact absurd d (by intro z; cases z)
  have toN : ∀ {b : Addr} {m : Str → Option Value}, st.heap.Ns b m → (hidT st.heap M).Ns b m := by
    rintro b m ⟨o, es, ep, e, d, r⟩
    exact ⟨o, es, ep, hidT_get e (plain e es ep d), d, r⟩
  have kin2 : K.In (hidT st.heap M) := fun b o e => by
    refine hidT_get (kin b o e) ?_
    cases c : M b with
    | none => rfl
    | some u =>
      cases one b (by rw [c]; exact Option.some_ne_none _)
      rw [notK (by rw [c]; exact Option.some_ne_none _)] at e
      cases e
  obtain ⟨mc, f1, f2⟩ := free
  have md : Mod K mg (hidT st.heap M) := ⟨kin2, toN main, ⟨mb, toN hb, boot⟩, ⟨mc, toN f1, f2⟩⟩
  have env : Env0 P w K mg (hidT st.heap M) callerA [] st M :=
    ⟨rfl, md, fun b o e => of_hidT e, Nat.le_of_eq (hidT_size _ _), trivial, fun b z => (List.not_mem_nil z).elim, hok, .of_eq gens⟩
  have go := (F _ kin2 (toN main)).runs callerA [] st M ⟨[.ref a], []⟩ [.ref a] [.ref a] _ _ room rfl env (bnd st (.ref a)) (.cons rfl .nil) q
  refine codeAny_mono go fun r s2 z => ?_
  match r, z with
  | .error _, z => exact z.elim
  | .ok .next, z => exact z.elim
  | .ok .brk, z => exact z.elim
  | .ok .cont, z => exact z.elim
  | .ok (.ret u), ⟨v, M2, os, bare, un, hok2, rv, eq⟩ =>
    cases (show v = .bl true from eq)
    cases (show u = Value.bool true from rv)
    refine ⟨rfl, OldK.of_keep fun b o e => ?_, os, bare⟩
    cases c : M b with
    | none => exact un.keep b o e c (fun z => (List.not_mem_nil z).elim) (by simp)
    | some u =>
      rcases only b with z | ⟨ob, xs, z⟩
      · rw [z] at c
        cases c
      · have old := (hok b _ z).1
        have new := (hok2 b _ (un.frzs b ob _ z)).1
        rw [e] at old
        cases old
        exact new
theorem law_callG (kin : K.In st.heap) (main : st.heap.Ns mainGlobals mg) (hb : st.heap.Ns builtinsNs mb) (boot : ∀ y : Str, y ≠ "__name__" → mb y = bootBuiltins y)
    (free : st.heap.NoLimit) (gens : st.gens = #[]) (at' : st.heap.get? a = some { cls := .type "list", data := .seq vs.toArray }) (isI : IntsAre vs ns) (size : ns.length ≤ sizeLine)
    (room : Room k callerA) (F : ∀ base : Heap, K.In base → base.Ns mainGlobals mg → FnG P w K mg base k fa fd [x] sp)
    (bnd : ∀ (s : Shared) (u : Value), BindsTo s fd ⟨[u], []⟩ [(x, u)])
    (q : ∀ M : Hp, Only M → SqL K M a (ns.map V.int) → sp [.ref a] M (fun v _ => v = .bl true) E0) :
    codeAny (model P w) callerA (.call (.ref fa) ⟨[.ref a], []⟩) (Well st) st := by
  have rel := vals_ints isI
  by_cases c : ∃ o, K.lookup a = some o
  · obtain ⟨o, c⟩ := c
    have e := kin a o c
    rw [at'] at e
    cases e
    have sq : SqL K (fun _ => none) a (ns.map V.int) :=
      .inr ⟨_, vs.toArray, _, c, rfl, rfl, rfl, by rw [List.size_toArray, isI.length]; exact size, by simpa using rel⟩
    exact law_runG (M := fun _ => none) kin main hb boot free gens at' room F bnd (fun _ => .inl rfl) (q _ (fun _ => .inl rfl) sq)
      (fun b u z => nomatch z) (fun b z => absurd rfl z) fun z => absurd rfl z
  · have noK : K.lookup a = none := by
      cases d : K.lookup a with
      | none => rfl
      | some o => exact absurd ⟨o, d⟩ c
    let ob : Obj := { cls := .type "list", data := .seq vs.toArray }
    let M : Hp := fun b => if b = a then some (.frz ob (.lst (ns.map V.int))) else none
    have Ma : M a = some (.frz ob (.lst (ns.map V.int))) := if_pos rfl
    have Mb : ∀ b, b ≠ a → M b = none := fun b z => if_neg z
    have only : Only M := fun b => by
      by_cases z : b = a
      · subst z
        exact .inr ⟨_, _, Ma⟩
      · exact .inl (Mb b z)
    refine law_runG (M := M) kin main hb boot free gens at' room F bnd only (q M only (.inl (.inr ⟨ob, Ma⟩))) (fun b u z => ?_) (fun b z => ?_) fun _ => noK
    · by_cases y : b = a
      · subst y
        rw [Ma] at z
        cases z
        exact ⟨at', by rw [List.length_map]; exact size, vs, _, rel, at'⟩
      · rw [Mb b y] at z
        cases z
    · by_cases y : b = a
      · exact y
      · exact absurd (Mb b y) z
end
theorem walkG {l : PySem.W.OpenLaw} {n k : Nat} {q : Program} {loose : List Str} {XP : (Str → Option Value) → Heap → Prop} {YP : World → Heap → Prop} {d : DefRec} {x : Str}
    (most : l.most = some n) (small : n ≤ sizeLine) (plain : d.params.defaults = []) (room : Room k callerA)
    (F : ∀ (w : World) (mg : Str → Option Value) (fa : Addr) (h : Heap), YP w h → h.Ns mainGlobals mg → mg d.name = some (.ref fa) →
      ∃ (K : PySem.W.Frag) (fd : FuncData) (sp : Sp), K.In h ∧ (∀ (s : Shared) (u : Value), BindsTo s fd ⟨[u], []⟩ [(x, u)]) ∧
        (∀ (M : Hp) (a : Addr) (ns : List Int), ns.length ≤ n → Only M → SqL K M a (ns.map V.int) → sp [.ref a] M (fun v _ => v = .bl true) E0) ∧
        ∀ base : Heap, K.In base → base.Ns mainGlobals mg → FnG l.prog w K mg base k fa fd [x] sp) :
    PySem.W.WalkO q loose XP YP l.row.toRowW d [] (fun f vs => PySem.call f vs) := by
  refine Att.attach_call most plain ?_
  intro w s0 s1 mg mb fa o pm cd doc a vs ns G Y ho hd hcd hmg at0 isI len gens
  obtain ⟨K, fd, sp, kin, bnd, ask, go⟩ := F w mg fa _ Y G.T.g hmg
  exact law_callG kin G.T.g G.T.b G.T.builtins G.T.nolimit gens at0 isI (Nat.le_trans len small) room go bnd fun M h1 h2 => ask M a ns len h1 h2
end Fa

namespace Fa
open PySem PySem.Spec PyProof.Rows L2
section
variable (K : PySem.W.Frag) {X : Cx}
theorem tupIQ {tg l : Expr} {tl : TE} (hl : PE X l tl) (h : X.K = K := by rfl) : PI X tg l (iTup K tl) := h ▸ pi_tup hl
theorem slTA (h : X.K = K := by rfl) : SlR X (rSlA K) := h ▸ sl_tupA
theorem catTA (h : X.K = K := by rfl) : OpR X (binaryOp .Add) (rCatA K) := h ▸ op_catA
theorem reprQ (gd : Nog X.A) (hu : X.A.units + 66 < cLine) (h : X.K = K := by rfl) : CallR X (.builtin "repr") (rRepr K) := h ▸ call_repr gd hu
end
/-- a suite that is never reached -/
theorem pss_never {X : Cx} {b : List Stmt} : PSs X b (fun _ _ _ => False) := ⟨fun _ _ _ _ _ _ h => h.elim⟩
theorem asc_len : ∀ {l : List Int} {a n : Int}, l.Pairwise (· < ·) → (∀ d ∈ l, a ≤ d ∧ d < n) → (l.length : Int) ≤ max (n - a) 0
  | [], a, n, _, _ => by
    show ((0 : Nat) : Int) ≤ _
    omega
  | d :: l, a, n, h, b => by
    obtain ⟨h1, h2⟩ := List.pairwise_cons.mp h
    have := asc_len (a := d + 1) (n := n) h2 fun e he => ⟨by have := h1 e he; omega, (b e (List.mem_cons_of_mem _ he)).2⟩
    have := b d List.mem_cons_self
    rw [List.length_cons]
    omega
theorem Pat.len {n : Int} {ds : List Int} (h : Pat n ds) : (ds.length : Int) ≤ max n 0 := by
  have := asc_len (a := 0) h.asc h.bd
  omega
end Fa

/-! lists of lists of numbers in a heap -/
namespace Fa
open PySem PySem.Spec PyProof.Rows L2
theorem ixN_int {n : Nat} {i : Int} (h0 : 0 ≤ i) (h1 : i < n) : ixN n i = some i.toNat := by
  unfold ixN
  rw [if_pos h0, if_pos (by omega)]
theorem atI_int {α : Type} {xs : List α} {i : Int} {v : α} (h0 : 0 ≤ i) (h : xs[i.toNat]? = some v) : atI xs i = some v := by
  have := atI_nat h
  rwa [Int.toNat_of_nonneg h0] at this
theorem atI_neg1 {α : Type} {xs : List α} {v : α} (h : xs[xs.length - 1]? = some v) (h0 : xs ≠ []) : atI xs (-1) = some v := by
  obtain ⟨ys, y, rfl⟩ : ∃ ys y, xs = ys ++ [y] := ⟨xs.dropLast, xs.getLast h0, (List.dropLast_concat_getLast h0).symm⟩
  rw [atI_last]
  rw [List.length_append, List.length_singleton, Nat.add_sub_cancel, List.getElem?_append_right (Nat.le_refl _), Nat.sub_self] at h
  exact h
structure GridAt (H : Hp) (g : Addr) (rows : List Addr) (n : Nat) (f : Nat → List Int) : Prop where
  top : H g = some (.lst (rows.map V.ref))
  cnt : rows.length = n
  nd : rows.Nodup
  out : g ∉ rows
  row : ∀ s r, rows[s]? = some r → H r = some (.lst ((f s).map V.int))
section
variable {H H' : Hp} {g : Addr} {rows : List Addr} {n : Nat} {f : Nat → List Int}
theorem GridAt.keep (h : GridAt H g rows n f) (k : ∀ b xs, H b = some (.lst xs) → H' b = some (.lst xs)) : GridAt H' g rows n f :=
  ⟨k _ _ h.top, h.cnt, h.nd, h.out, fun s r e => k _ _ (h.row s r e)⟩
theorem GridAt.same (h : GridAt H g rows n f) (k : Same H H') : GridAt H' g rows n f := h.keep fun _ _ e => k _ _ e
/-- where only some places may have changed -/
theorem GridAt.but (h : GridAt H g rows n f) (k : ∀ b o, (b = g ∨ b ∈ rows) → H b = some o → H' b = some o) : GridAt H' g rows n f :=
  ⟨k _ _ (.inl rfl) h.top, h.cnt, h.nd, h.out, fun s r e => k _ _ (.inr (List.mem_of_getElem? e)) (h.row s r e)⟩
theorem GridAt.get (h : GridAt H g rows n f) {s : Nat} (hs : s < n) : ∃ r, rows[s]? = some r ∧ r ∈ rows ∧ H r = some (.lst ((f s).map V.int)) := by
  have : s < rows.length := by rw [h.cnt]; exact hs
  exact ⟨rows[s], List.getElem?_eq_getElem this, List.getElem_mem this, h.row s _ (List.getElem?_eq_getElem this)⟩
theorem GridAt.uniq (h : GridAt H g rows n f) {s t : Nat} {r : Addr} (hs : rows[s]? = some r) (ht : rows[t]? = some r) : s = t := by
  have a := (List.getElem?_eq_some_iff.mp hs).1
  exact (List.getElem?_inj a h.nd).mp (hs.trans ht.symm)
theorem GridAt.put (h : GridAt H g rows n f) {s : Nat} {r : Addr} {l : List Int} (hs : rows[s]? = some r) : GridAt (upd H r (.lst (l.map V.int))) g rows n (fun t => if t = s then l else f t) := by
  refine ⟨?_, h.cnt, h.nd, h.out, fun t q e => ?_⟩
  · rw [upd_ne (fun z => h.out (by rw [z]; exact List.mem_of_getElem? hs))]
    exact h.top
  · by_cases c : t = s
    · subst c
      rw [hs] at e
      cases e
      rw [upd_same, if_pos rfl]
    · rw [if_neg c, upd_ne (fun z => c (by subst z; exact h.uniq e hs))]
      exact h.row t q e
theorem GridAt.ext {f' : Nat → List Int} (h : GridAt H g rows n f) (e : ∀ s, s < n → f s = f' s) : GridAt H g rows n f' :=
  ⟨h.top, h.cnt, h.nd, h.out, fun s r er => by
    have : s < n := by
      have := (List.getElem?_eq_some_iff.mp er).1
      rw [h.cnt] at this
      exact this
    rw [← e s this]
    exact h.row s r er⟩
theorem GridAt.off (h : GridAt H g rows n f) {p : Addr} {o : HO} (hp : p ≠ g) (hr : p ∉ rows) : GridAt (upd H p o) g rows n f :=
  h.but fun b u hb e => by
    rw [upd_ne]
    · exact e
    · rintro rfl
      rcases hb with z | z
      · exact hp z
      · exact hr z
end
/-! data of a grid -/
def gridD (n : Nat) (f : Nat → List Int) : PyData := .list ((List.range n).map fun s => .list ((f s).map .int))
theorem gridD_ext {n : Nat} {f f' : Nat → List Int} (e : ∀ s, s < n → f s = f' s) : gridD n f = gridD n f' := by
  unfold gridD
  refine congrArg PyData.list (List.map_congr_left fun s hs => ?_)
  rw [e s (List.mem_range.mp hs)]
theorem gridD_shp (m n : Nat) (f : Nat → List Int) : Shp (m + 2) (gridD n f) := shp_list fun d hd => by
  obtain ⟨s, _, rfl⟩ := List.mem_map.mp hd
  exact shp_ints _ _
theorem dpAll_of {K : PySem.W.Frag} {H : Hp} : ∀ {vs : List V} {ds : List PyData}, vs.length = ds.length → (∀ (i : Nat) (v : V) (d : PyData), vs[i]? = some v → ds[i]? = some d → Dp K H v d) → DpAll K H vs ds
  | [], [], _, _ => .nil
  | [], _ :: _, h, _ => by cases h
  | _ :: _, [], h, _ => by cases h
  | v :: vs, d :: ds, h, q => .cons (q 0 v d rfl rfl) (dpAll_of (by simpa using h) fun i v' d' h1 h2 => q (i + 1) v' d' (by simpa using h1) (by simpa using h2))
theorem GridAt.dp {K : PySem.W.Frag} {H : Hp} {g : Addr} {rows : List Addr} {n : Nat} {f : Nat → List Int} (h : GridAt H g rows n f) : Dp K H (.ref g) (gridD n f) := by
  refine .lst (.inl (.inl h.top)) (dpAll_of ?_ fun i v d h1 h2 => ?_)
  · rw [List.length_map, List.length_map, List.length_range, h.cnt]
  · rw [List.getElem?_map] at h1 h2
    cases e : rows[i]? with
    | none =>
      rw [e] at h1
      cases h1
    | some r =>
      rw [e] at h1
      cases h1
      have li : i < n := by
        have := (List.getElem?_eq_some_iff.mp e).1
        rw [h.cnt] at this
        exact this
      rw [List.getElem?_range li] at h2
      cases h2
      exact .lst (.inl (.inl (h.row i r e))) (dp_ints _)
/-! rows of cells -/
def cr (c : Cells) (m s : Nat) : List Int := (List.range m).map (c s)
theorem cr_len (c : Cells) (m s : Nat) : (cr c m s).length = m := by
  unfold cr
  rw [List.length_map, List.length_range]
theorem cr_at {c : Cells} {m s k : Nat} (h : k < m) : (cr c m s)[k]? = some (c s k) := by
  unfold cr
  rw [List.getElem?_map, List.getElem?_range h]
  rfl
theorem cr_atV {c : Cells} {m s k : Nat} (h : k < m) : ((cr c m s).map V.int)[k]? = some (.int (c s k)) := by
  rw [List.getElem?_map, cr_at h]
  rfl
theorem cr_set {c : Cells} {m s k : Nat} {v : Int} : (cr c m s).set k v = cr (fun s' k' => if s' = s ∧ k' = k then v else c s' k') m s := by
  refine List.ext_getElem? fun i => ?_
  by_cases hi : i < m
  · rw [cr_at hi]
    by_cases e : i = k
    · subst e
      rw [List.getElem?_set_self (by rw [cr_len]; exact hi), if_pos ⟨rfl, rfl⟩]
    · rw [List.getElem?_set_ne (fun z => e z.symm), cr_at hi, if_neg fun z => e z.2]
  · rw [List.getElem?_eq_none (by rw [List.length_set, cr_len]; omega), List.getElem?_eq_none (by rw [cr_len]; omega)]
theorem cr_ext {c c' : Cells} {m s : Nat} (h : ∀ k, k < m → c s k = c' s k) : cr c m s = cr c' m s := List.map_congr_left fun k hk => h k (List.mem_range.mp hk)
theorem set_mapV (l : List Int) (k : Nat) (v : Int) : (l.map V.int).set k (.int v) = (l.set k v).map V.int := by
  rw [List.map_set]
/-- a place of a grid of cells is written -/
theorem GridAt.poke {H : Hp} {g : Addr} {rows : List Addr} {n : Nat} {c c' : Cells} {len : Nat → Nat} {s k : Nat} {r : Addr} {v : Int} (h : GridAt H g rows n fun s => cr c (len s) s) (hs : rows[s]? = some r)
    (hc : ∀ s' k', s' < n → k' < len s' → c' s' k' = if s' = s ∧ k' = k then v else c s' k') :
    GridAt (upd H r (.lst (((cr c (len s) s).map V.int).set k (.int v)))) g rows n fun s => cr c' (len s) s := by
  rw [set_mapV, cr_set]
  refine (h.put hs).ext fun t ht => ?_
  by_cases e : t = s
  · rw [if_pos e]
    subst e
    exact cr_ext fun k' hk => (hc t k' ht hk).symm
  · rw [if_neg e]
    refine cr_ext fun k' hk => ?_
    rw [hc t k' ht hk, if_neg fun z => e z.1]
theorem flat_zeros (k : Nat) : (List.replicate k [V.int 0]).flatten = ((List.range k).map fun _ => (0 : Int)).map V.int := by
  rw [List.map_map]
  refine List.ext_getElem? fun i => ?_
  have : (List.replicate k [V.int 0]).flatten = List.replicate k (V.int 0) := by
    induction k with
    | zero => rfl
    | succ k ih =>
      rw [List.replicate_succ, List.flatten_cons, ih, List.replicate_succ]
      rfl
  rw [this]
  by_cases hi : i < k
  · rw [List.getElem?_replicate, if_pos hi, List.getElem?_map, List.getElem?_range hi]
    rfl
  · rw [List.getElem?_replicate, if_neg hi, List.getElem?_eq_none (by rw [List.length_map, List.length_range]; omega)]
/-- one more row at the end -/
theorem GridAt.grow {H : Hp} {g r : Addr} {rows : List Addr} {i : Nat} {f : Nat → List Int} (h : GridAt H g rows i f) (hr : H r = some (.lst ((f i).map V.int))) (ng : r ≠ g) (nr : r ∉ rows) :
    GridAt (upd H g (.lst (rows.map V.ref ++ [.ref r]))) g (rows ++ [r]) (i + 1) f := by
  refine ⟨?_, ?_, ?_, ?_, fun s q e => ?_⟩
  · rw [upd_same, List.map_append]
    rfl
  · rw [List.length_append, h.cnt]
    rfl
  · rw [List.nodup_append]
    refine ⟨h.nd, List.pairwise_singleton _ _, fun a ha b hb z => ?_⟩
    rw [List.mem_singleton.mp hb] at z
    subst z
    exact nr ha
  · intro z
    rcases List.mem_append.mp z with z | z
    · exact h.out z
    · exact ng (List.mem_singleton.mp z).symm
  · have nq : q ≠ g := by
      rintro rfl
      rcases List.mem_append.mp (List.mem_of_getElem? e) with z | z
      · exact h.out z
      · exact ng (List.mem_singleton.mp z).symm
    rw [upd_ne nq]
    by_cases hs : s < i
    · rw [List.getElem?_append_left (by rw [h.cnt]; exact hs)] at e
      exact h.row s q e
    · have : s = i := by
        have := (List.getElem?_eq_some_iff.mp e).1
        rw [List.length_append, h.cnt, List.length_singleton] at this
        omega
      subst this
      rw [List.getElem?_append_right (by rw [h.cnt]; exact Nat.le_refl _), h.cnt, Nat.sub_self] at e
      cases e
      exact hr
theorem gridAt_nil {H : Hp} {g : Addr} {f : Nat → List Int} (h : H g = some (.lst [])) : GridAt H g [] 0 f :=
  ⟨h, rfl, List.nodup_nil, fun z => (List.not_mem_nil z).elim, fun s r e => by cases e⟩
/-! tuples that stay, parts of tuples -/
theorem sqT_same {K : PySem.W.Frag} {H H' : Hp} {a : Addr} {xs : List V} (s : Same H H') (h : SqT K H a xs) : SqT K H' a xs := by
  rcases h with (h | ⟨o, h⟩) | h
  · exact .inl (.inl (s _ _ h))
  · exact .inl (.inr ⟨o, s _ _ h⟩)
  · exact .inr h
theorem sqT_mut {K : PySem.W.Frag} {H : Hp} {a r : Addr} {xs l : List V} {o' : HO} (hr : H r = some (.lst l)) (h : SqT K H a xs) : SqT K (upd H r o') a xs := by
  rcases h with (h | ⟨o, h⟩) | h
  · refine .inl (.inl ?_)
    rw [upd_ne (ne_of h hr (fun z => by cases z))]
    exact h
  · refine .inl (.inr ⟨o, ?_⟩)
    rw [upd_ne (ne_of h hr (fun z => by cases z))]
    exact h
  · exact .inr h
theorem slA_ok {K : PySem.W.Frag} {H : Hp} {a : Addr} {xs : List V} {lo hi : Option Int} {Q : VK} (h : SqT K H a xs) (q : ∀ H' t, Same H H' → SqT K H' t (cutV xs lo hi) → Q (.ref t) H') : rSlA K (.ref a) lo hi H Q := by
  refine ⟨a, xs, rfl, h, fun w => ?_, fun _ p np => q _ p (same_new np) (.inl (.inl upd_same))⟩
  refine q H a (Same.refl H) ?_
  have : cutV xs lo hi = xs := by
    unfold cutV
    rw [w.1, w.2, List.drop_zero, Nat.sub_zero, List.take_length]
  rw [this]
  exact h
theorem catA_ok {K : PySem.W.Frag} {H : Hp} {a b : Addr} {xs ys : List V} {Q : VK} (h : SqT K H a xs) (h' : SqT K H b ys) (l : xs.length + ys.length ≤ sizeLine) (q : ∀ H' t, Same H H' → SqT K H' t (xs ++ ys) → Q (.ref t) H') : rCatA K (.ref a) (.ref b) H Q := by
  refine ⟨a, b, xs, ys, rfl, rfl, h, h', l, fun e => ?_, fun _ e => ?_, fun _ _ p np => q _ p (same_new np) (.inl (.inl upd_same))⟩
  · subst e
    exact q H b (Same.refl H) h'
  · subst e
    refine q H a (Same.refl H) ?_
    rw [List.append_nil]
    exact h
theorem cut_tail (x : V) (xs : List V) : cutV (x :: xs) (some 1) none = xs := by
  unfold cutV
  show (List.drop (min 1 (xs.length + 1)) (x :: xs)).take (xs.length + 1 - min 1 (xs.length + 1)) = xs
  rw [show min 1 (xs.length + 1) = 1 by omega]
  show xs.take (xs.length + 1 - 1) = xs
  rw [Nat.add_sub_cancel, List.take_length]
theorem cut_to (xs : List V) (m : Nat) : cutV xs none (some (m : Int)) = xs.take m := by
  unfold cutV
  rw [HT.sIx_none, HT.sIx_nat, List.drop_zero, Nat.sub_zero, ← List.take_take, List.take_length]
/-! the law's reckoning, step by step -/
theorem addP_take {g : Cells} {m : Int} {l : List (Int × Int)} {j : Nat} {q : Int × Int} (h : l[j]? = some q) : addP g m (l.take (j + 1)) = add1 (addP g m (l.take j)) m q.1 q.2 := by
  rw [List.take_add_one, h]
  unfold addP
  rw [List.foldl_append]
  rfl
theorem addF_take {n : Int} {fam : Fm} {i : Nat} {p : List Int × Int} (h : fam[i]? = some p) : addF n (fam.take (i + 1)) = addP (addF n (fam.take i)) p.2 (prs p.1 n) := by
  rw [List.take_add_one, h]
  unfold addF
  rw [List.foldl_append]
  rfl
theorem prs_len {p : List Int} {n : Int} (h : p ≠ []) : (prs p n).length = p.length := by
  unfold prs
  rw [List.length_zip, List.length_append, List.length_tail, List.length_singleton]
  have : p.length ≠ 0 := fun z => h (List.length_eq_zero_iff.mp z)
  omega
theorem prs_at {p : List Int} {n : Int} {j : Nat} {d d' : Int} (h : p[j]? = some d) (h' : (p.tail ++ [n])[j]? = some d') : (prs p n)[j]? = some (d, d') := by
  unfold prs
  rw [List.getElem?_zip_eq_some]
  exact ⟨h, h'⟩
theorem prs_bd {p : List Int} {n : Int} {j : Nat} {d d' : Int} (hp : Pat n p) (h : p[j]? = some d) (h' : (p.tail ++ [n])[j]? = some d') : 0 ≤ d ∧ d < n ∧ 0 ≤ d' ∧ d' ≤ n := by
  have a := hp.bd d (List.mem_of_getElem? h)
  refine ⟨a.1, a.2, ?_⟩
  rcases List.mem_append.mp (List.mem_of_getElem? h') with z | z
  · have := hp.bd d' (List.mem_of_mem_tail z)
    omega
  · rw [List.mem_singleton.mp z]
    omega
theorem add1_zero (g : Cells) (m d : Int) : add1 g m d (d + ((0 : Nat) : Int)) = g := by
  funext s k
  unfold add1
  rw [if_neg]
  omega
theorem add1_step (g : Cells) (m : Int) (d e s k : Nat) : add1 g m (d : Int) ((d : Int) + ((e + 1 : Nat) : Int)) s k =
    if s = d + e ∧ k = e then add1 g m (d : Int) ((d : Int) + (e : Int)) s k + m else add1 g m (d : Int) ((d : Int) + (e : Int)) s k := by
  unfold add1
  by_cases c : s = d + e ∧ k = e
  · obtain ⟨rfl, rfl⟩ := c
    rw [if_pos (by omega), if_pos ⟨rfl, rfl⟩, if_neg (by omega)]
  · rw [if_neg c]
    by_cases a : (d : Int) ≤ (s : Int) ∧ (s : Int) < (d : Int) + (e : Int) ∧ (s : Int) - (k : Int) = d
    · rw [if_pos a, if_pos (by omega)]
    · rw [if_neg a, if_neg (by omega)]
theorem add1_end (g : Cells) (m d d' : Int) : add1 g m d (d + ((d' - d).toNat : Int)) = add1 g m d d' := by
  funext s k
  unfold add1
  by_cases a : d ≤ (s : Int) ∧ (s : Int) < d' ∧ (s : Int) - (k : Int) = d
  · rw [if_pos a, if_pos (by omega)]
  · rw [if_neg a, if_neg (by omega)]
theorem cr_take (c : Cells) (m s w : Nat) : (cr c m s).take w = cr c (min m w) s := by
  unfold cr
  rw [← List.map_take, List.take_range, Nat.min_comm]
theorem shRow_cr {n : Nat} {fam : Fm} (h : ∀ p ∈ fam, Pat n p.1) {s : Nat} (hs : s < n) (m : Nat) : (cr (fun s k => pre (addF n fam) s k) (s + 1) s).take m = shRow fam s m := by
  rw [cr_take]
  unfold shRow cr
  refine List.map_congr_left fun k _ => ?_
  exact law_cells h (by omega)
end Fa

namespace Fa
open PySem PySem.Spec PyProof.Rows L2
theorem cut_last (xs : List V) (x : V) : cutV (xs ++ [x]) none (some (-1)) = xs := by
  unfold cutV
  rw [HT.sIx_none]
  show ((xs ++ [x]).drop 0).take ((-1 + ((xs ++ [x]).length : Int)).toNat - 0) = xs
  rw [List.drop_zero, List.length_append, List.length_singleton, show (-1 + ((xs.length + 1 : Nat) : Int)).toNat - 0 = xs.length by omega, List.take_left]
/-- all that was tracked stands, but at these -/
def Off (l : List Addr) (H H' : Hp) : Prop := ∀ b o, b ∉ l → H b = some o → H' b = some o
theorem Off.refl (l : List Addr) (H : Hp) : Off l H H := fun _ _ _ h => h
theorem Off.trans {l : List Addr} {H H1 H2 : Hp} (a : Off l H H1) (b : Off l H1 H2) : Off l H H2 := fun c o n h => b c o n (a c o n h)
theorem off_same {l : List Addr} {H H' : Hp} (s : Same H H') : Off l H H' := fun c o _ h => s c o h
theorem Off.mut {l : List Addr} {H H1 : Hp} {p : Addr} {o : HO} (a : Off l H H1) (h : p ∈ l) : Off l H (upd H1 p o) := fun c u n e => by
  rw [upd_ne (fun z => n (by rw [z]; exact h))]
  exact a c u n e
theorem GridAt.offs {H H' : Hp} {g : Addr} {rows l : List Addr} {n : Nat} {f : Nat → List Int} (h : GridAt H g rows n f) (a : Off l H H') (ng : g ∉ l) (nr : ∀ r ∈ rows, r ∉ l) : GridAt H' g rows n f :=
  h.but fun b o hb e => a b o (hb.elim (fun z => by rw [z]; exact ng) (nr b)) e
theorem sqL_same {K : PySem.W.Frag} {H H' : Hp} {a : Addr} {xs : List V} (s : Same H H') (h : SqL K H a xs) : SqL K H' a xs := s.seq h
theorem rg0 (n : Nat) : rgV 0 (n : Int) = ((List.range n).map fun i : Nat => (i : Int)).map V.int := by
  unfold rgV
  rw [List.map_map, show ((n : Int) - 0).toNat = n by omega]
  refine List.map_congr_left fun i _ => ?_
  show V.int (0 + (i : Int)) = V.int (i : Int)
  rw [Int.zero_add]
theorem GridAt.noRow {H : Hp} {g p : Addr} {rs : List Addr} {n : Nat} {f : Nat → List Int} (G : GridAt H g rs n f) (np : H p = none) : p ≠ g ∧ p ∉ rs := by
  refine ⟨fun z => ?_, fun z => ?_⟩
  · rw [z, G.top] at np
    cases np
  · obtain ⟨j, hj, e⟩ := List.mem_iff_getElem.mp z
    have := G.row j p (by rw [List.getElem?_eq_getElem hj, e])
    rw [np] at this
    cases this
/-- a comprehension's turn: a new row at p, then its place in the new list at g -/
theorem grow_step {H0 H : Hp} {g p : Addr} {rs : List Addr} {i : Nat} {f : Nat → List Int} {l : List V} (s : Same H0 H) (ng : H0 g = none) (G : GridAt H g rs i f) (np : H p = none) (hl : l = (f i).map V.int) (hi : i ≤ 900) :
    upd H p (.lst l) g = some (.lst (rs.map V.ref)) ∧ (rs.map V.ref).length < sizeLine ∧ Same H0 (upd (upd H p (.lst l)) g (.lst (rs.map V.ref ++ [.ref p]))) ∧
      GridAt (upd (upd H p (.lst l)) g (.lst (rs.map V.ref ++ [.ref p]))) g (rs ++ [p]) (i + 1) f := by
  obtain ⟨npg, npr⟩ := G.noRow np
  have G7 := G.off (o := .lst l) npg npr
  refine ⟨G7.top, ?_, fun b o z => ?_, G7.grow (by rw [upd_same, hl]) npg npr⟩
  · rw [List.length_map, G.cnt]
    exact small1000 (by omega)
  · rw [upd_ne (ne_of_none z ng)]
    exact same_new np _ _ (s _ _ z)
/-- a place of a grid is written -/
theorem GridAt.write {H : Hp} {g : Addr} {rows : List Addr} {n : Nat} {f : Nat → List Int} {s k : Nat} {r : Addr} {v : Int} (h : GridAt H g rows n f) (hs : rows[s]? = some r) :
    GridAt (upd H r (.lst (((f s).map V.int).set k (.int v)))) g rows n fun t => if t = s then (f s).set k v else f t := by
  rw [set_mapV]
  exact h.put hs
end Fa

/-! type(x) == T, type(x) != T -/
namespace Fa
open PySem PySem.Spec PyProof.Rows L2
theorem slot_type_ne : Slot "type" (cmpInfo .NotEq).2.1 "object.__ne__" :=
  .of (owner := "object") (n := "__ne__") (by rw [typeLookup_type, builtinLookup_eq_fast]; kernel_rfl) (by decide +kernel) (by decide +kernel)
    (by decide +kernel) (by first | exact .inl (by decide +kernel) | exact .inr (by decide +kernel)) (by rw [isSubtype_type]; kernel_rfl)
section
variable {prog : Program} {w : World} {A : Around} {E : Value → Shared → Prop} {s : Shared} {Q : Value → Shared → Prop}
theorem ne_type_same {Y : String} (hY : ∀ s' : Shared, s'.TypeIs (.type Y) "type") (h : Q (.bool false) s) : wpAny (model prog w) A (compareOp .NotEq (.type Y) (.type Y)) Q E s := by
  show wpAny _ A (richCompare .NotEq _ _) Q E s
  refine wpAny_richCompare_same (T := "type") (hY s) (hY s) slot_type_ne ?_
  refine wpAny_call (codeAny_call_builtin slot_type_ne.plain F.cmpEntry_ne (slot_type_ne.check _ _ _ _ _ _ _ _ (hY s) (F.cmpArgs_ne _ _) ?_))
  have sl : Slot "type" "__eq__" "object.__eq__" := TypeEq.slot_type_eq
  unfold Builtin.«object.__ne__»
  repeat (first | with_reducible refine wpAny_cRoomFor_or (.inl rfl) ?_ | with_reducible refine wpAny_callSpecialIfBound?_slot (hY _) sl (call_gives sl (hY _) F.entry_object_eq (F.args_object_eq_2 _ _) (TypeEq.object_eq_same rfl (by simp)) ?_) | wp_step)
  simp only [Made.post]
  repeat wp_step
  exact ⟨nofun, h⟩
end
def Own3 (T : String) : Prop := T = "int" ∨ T = "list" ∨ T = "tuple"
theorem Own3.meta' {T : String} (h : Own3 T) (s' : Shared) : s'.TypeIs (.type T) "type" := by
  rcases h with rfl | rfl | rfl
  · exact TypeEq.meta_int s'
  · exact TypeEq.meta_list s'
  · exact TypeEq.meta_tuple s'
def rTsE : R2 := fun x y H Q => ∃ T, x = .ty T ∧ y = .ty T ∧ Own3 T ∧ Q (.bl true) H
def rTsN : R2 := fun x y H Q => ∃ T, x = .ty T ∧ y = .ty T ∧ Own3 T ∧ Q (.bl false) H
section
variable {X : Cx}
theorem op_eqTs : OpR X (compareOp .Eq) rTsE := by
  intro pins s σ H x y v u Q I rx ry h
  obtain ⟨T, rfl, rfl, m, q⟩ := h
  cases (show v = Value.type T from rx)
  cases (show u = Value.type T from ry)
  exact TypeEq.eq_type_same m.meta' (fin_bl I q rfl)
theorem op_neTs : OpR X (compareOp .NotEq) rTsN := by
  intro pins s σ H x y v u Q I rx ry h
  obtain ⟨T, rfl, rfl, m, q⟩ := h
  cases (show v = Value.type T from rx)
  cases (show u = Value.type T from ry)
  exact ne_type_same m.meta' (fin_bl I q rfl)
theorem tyQ (K : PySem.W.Frag) (h : X.K = K := by rfl) : CallR X (.type "type") (rTyp K) := h ▸ call_type1
theorem ltTQ (K : PySem.W.Frag) (hu : X.A.units < cLine) (h : X.K = K := by rfl) : OpR X (compareOp .Lt) (rLtT K) := h ▸ op_ltT hu
end
/-- the shape of a sheet of n days and of width w -/
structure Shf (n w : Nat) (f : Nat → List Int) : Prop where
  n1 : 1 ≤ n
  n30 : n ≤ 30
  w1 : 1 ≤ w
  wn : w ≤ n
  len : ∀ s, s < n → (f s).length = min (s + 1) w
  nn : ∀ s, s < n → ∀ x ∈ f s, 0 ≤ x
def ShAt (H : Hp) (g : Addr) (n w : Nat) (f : Nat → List Int) : Prop := (∃ rows, GridAt H g rows n f) ∧ Shf n w f
theorem ShAt.same {H H' : Hp} {g : Addr} {n w : Nat} {f : Nat → List Int} (h : ShAt H g n w f) (s : Same H H') : ShAt H' g n w f := by
  obtain ⟨⟨rows, G⟩, z⟩ := h
  exact ⟨⟨rows, G.same s⟩, z⟩
theorem Shf.last {n w : Nat} {f : Nat → List Int} (h : Shf n w f) : (f (n - 1)).length = w := by
  have a := h.n1
  have b := h.wn
  have := h.len (n - 1) (by omega)
  omega
theorem GridAt.last {H : Hp} {g : Addr} {rows : List Addr} {n : Nat} {f : Nat → List Int} (G : GridAt H g rows n f) (h : 1 ≤ n) : ∃ r, atI (rows.map V.ref) (-1) = some (.ref r) ∧ rows[n - 1]? = some r ∧ H r = some (.lst ((f (n - 1)).map V.int)) := by
  obtain ⟨r, er, _, hr⟩ := G.get (s := n - 1) (by omega)
  refine ⟨r, atI_neg1 ?_ ?_, er, hr⟩
  · rw [List.length_map, G.cnt, List.getElem?_map, er]
    rfl
  · intro z
    have := congrArg List.length z
    rw [List.length_map, G.cnt] at this
    simp only [List.length_nil] at this
    omega
theorem pgTQ (K : PySem.W.Frag) {X : Cx} {es : List Expr} {kx : Nat} {pos : Pos} {t : TGs} {n : Nat} (hc : X.calm = true) (h : PGs X es t) (hK : X.K = K := by rfl)
    (hn : (assignEach es X.env).length = n := by rfl) (hst : (assignEach es X.env).findIdx? (·.1) = none := by rfl) : PG X (.Tuple es kx pos) (gTup K n t) := hK ▸ pg_tup hc h hn hst
theorem iteNe {x y : V} {A B : Prop} (h : x = y) (b : B) : if (!decide (x = y)) = true then A else B := by
  rw [decide_eq_true h]
  exact iteF b
theorem iteEq {x y : V} {A B : Prop} (h : x = y) (a : A) : if decide (x = y) = true then A else B := by
  rw [decide_eq_true h]
  exact iteT a
theorem iteDF {c A B : Prop} [Decidable c] (hc : ¬ c) (h : B) : if decide c = true then A else B := by
  rw [decide_eq_false hc]
  exact iteF h
/-- j times True -/
def yesV (j : Nat) : List V := (List.replicate j true).map V.bl
theorem yes_snoc {j : Nat} {b : Bool} (h : b = true) : yesV j ++ [V.bl b] = yesV (j + 1) := by
  subst h
  unfold yesV
  rw [List.replicate_succ', List.map_append]
  rfl
theorem yes_len (j : Nat) : (yesV j).length = j := by
  unfold yesV
  rw [List.length_map, List.length_replicate]
theorem yes_all (j : Nat) : (List.replicate j true).all id = true := by
  rw [List.all_eq_true]
  intro b hb
  rw [(List.mem_replicate.mp hb).2]
  rfl
end Fa

namespace Fa
open PySem PySem.Spec PyProof.Rows L2
/-- xs[i] op= e of a list: the read -/
def rGetL (K : PySem.W.Frag) : V → V → Hp → VK → Prop := fun o i H Q => ∃ (p : Addr) (xs : List V) (k : Int) (v : V), o = .ref p ∧ i = .int k ∧ SqL K H p xs ∧ 0 ≤ k ∧ atI xs k = some v ∧ Q v H
theorem getL (K : PySem.W.Frag) {X : Cx} (hK : X.K = K := by rfl) : PGet X (rGetL K) := by
  subst hK
  intro pins s σ H o i ov iv Q I ro ri h
  obtain ⟨p, xs, k, v, rfl, rfl, sq, k0, e, q⟩ := h
  cases ro
  obtain ⟨t, rfl⟩ := ri
  obtain ⟨its, rel, pl, small⟩ := I.list sq
  obtain ⟨j, h1, h2, h3, h4, h5⟩ := atI_get e
  obtain ⟨x, ex, rx⟩ := rel.get h2
  have hl := rel.length
  have big := line63
  have kj : k.toNat = j := by
    rw [seqIndex_of k0 h5] at h1
    exact Option.some.inj h1
  exact wpAny_getItem_list (Q := fun r s' => EP X pins σ Q r s') pl.isList k0 (by omega) (by rw [kj]; simpa using ex) ⟨v, H, I, rx, q⟩
theorem isN_int {i : Int} {A B : Prop} (h : A) : if (!decide (V.int i = V.non)) = true then A else B := by
  rw [decide_eq_false (fun z => nomatch z)]
  exact iteT h
theorem isN_non {A B : Prop} (h : B) : if (!decide (V.non = V.non)) = true then A else B := by
  rw [decide_eq_true rfl]
  exact iteF h
theorem inV_ints (l : List Int) (d : Int) : inV (.int d) (l.map V.int) = decide (d ∈ l) := by
  unfold inV
  rw [List.any_map]
  by_cases h : d ∈ l
  · rw [decide_eq_true h, List.any_eq_true]
    exact ⟨d, h, by show eqV (.int d) (.int d) = true; simp [eqV]⟩
  · rw [decide_eq_false h, List.any_eq_false]
    intro x hx z
    refine h ?_
    have : eqV (.int x) (.int d) = true := z
    simp [eqV] at this
    rw [← this]
    exact hx
theorem flat_ints (l : List Int) : (l.map V.int).all flatV = true := by
  rw [List.all_map, List.all_eq_true]
  intro x _
  rfl
/-- the last day of a pattern below i -/
def Last (ds : List Int) (i : Nat) : Option Int → Prop
  | none => ∀ d ∈ ds, (i : Int) ≤ d
  | some l => l ∈ ds ∧ l < i ∧ 0 ≤ l ∧ ∀ d ∈ ds, d < i → d ≤ l
def laV : Option Int → V
  | none => .non
  | some d => .int d
theorem last_zero {n : Int} {ds : List Int} (h : Pat n ds) : Last ds 0 none := fun d hd => (h.bd d hd).1
theorem last_in {ds : List Int} {i : Nat} (h : (i : Int) ∈ ds) : Last ds (i + 1) (some i) := ⟨h, by omega, by omega, fun d _ z => by omega⟩
theorem last_out {ds : List Int} {i : Nat} {la : Option Int} (h : (i : Int) ∉ ds) (l : Last ds i la) : Last ds (i + 1) la := by
  cases la with
  | none =>
    intro d hd
    have := l d hd
    have : d ≠ (i : Int) := fun z => h (by rw [← z]; exact hd)
    omega
  | some x =>
    obtain ⟨h1, h2, h3, h4⟩ := l
    refine ⟨h1, by omega, h3, fun d hd z => ?_⟩
    have : d ≠ (i : Int) := fun z => h (by rw [← z]; exact hd)
    exact h4 d hd (by omega)
theorem last_none {ds : List Int} {i : Nat} (l : Last ds (i + 1) none) (k : Nat) : lastAt ds i k = false := by
  unfold lastAt
  rw [Bool.and_eq_false_iff]
  left
  rw [List.any_eq_false]
  intro d hd z
  have := of_decide_eq_true z
  have := l d hd
  omega
theorem last_some {ds : List Int} {i : Nat} {x : Int} (l : Last ds (i + 1) (some x)) (k : Nat) : lastAt ds i k = decide (x = (i : Int) - (k : Int)) := by
  obtain ⟨h1, h2, h3, h4⟩ := l
  rw [Bool.eq_iff_iff]
  constructor
  · intro q
    obtain ⟨q1, q2⟩ := He.ba q
    obtain ⟨d, hd, e⟩ := List.any_eq_true.mp q1
    have e := of_decide_eq_true e
    have a := of_decide_eq_true (List.all_eq_true.mp q2 x h1) (by omega)
    have b := h4 d hd (by omega)
    exact decide_eq_true (by omega)
  · intro q
    have q := of_decide_eq_true q
    refine Bool.and_eq_true_iff.mpr ⟨List.any_eq_true.mpr ⟨x, h1, decide_eq_true q⟩, List.all_eq_true.mpr fun d hd => decide_eq_true fun z => ?_⟩
    have := h4 d hd (by omega)
    omega
/-- what a pattern adds to the cells -/
def addL (c : Cells) (ds : List Int) (m : Int) : Cells := fun s k => c s k + if lastAt ds s k then m else 0
def addLs (fam : Fm) : Cells := fam.foldl (fun c p => addL c p.1 p.2) fun _ _ => 0
theorem addLs_take {fam : Fm} {i : Nat} {p : List Int × Int} (h : fam[i]? = some p) : addLs (fam.take (i + 1)) = addL (addLs (fam.take i)) p.1 p.2 := by
  rw [List.take_add_one, h]
  unfold addLs
  rw [List.foldl_append]
  rfl
theorem addLs_gen (s k : Nat) : ∀ (fam : Fm) (c : Cells), fam.foldl (fun c p => addL c p.1 p.2) c s k = c s k + lst fam s k
  | [], c => by
    show c s k = c s k + 0
    omega
  | p :: fam, c => by
    show fam.foldl _ (addL c p.1 p.2) s k = _
    rw [addLs_gen s k fam]
    show c s k + (if lastAt p.1 s k then p.2 else 0) + lst fam s k = c s k + ((p :: fam).map fun p => if lastAt p.1 s k then p.2 else 0).sum
    rw [List.map_cons, List.sum_cons]
    unfold lst
    omega
theorem addLs_val (fam : Fm) (s k : Nat) : addLs fam s k = lst fam s k := by
  unfold addLs
  rw [addLs_gen]
  omega
theorem prog_cells {n : Nat} {fam : Fm} (h : ∀ p ∈ fam, Pat n p.1) (s k : Nat) : pre (addLs fam) s k = unl fam ((s : Int) - (k : Int)) s := by
  rw [← pre_lst s k fam fun p hp => (h p hp).asc]
  induction k with
  | zero => exact addLs_val fam s 0
  | succ k ih =>
    show pre (addLs fam) s k + addLs fam s (k + 1) = pre (lst fam) s k + lst fam s (k + 1)
    rw [ih, addLs_val]
end Fa

/-! how long what is shown is -/
namespace Fa
open PySem PySem.Spec PyProof.Rows L2
def Num (x : Int) : Prop := 0 ≤ x ∧ x < 2 ^ 100
theorem Num.log {x : Int} (h : Num x) : x.natAbs.log2 < 100 := by
  obtain ⟨h0, h1⟩ := h
  by_cases z : x.natAbs = 0
  · rw [z]
    decide
  · rw [Nat.log2_lt z]
    have e : ((2 ^ 100 : Nat) : Int) = (2 : Int) ^ 100 := by decide +kernel
    omega
/-- shown in few signs -/
structure Sho (wt : Nat) (d : PyData) : Prop where
  sh : PyData.showable d = true
  nd : PyData.hasDict d = false
  lf : PyData.leavesShort 101 d = true
  wt : PyData.weight d ≤ wt
theorem sho_int {x : Int} (h : Num x) : Sho 100 (.int x) := by
  have l := h.log
  refine ⟨decide_eq_true (by omega), rfl, decide_eq_true ?_, ?_⟩
  · show (Str.ofString (toString x)).length ≤ 101
    rw [PySem.ofString_length]
    exact int_text_length_le (by decide) l
  · show (if x == 0 then 0 else x.natAbs.log2 + 1) ≤ 100
    split <;> omega
theorem sho_all {wt : Nat} : ∀ {ds : List PyData}, (∀ d ∈ ds, Sho wt d) → PyData.showableAll ds = true ∧ PyData.hasDictAll ds = false ∧ PyData.leavesShortAll 101 ds = true ∧ PyData.weightAll ds ≤ (wt + 1) * ds.length
  | [], _ => ⟨rfl, rfl, rfl, Nat.zero_le _⟩
  | d :: ds, h => by
    obtain ⟨a, b, c, e⟩ := h d List.mem_cons_self
    obtain ⟨a', b', c', e'⟩ := sho_all fun x hx => h x (List.mem_cons_of_mem _ hx)
    refine ⟨?_, ?_, ?_, ?_⟩
    · show (PyData.showable d && PyData.showableAll ds) = true
      rw [a, a']
      rfl
    · show (PyData.hasDict d || PyData.hasDictAll ds) = false
      rw [b, b']
      rfl
    · show (PyData.leavesShort 101 d && PyData.leavesShortAll 101 ds) = true
      rw [c, c']
      rfl
    · show PyData.weight d + 1 + PyData.weightAll ds ≤ (wt + 1) * (ds.length + 1)
      rw [Nat.mul_add]
      omega
theorem sho_list {wt n : Nat} {ds : List PyData} (h : ∀ d ∈ ds, Sho wt d) (l : ds.length ≤ n) : Sho ((wt + 1) * n) (.list ds) := by
  obtain ⟨a, b, c, e⟩ := sho_all h
  exact ⟨a, b, c, Nat.le_trans e (Nat.mul_le_mul_left _ l)⟩
theorem sho_grid {n : Nat} {f : Nat → List Int} (hn : n ≤ 30) (h : ∀ s, s < n → (f s).length ≤ 30 ∧ ∀ x ∈ f s, Num x) : Sho (((100 + 1) * 30 + 1) * 30) (gridD n f) := by
  refine sho_list (fun d hd => ?_) (by rw [List.length_map, List.length_range]; exact hn)
  obtain ⟨s, hs, rfl⟩ := List.mem_map.mp hd
  obtain ⟨h1, h2⟩ := h s (List.mem_range.mp hs)
  refine sho_list (fun e he => ?_) (by rw [List.length_map]; exact h1)
  obtain ⟨x, hx, rfl⟩ := List.mem_map.mp he
  exact sho_int (h2 x hx)
theorem sho_len {wt : Nat} {d : PyData} (h : Sho wt d) (l : 103 * wt + 101 ≤ sizeLine) : d.shown.length ≤ sizeLine := by
  have a := PyData.shown_le 101 (by decide) d h.lf
  have b : 103 * d.weight ≤ 103 * wt := Nat.mul_le_mul_left _ h.wt
  omega
theorem repr_ok {K : PySem.W.Frag} {H : Hp} {a : Addr} {d : PyData} {wt n : Nat} {Q : VK} (hd : Dp K H (.ref a) d) (s : Shp n d) (hn : n ≤ 64) (h : Sho wt d) (l : 103 * wt + 101 ≤ sizeLine) (q : Q (.str d.shown) H) : rRepr K [.ref a] H Q :=
  ⟨a, d, rfl, hd, Nat.le_trans s.2 hn, h.sh, h.nd, sho_len h l, q⟩
theorem grid_line : 103 * (((100 + 1) * 30 + 1) * 30) + 101 ≤ sizeLine := by
  rw [sizeLine_eq]
  decide
theorem un66 {A : Around} {k : Nat} (hr : Room k A) : A.units + 66 < cLine := by
  have := hr.un
  omega
theorem b_repr : bootBuiltins "repr" = some (.builtin "repr") := by decide +kernel
/-! families as data -/
def famD (fam : Fm) : PyData := .list (fam.map fun p => .tuple [.tuple (p.1.map .int), .int p.2])
theorem famD_shp (fam : Fm) : Shp 3 (famD fam) := shp_list fun d hd => by
  obtain ⟨p, _, rfl⟩ := List.mem_map.mp hd
  refine shp_tuple fun e he => ?_
  rcases List.mem_cons.mp he with rfl | he
  · exact shp_tuple fun x hx => by
      obtain ⟨i, _, rfl⟩ := List.mem_map.mp hx
      exact shp_int _ _
  · rw [List.mem_singleton.mp he]
    exact shp_int _ _
theorem FamAt.dp {K : PySem.W.Frag} {H : Hp} {a : Addr} {fam : Fm} (h : FamAt H a fam) : Dp K H (.ref a) (famD fam) := by
  obtain ⟨xs, e, hP⟩ := h
  refine .lst (.inl (.inl e)) (dpAll_of (by rw [List.length_map]; exact hP.length) fun i v d h1 h2 => ?_)
  obtain ⟨p, ep, t, b, rfl, h3, h4⟩ := paired_at hP h1
  rw [List.getElem?_map, ep] at h2
  cases h2
  exact .tup (.inl (.inl h3)) (.cons (.tup (.inl (.inl h4)) (dp_ints _)) (.cons (.int _) .nil))
/-! arguments by name, in the opposite sequence -/
theorem vals_rev : ∀ {zs : List V} {ws : List Value}, Vals zs ws → Vals zs.reverse ws.reverse
  | _, _, .nil => .nil
  | _, _, .cons r t => by
    rw [List.reverse_cons, List.reverse_cons]
    exact (vals_rev t).append (.cons r .nil)
def gRev {α : Type} (_ zs : List α) : List α := zs.reverse
theorem kbRev {K : PySem.W.Frag} {x qual : Str} {st : Stmt} {f : Addr} {fd : FuncData} {ps ks : List Str} (F : Fun K x qual st f fd)
    (h : ∀ (kV doc pm : Value) (an : Option Addr) (cdv ct : Value) (us ws : List Value), us.length = 0 → ws.length = ks.length → bindArgs (PySem.W.fnOf x qual (defArgs st) (defBody st) (defScope st) .none kV doc pm an cdv ct) ⟨us, ks.zip ws⟩ = pure (ps.zip (gRev us ws))) :
    KBn K fd ps 0 ks (fun us ws => gRev us ws) (fun vs zs => gRev vs zs) := kbn_of F (fun u z => gRev u z) (fun _ r => vals_rev r) h
theorem GridAt.kp {H H' : Hp} {g p : Addr} {rows : List Addr} {n : Nat} {f : Nat → List Int} (h : GridAt H g rows n f) (k : Kp p H H') (ng : g ≠ p) (nr : p ∉ rows) : GridAt H' g rows n f :=
  h.but fun b o hb e => k b o (hb.elim (fun z => by rw [z]; exact ng) (fun z y => nr (by rw [← y]; exact z))) e
theorem FamAt.kp {H H' : Hp} {a p : Addr} {fam : Fm} {l : List V} (h : FamAt H a fam) (k : Kp p H H') (ne : a ≠ p) (hp : H p = some (.lst l)) : FamAt H' a fam :=
  h.keep (fun _ e => k _ _ ne e) fun _ _ e => k _ _ (ne_of e hp (fun z => by cases z)) e
theorem sho_flat {n : Nat} {l : List Int} (h : ∀ x ∈ l, Num x) (hn : l.length ≤ n) : Sho ((100 + 1) * n) (.list (l.map .int)) := sho_list (fun d hd => by
  obtain ⟨x, hx, rfl⟩ := List.mem_map.mp hd
  exact sho_int (h x hx)) (by rw [List.length_map]; exact hn)
theorem num_small {x : Int} (h0 : 0 ≤ x) (h : x ≤ 1000000) : Num x := by
  have e : (1000000 : Int) < 2 ^ 100 := by decide +kernel
  exact ⟨h0, by omega⟩
theorem lst_dp {K : PySem.W.Frag} {H : Hp} {a : Addr} {l : List Int} (h : H a = some (.lst (l.map V.int))) : Dp K H (.ref a) (.list (l.map .int)) := .lst (.inl (.inl h)) (dp_ints l)
theorem flat_line : 103 * ((100 + 1) * 10) + 101 ≤ sizeLine := by
  rw [sizeLine_eq]
  decide
theorem off_new {l : List Addr} {H H1 H2 : Hp} (s : Same H H1) (o : Off l H1 H2) (n : ∀ r ∈ l, H r = none) : Same H H2 := fun b u e => o b u (fun z => by rw [n b z] at e; cases e) (s b u e)
theorem shRow_at {fam : Fm} {d w k : Nat} (h : k < min (d + 1) w) : (shRow fam d w)[k]? = some (unl fam ((d : Int) - (k : Int)) d) := by
  unfold shRow
  rw [List.getElem?_map, List.getElem?_range h]
  rfl
theorem shRow_len (fam : Fm) (d w : Nat) : (shRow fam d w).length = min (d + 1) w := by
  unfold shRow
  rw [List.length_map, List.length_range]
theorem shRow_take {fam : Fm} {d w m : Nat} (h : m ≤ w) : (shRow fam d w).take m = shRow fam d m := by
  unfold shRow
  rw [← List.map_take, List.take_range]
  congr 2
  omega
theorem shRow_num {fam : Fm} (h : ∀ b e, Num (unl fam b e)) {d w : Nat} {x : Int} (hx : x ∈ shRow fam d w) : Num x := by
  obtain ⟨k, _, rfl⟩ := List.mem_map.mp hx
  exact h _ _
theorem shRow_shf {fam : Fm} (h : ∀ b e, Num (unl fam b e)) {n w : Nat} (n1 : 1 ≤ n) (n30 : n ≤ 30) (w1 : 1 ≤ w) (wn : w ≤ n) : Shf n w fun s => shRow fam s w :=
  ⟨n1, n30, w1, wn, fun s _ => shRow_len fam s w, fun _ _ x hx => (shRow_num h hx).1⟩
theorem sho_sh {fam : Fm} (h : ∀ b e, Num (unl fam b e)) {n : Nat} (n30 : n ≤ 30) (w : Nat) : Sho (((100 + 1) * 30 + 1) * 30) (gridD n fun s => shRow fam s w) :=
  sho_grid n30 fun s hs => ⟨by rw [shRow_len]; omega, fun x hx => shRow_num h hx⟩
theorem grid_dep (n : Nat) (f : Nat → List Int) : PyData.depth (gridD n f) ≤ 64 := Nat.le_trans (gridD_shp 0 n f).2 (by decide)
end Fa

/-! numbers of a family's sheet: gaps, away and fresh ones are from 0 on; joining greedily and the least bound -/
namespace Fa
open PySem PySem.Spec PyProof.Rows L2
theorem hits_mono {p : List Int} {b e b' e' : Int} (h1 : b' ≤ b) (h2 : e ≤ e') (h : hits p b e = true) : hits p b' e' = true := by
  obtain ⟨d, hd, z⟩ := List.any_eq_true.mp h
  obtain ⟨z1, z2⟩ := He.ba z
  have z1 := of_decide_eq_true z1
  have z2 := of_decide_eq_true z2
  exact List.any_eq_true.mpr ⟨d, hd, Bool.and_eq_true_iff.mpr ⟨decide_eq_true (by omega), decide_eq_true (by omega)⟩⟩
theorem hits_none {p : List Int} {b e : Int} (h : e < b) : hits p b e = false := by
  unfold hits
  rw [List.any_eq_false]
  intro d _ z
  obtain ⟨z1, z2⟩ := He.ba z
  have z1 := of_decide_eq_true z1
  have z2 := of_decide_eq_true z2
  omega
theorem hits_two {p : List Int} {a b : Int} (ab : a < b) (h : hits p a b = true) : hits p a (b - 1) = true ∨ hits p (a + 1) b = true := by
  obtain ⟨d, hd, z⟩ := List.any_eq_true.mp h
  obtain ⟨z1, z2⟩ := He.ba z
  have z1 := of_decide_eq_true z1
  have z2 := of_decide_eq_true z2
  by_cases e : d = b
  · exact .inr (List.any_eq_true.mpr ⟨d, hd, Bool.and_eq_true_iff.mpr ⟨decide_eq_true (by omega), decide_eq_true (by omega)⟩⟩)
  · exact .inl (List.any_eq_true.mpr ⟨d, hd, Bool.and_eq_true_iff.mpr ⟨decide_eq_true (by omega), decide_eq_true (by omega)⟩⟩)
theorem unl_none (fam : Fm) {b e : Int} (h : e < b) : unl fam b e = 0 := by
  induction fam with
  | nil => rfl
  | cons p fam ih => rw [unl_cons, hits_none h, ih]; rfl
theorem unl_mono {fam : Fm} (h : ∀ p ∈ fam, 0 ≤ p.2) {b e b' e' : Int} (h1 : b' ≤ b) (h2 : e ≤ e') : unl fam b e ≤ unl fam b' e' := by
  induction fam with
  | nil => exact Int.le_refl _
  | cons p fam ih =>
    rw [unl_cons, unl_cons]
    have i := ih fun q hq => h q (List.mem_cons_of_mem _ hq)
    have p0 := h p List.mem_cons_self
    cases c : hits p.1 b e with
    | true =>
      rw [hits_mono h1 h2 c]
      simp only [if_true]
      omega
    | false =>
      simp only [Bool.false_eq_true, if_false]
      split <;> omega
theorem unl_gap {fam : Fm} (h : ∀ p ∈ fam, 0 ≤ p.2) {a b : Int} (ab : a < b) : 0 ≤ unl fam a (b - 1) + unl fam (a + 1) b - unl fam (a + 1) (b - 1) - unl fam a b := by
  induction fam with
  | nil => exact Int.le_refl _
  | cons p fam ih =>
    rw [unl_cons, unl_cons, unl_cons, unl_cons]
    have i := ih fun q hq => h q (List.mem_cons_of_mem _ hq)
    have p0 := h p List.mem_cons_self
    cases c3 : hits p.1 (a + 1) (b - 1) with
    | true =>
      rw [hits_mono (b' := a) (e' := b - 1) (by omega) (by omega) c3, hits_mono (b' := a + 1) (e' := b) (by omega) (by omega) c3, hits_mono (b' := a) (e' := b) (by omega) (by omega) c3]
      simp only [if_true]
      omega
    | false =>
      cases c4 : hits p.1 a b with
      | true =>
        rcases hits_two ab c4 with z | z
        · rw [z]
          simp only [if_true, Bool.false_eq_true, if_false]
          split <;> omega
        · rw [z]
          simp only [if_true, Bool.false_eq_true, if_false]
          split <;> omega
      | false =>
        simp only [Bool.false_eq_true, if_false]
        split <;> split <;> omega
/-! sums of the first n -/
def sa (g : Nat → Int) : Nat → Int
  | 0 => 0
  | n + 1 => sa g n + g n
theorem sa_sum (g : Nat → Int) : ∀ n, ((List.range n).map g).sum = sa g n
  | 0 => rfl
  | n + 1 => by
    rw [List.range_succ, List.map_append, List.sum_append, sa_sum g n]
    show _ + ([g n].sum) = sa g n + g n
    simp
theorem sa_ext {g g' : Nat → Int} : ∀ {n : Nat}, (∀ i, i < n → g i = g' i) → sa g n = sa g' n
  | 0, _ => rfl
  | n + 1, h => by
    show sa g n + g n = sa g' n + g' n
    rw [sa_ext fun i hi => h i (by omega), h n (by omega)]
theorem sa_shift (g : Nat → Int) (m : Nat) : ∀ n, sa (fun i => g (m + i)) n = sa g (m + n) - sa g m
  | 0 => by
    show (0 : Int) = sa g m - sa g m
    omega
  | n + 1 => by
    show sa (fun i => g (m + i)) n + g (m + n) = sa g (m + n) + g (m + n) - sa g m
    rw [sa_shift g m n]
    omega
theorem sa_nonneg {g : Nat → Int} : ∀ {n : Nat}, (∀ i, i < n → 0 ≤ g i) → 0 ≤ sa g n
  | 0, _ => Int.le_refl _
  | n + 1, h => by
    have := sa_nonneg (n := n) fun i hi => h i (by omega)
    have := h n (by omega)
    show 0 ≤ sa g n + g n
    omega
theorem sa_le {g : Nat → Int} {c : Int} : ∀ {n : Nat}, (∀ i, i < n → g i ≤ c) → sa g n ≤ c * (n : Int)
  | 0, _ => by
    show (0 : Int) ≤ c * 0
    rw [Int.mul_zero]
    exact Int.le_refl _
  | n + 1, h => by
    have a := sa_le (n := n) fun i hi => h i (by omega)
    have b := h n (by omega)
    show sa g n + g n ≤ c * ((n + 1 : Nat) : Int)
    rw [Int.natCast_add, Int.mul_add]
    show _ ≤ c * (n : Int) + c * 1
    rw [Int.mul_one]
    omega
/-! who can come again -/
/-- the bound of t: those who are away ahead of it, those who are fresh behind -/
def bd (a f : Nat → Int) (m t : Nat) : Int := sa a t + (sa f m - sa f t)
/-- joined day by day: who is left, how many are found -/
def grd (a f : Nat → Int) : Nat → Int × Int
  | 0 => (0, 0)
  | i + 1 => ((grd a f i).1 + a i - (if f i < (grd a f i).1 + a i then f i else (grd a f i).1 + a i), (grd a f i).2 + (if f i < (grd a f i).1 + a i then f i else (grd a f i).1 + a i))
theorem grd_sum (a f : Nat → Int) : ∀ m, (grd a f m).1 + (grd a f m).2 = sa a m
  | 0 => rfl
  | m + 1 => by
    have := grd_sum a f m
    show (grd a f m).1 + a m - _ + ((grd a f m).2 + _) = sa a m + a m
    omega
theorem grd_least (a f : Nat → Int) : ∀ m, (∃ t, t ≤ m ∧ bd a f m t = (grd a f m).2) ∧ ∀ t, t ≤ m → (grd a f m).2 ≤ bd a f m t
  | 0 => ⟨⟨0, Nat.le_refl _, rfl⟩, fun t ht => by
    have : t = 0 := by omega
    subst this
    exact Int.le_refl _⟩
  | m + 1 => by
    obtain ⟨⟨t0, h0, e0⟩, h1⟩ := grd_least a f m
    have s := grd_sum a f m
    have up : ∀ t, t ≤ m → bd a f (m + 1) t = bd a f m t + f m := fun t _ => by
      show sa a t + (sa f m + f m - sa f t) = sa a t + (sa f m - sa f t) + f m
      omega
    have top : bd a f (m + 1) (m + 1) = sa a m + a m := by
      show sa a m + a m + (sa f m + f m - (sa f m + f m)) = _
      omega
    show (∃ t, t ≤ m + 1 ∧ bd a f (m + 1) t = (grd a f m).2 + (if f m < (grd a f m).1 + a m then f m else (grd a f m).1 + a m)) ∧ ∀ t, t ≤ m + 1 → (grd a f m).2 + (if f m < (grd a f m).1 + a m then f m else (grd a f m).1 + a m) ≤ bd a f (m + 1) t
    refine ⟨?_, fun t ht => ?_⟩
    · by_cases c : f m < (grd a f m).1 + a m
      · rw [if_pos c]
        exact ⟨t0, by omega, by rw [up t0 h0, e0]⟩
      · rw [if_neg c]
        exact ⟨m + 1, Nat.le_refl _, by rw [top]; omega⟩
    · have z : t ≤ m ∨ t = m + 1 := by omega
      rcases z with z | rfl
      · rw [up t z]
        have := h1 t z
        split <;> omega
      · rw [top]
        split <;> omega
end Fa

/-! lists of tuples of three numbers -/
namespace Fa
open PySem PySem.Spec PyProof.Rows L2
abbrev Tri : Type := Int × Int × Int
def TriAt (H : Hp) (x : V) (p : Tri) : Prop := ∃ t, x = .ref t ∧ H t = some (.tup [.int p.1, .int p.2.1, .int p.2.2])
def TrisAt (H : Hp) (l : Addr) (L : List Tri) : Prop := ∃ xs : List V, H l = some (.lst xs) ∧ Paired (TriAt H) xs L
theorem TriAt.keep {H H' : Hp} {x : V} {p : Tri} (h : TriAt H x p) (k : ∀ b us, H b = some (.tup us) → H' b = some (.tup us)) : TriAt H' x p := by
  obtain ⟨t, e, h1⟩ := h
  exact ⟨t, e, k _ _ h1⟩
theorem TrisAt.same {H H' : Hp} {l : Addr} {L : List Tri} (h : TrisAt H l L) (s : Same H H') : TrisAt H' l L := by
  obtain ⟨xs, e, p⟩ := h
  exact ⟨xs, s _ _ e, Paired.mapP p fun _ _ q => q.keep fun _ _ z => s _ _ z⟩
/-- a new tuple, then its place at the end of the list -/
theorem TrisAt.push {H : Hp} {l T : Addr} {xs : List V} {L : List Tri} {p : Tri} (el : H l = some (.lst xs)) (h : Paired (TriAt H) xs L) (nT : H T = none) :
    TrisAt (upd (upd H T (.tup [.int p.1, .int p.2.1, .int p.2.2])) l (.lst (xs ++ [.ref T]))) l (L ++ [p]) := by
  have lT : l ≠ T := ne_of_none el nT
  refine ⟨_, upd_same, paired_snoc (Paired.mapP h fun _ _ q => q.keep fun b us z => ?_) ⟨T, rfl, by rw [upd_ne lT.symm, upd_same]⟩⟩
  rw [upd_ne (ne_of z el (fun y => by cases y)), upd_ne (ne_of_none z nT)]
  exact z
def trisD (L : List Tri) : PyData := .list (L.map fun p => .tuple [.int p.1, .int p.2.1, .int p.2.2])
theorem trisD_shp (L : List Tri) : Shp 2 (trisD L) := shp_list fun d hd => by
  obtain ⟨p, _, rfl⟩ := List.mem_map.mp hd
  refine shp_tuple fun e he => ?_
  simp only [List.mem_cons, List.not_mem_nil, or_false] at he
  rcases he with rfl | rfl | rfl <;> exact shp_int _ _
theorem TrisAt.dp {K : PySem.W.Frag} {H : Hp} {l : Addr} {L : List Tri} (h : TrisAt H l L) : Dp K H (.ref l) (trisD L) := by
  obtain ⟨xs, e, hP⟩ := h
  refine .lst (.inl (.inl e)) (dpAll_of (by rw [List.length_map]; exact hP.length) fun i v d h1 h2 => ?_)
  obtain ⟨p, ep, t, rfl, h3⟩ := paired_at hP h1
  rw [List.getElem?_map, ep] at h2
  cases h2
  exact .tup (.inl (.inl h3)) (.cons (.int _) (.cons (.int _) (.cons (.int _) .nil)))
/-- below 2^100 in size, of either sign -/
def NumZ (x : Int) : Prop := x.natAbs < 2 ^ 100
theorem sho_intZ {x : Int} (h : NumZ x) : Sho 100 (.int x) := by
  have l : x.natAbs.log2 < 100 := by
    by_cases z : x.natAbs = 0
    · rw [z]
      decide
    · rw [Nat.log2_lt z]
      exact h
  refine ⟨decide_eq_true (by omega), rfl, decide_eq_true ?_, ?_⟩
  · show (Str.ofString (toString x)).length ≤ 101
    rw [PySem.ofString_length]
    exact int_text_length_le (by decide) l
  · show (if x == 0 then 0 else x.natAbs.log2 + 1) ≤ 100
    split <;> omega
theorem sho_tuple {wt n : Nat} {ds : List PyData} (h : ∀ d ∈ ds, Sho wt d) (l : ds.length ≤ n) : Sho ((wt + 1) * n) (.tuple ds) := by
  obtain ⟨a, b, c, e⟩ := sho_all h
  exact ⟨a, b, c, Nat.le_trans e (Nat.mul_le_mul_left _ l)⟩
theorem sho_tris {L : List Tri} (h : ∀ p ∈ L, NumZ p.1 ∧ NumZ p.2.1 ∧ NumZ p.2.2) (l : L.length ≤ 435) : Sho (((100 + 1) * 3 + 1) * 435) (trisD L) := by
  refine sho_list (fun d hd => ?_) (by rw [List.length_map]; exact l)
  obtain ⟨p, hp, rfl⟩ := List.mem_map.mp hd
  obtain ⟨h1, h2, h3⟩ := h p hp
  refine sho_tuple (fun e he => ?_) (by show 3 ≤ 3; decide)
  simp only [List.mem_cons, List.not_mem_nil, or_false] at he
  rcases he with rfl | rfl | rfl
  · exact sho_intZ h1
  · exact sho_intZ h2
  · exact sho_intZ h3
theorem tris_line : 103 * (((100 + 1) * 3 + 1) * 435) + 101 ≤ sizeLine := by
  rw [sizeLine_eq]
  decide
/-! lists of tuples of a word and two numbers -/
abbrev Bar : Type := Str × Int × Int
def BarAt (H : Hp) (x : V) (p : Bar) : Prop := ∃ t, x = .ref t ∧ H t = some (.tup [.str p.1, .int p.2.1, .int p.2.2])
def BarsAt (H : Hp) (l : Addr) (L : List Bar) : Prop := ∃ xs : List V, H l = some (.lst xs) ∧ Paired (BarAt H) xs L
theorem BarAt.keep {H H' : Hp} {x : V} {p : Bar} (h : BarAt H x p) (k : ∀ b us, H b = some (.tup us) → H' b = some (.tup us)) : BarAt H' x p := by
  obtain ⟨t, e, h1⟩ := h
  exact ⟨t, e, k _ _ h1⟩
theorem BarsAt.same {H H' : Hp} {l : Addr} {L : List Bar} (h : BarsAt H l L) (s : Same H H') : BarsAt H' l L := by
  obtain ⟨xs, e, p⟩ := h
  exact ⟨xs, s _ _ e, Paired.mapP p fun _ _ q => q.keep fun _ _ z => s _ _ z⟩
theorem BarsAt.push {H : Hp} {l T : Addr} {xs : List V} {L : List Bar} {p : Bar} (el : H l = some (.lst xs)) (h : Paired (BarAt H) xs L) (nT : H T = none) :
    BarsAt (upd (upd H T (.tup [.str p.1, .int p.2.1, .int p.2.2])) l (.lst (xs ++ [.ref T]))) l (L ++ [p]) := by
  have lT : l ≠ T := ne_of_none el nT
  refine ⟨_, upd_same, paired_snoc (Paired.mapP h fun _ _ q => q.keep fun b us z => ?_) ⟨T, rfl, by rw [upd_ne lT.symm, upd_same]⟩⟩
  rw [upd_ne (ne_of z el (fun y => by cases y)), upd_ne (ne_of_none z nT)]
  exact z
/-- the same of a heap that is not tracked at H0's places -/
theorem push_same {H0 H : Hp} {l T : Addr} {xs ys : List V} (s : Same H0 H) (nl : H0 l = none) (nT : H T = none) : Same H0 (upd (upd H T (.tup xs)) l (.lst ys)) := fun b o y => by
  rw [upd_ne (ne_of_none y nl)]
  exact same_new nT _ _ (s _ _ y)
end Fa

/-! visitors led from day to day along links (first, second, number): the families that come of it, and their numbers -/
namespace Fa
open PySem PySem.Spec PyProof.Rows L2
/-- the visitors of a family whose pattern has a property -/
def tot (φ : List Int → Bool) (F : Fm) : Int := (F.map fun p => if φ p.1 then p.2 else 0).sum
def all' (_ : List Int) : Bool := true
theorem tot_nil (φ : List Int → Bool) : tot φ [] = 0 := rfl
theorem tot_cons (φ : List Int → Bool) (p : List Int × Int) (F : Fm) : tot φ (p :: F) = (if φ p.1 then p.2 else 0) + tot φ F := by
  unfold tot
  rw [List.map_cons, List.sum_cons]
theorem tot_app (φ : List Int → Bool) (F G : Fm) : tot φ (F ++ G) = tot φ F + tot φ G := by
  unfold tot
  rw [List.map_append, List.sum_append]
theorem tot_unl (F : Fm) (a b : Int) : tot (fun p => hits p a b) F = unl F a b := rfl
theorem tot_perm {φ : List Int → Bool} {F G : Fm} (h : F.Perm G) : tot φ F = tot φ G := by
  induction h with
  | nil => rfl
  | cons x _ ih => rw [tot_cons, tot_cons, ih]
  | swap x y l =>
    rw [tot_cons, tot_cons, tot_cons, tot_cons]
    omega
  | trans _ _ a b => exact a.trans b
theorem tot_ext {φ ψ : List Int → Bool} {F : Fm} (h : ∀ p ∈ F, φ p.1 = ψ p.1) : tot φ F = tot ψ F := by
  unfold tot
  congr 1
  refine List.map_congr_left fun p hp => ?_
  rw [h p hp]
theorem tot_zero {φ : List Int → Bool} {F : Fm} (h : ∀ p ∈ F, φ p.1 = false) : tot φ F = 0 := by
  induction F with
  | nil => rfl
  | cons p F ih =>
    rw [tot_cons, h p List.mem_cons_self, ih fun q hq => h q (List.mem_cons_of_mem _ hq)]
    rfl
theorem tot_nonneg {φ : List Int → Bool} {F : Fm} (h : ∀ p ∈ F, 0 ≤ p.2) : 0 ≤ tot φ F := by
  induction F with
  | nil => exact Int.le_refl _
  | cons p F ih =>
    rw [tot_cons]
    have := ih fun q hq => h q (List.mem_cons_of_mem _ hq)
    have := h p List.mem_cons_self
    split <;> omega
/-! ### dealing groups among ways -/
/-- so many out of a stack: what is given, what is left -/
def serve : Fm → Int → Fm × Fm
  | [], _ => ([], [])
  | (p, m) :: st, l => if l ≤ 0 then ([], (p, m) :: st) else if l < m then ([(p, l)], (p, m - l) :: st) else ((p, m) :: (serve st (l - m)).1, (serve st (l - m)).2)
abbrev Way : Type := Option Int × Int
abbrev Part : Type := List Int × Option Int × Int
def deal : Fm → List Way → List Part
  | _, [] => []
  | st, (s, l) :: ws => ((serve st l).1.map fun q => (q.1, s, q.2)) ++ deal (serve st l).2 ws
theorem serve_tot (φ : List Int → Bool) : ∀ (st : Fm) (l : Int), tot φ (serve st l).1 + tot φ (serve st l).2 = tot φ st
  | [], l => rfl
  | (p, m) :: st, l => by
    unfold serve
    split
    · show 0 + tot φ ((p, m) :: st) = tot φ ((p, m) :: st)
      omega
    · split
      · show tot φ [(p, l)] + tot φ ((p, m - l) :: st) = tot φ ((p, m) :: st)
        rw [tot_cons, tot_cons, tot_cons, tot_nil]
        dsimp only
        split <;> omega
      · have := serve_tot φ st (l - m)
        show tot φ ((p, m) :: (serve st (l - m)).1) + tot φ (serve st (l - m)).2 = tot φ ((p, m) :: st)
        rw [tot_cons, tot_cons]
        dsimp only
        omega
theorem serve_pos : ∀ {st : Fm} {l : Int}, (∀ p ∈ st, 1 ≤ p.2) → (∀ p ∈ (serve st l).1, 1 ≤ p.2) ∧ ∀ p ∈ (serve st l).2, 1 ≤ p.2
  | [], l, _ => ⟨fun _ h => (nomatch h), fun _ h => (nomatch h)⟩
  | (p, m) :: st, l, h => by
    have h0 := h (p, m) List.mem_cons_self
    have ht : ∀ q ∈ st, 1 ≤ q.2 := fun q hq => h q (List.mem_cons_of_mem _ hq)
    unfold serve
    split
    · exact ⟨fun _ h => (nomatch h), h⟩
    · split
      · refine ⟨fun q hq => ?_, fun q hq => ?_⟩
        · rw [List.mem_singleton.mp hq]
          show 1 ≤ l
          omega
        · rcases List.mem_cons.mp hq with rfl | hq
          · show 1 ≤ m - l
            omega
          · exact ht q hq
      · obtain ⟨a, b⟩ := serve_pos (l := l - m) ht
        refine ⟨fun q hq => ?_, b⟩
        rcases List.mem_cons.mp hq with rfl | hq
        · exact h0
        · exact a q hq
theorem serve_sum : ∀ {st : Fm} {l : Int}, (∀ p ∈ st, 1 ≤ p.2) → 0 ≤ l → l ≤ tot all' st → tot all' (serve st l).1 = l
  | [], l, _, h0, h1 => by
    have : tot all' ([] : Fm) = 0 := rfl
    show (0 : Int) = l
    omega
  | (p, m) :: st, l, h, h0, h1 => by
    have hm := h (p, m) List.mem_cons_self
    rw [tot_cons] at h1
    have h1 : l ≤ m + tot all' st := h1
    unfold serve
    split
    · rw [tot_nil]
      omega
    · split
      · rw [tot_cons, tot_nil]
        show l + 0 = l
        omega
      · have := serve_sum (st := st) (l := l - m) (fun q hq => h q (List.mem_cons_of_mem _ hq)) (by omega) (by omega)
        rw [tot_cons]
        show m + _ = l
        omega
theorem serve_pre : ∀ (st : Fm) (l : Int), (((serve st l).1.map (·.1)).Sublist (st.map (·.1))) ∧ (((serve st l).2.map (·.1)).Sublist (st.map (·.1)))
  | [], l => ⟨List.Sublist.refl _, List.Sublist.refl _⟩
  | (p, m) :: st, l => by
    unfold serve
    split
    · exact ⟨List.nil_sublist _, List.Sublist.refl _⟩
    · split
      · exact ⟨List.Sublist.cons₂ _ (List.nil_sublist _), List.Sublist.refl _⟩
      · obtain ⟨a, b⟩ := serve_pre st (l - m)
        exact ⟨List.Sublist.cons₂ _ a, List.Sublist.cons _ b⟩
theorem serve_len : ∀ (st : Fm) (l : Int), (serve st l).1.length + (serve st l).2.length ≤ st.length + 1
  | [], l => by
    show 0 + 0 ≤ 0 + 1
    omega
  | (p, m) :: st, l => by
    unfold serve
    split
    · simp
    · split
      · simp
        omega
      · have := serve_len st (l - m)
        simp only [List.length_cons]
        omega
def totD (φ : List Int → Bool) (ψ : Option Int → Bool) (D : List Part) : Int := (D.map fun q => if φ q.1 && ψ q.2.1 then q.2.2 else 0).sum
theorem totD_app (φ : List Int → Bool) (ψ : Option Int → Bool) (D E : List Part) : totD φ ψ (D ++ E) = totD φ ψ D + totD φ ψ E := by
  unfold totD
  rw [List.map_append, List.sum_append]
theorem totD_cons (φ : List Int → Bool) (ψ : Option Int → Bool) (q : Part) (D : List Part) : totD φ ψ (q :: D) = (if φ q.1 && ψ q.2.1 then q.2.2 else 0) + totD φ ψ D := by
  unfold totD
  rw [List.map_cons, List.sum_cons]
theorem totD_way (φ : List Int → Bool) (ψ : Option Int → Bool) (s : Option Int) (F : Fm) : totD φ ψ (F.map fun q => (q.1, s, q.2)) = if ψ s then tot φ F else 0 := by
  induction F with
  | nil =>
    show (0 : Int) = _
    split <;> rfl
  | cons p F ih =>
    rw [List.map_cons, totD_cons, ih, tot_cons]
    dsimp only
    cases ψ s with
    | true => simp
    | false => simp
def yes (_ : Option Int) : Bool := true
theorem tot_pos {F : Fm} (h : ∀ p ∈ F, 1 ≤ p.2) (z : tot all' F = 0) : F = [] := by
  cases F with
  | nil => rfl
  | cons p F =>
    rw [tot_cons] at z
    have a := h p List.mem_cons_self
    have b := tot_nonneg (φ := all') (F := F) fun q hq => by have := h q (List.mem_cons_of_mem _ hq); omega
    have z : p.2 + tot all' F = 0 := z
    omega
theorem deal_way (ψ : Option Int → Bool) : ∀ {ws : List Way} {st : Fm}, (∀ p ∈ st, 1 ≤ p.2) → (∀ q ∈ ws, 0 ≤ q.2) → (ws.map (·.2)).sum ≤ tot all' st → totD all' ψ (deal st ws) = (ws.map fun q => if ψ q.1 then q.2 else 0).sum
  | [], _, _, _, _ => rfl
  | (s, l) :: ws, st, h1, h2, h3 => by
    rw [List.map_cons, List.sum_cons] at h3
    have h3 : l + (ws.map (·.2)).sum ≤ tot all' st := h3
    have l0 : 0 ≤ l := h2 (s, l) List.mem_cons_self
    have w0 : 0 ≤ (ws.map (·.2)).sum := by
      have : ∀ xs : List Way, (∀ q ∈ xs, 0 ≤ q.2) → 0 ≤ (xs.map (·.2)).sum := fun xs => by
        induction xs with
        | nil => exact fun _ => Int.le_refl _
        | cons x xs ih =>
          intro z
          rw [List.map_cons, List.sum_cons]
          have := ih fun q hq => z q (List.mem_cons_of_mem _ hq)
          have := z x List.mem_cons_self
          omega
      exact this ws fun q hq => h2 q (List.mem_cons_of_mem _ hq)
    have e := serve_sum h1 l0 (by omega)
    have t := serve_tot all' st l
    have ih := deal_way ψ (ws := ws) (st := (serve st l).2) (serve_pos h1).2 (fun q hq => h2 q (List.mem_cons_of_mem _ hq)) (by omega)
    show totD all' ψ (((serve st l).1.map fun q => (q.1, s, q.2)) ++ deal (serve st l).2 ws) = _
    rw [totD_app, totD_way, ih, List.map_cons, List.sum_cons, e]
theorem deal_pat (φ : List Int → Bool) : ∀ {ws : List Way} {st : Fm}, (∀ p ∈ st, 1 ≤ p.2) → (∀ q ∈ ws, 0 ≤ q.2) → (ws.map (·.2)).sum = tot all' st → totD φ yes (deal st ws) = tot φ st
  | [], st, h1, _, h3 => by
    have : st = [] := tot_pos h1 h3.symm
    subst this
    rfl
  | (s, l) :: ws, st, h1, h2, h3 => by
    rw [List.map_cons, List.sum_cons] at h3
    have h3 : l + (ws.map (·.2)).sum = tot all' st := h3
    have l0 : 0 ≤ l := h2 (s, l) List.mem_cons_self
    have w0 : 0 ≤ (ws.map (·.2)).sum := by
      have : ∀ xs : List Way, (∀ q ∈ xs, 0 ≤ q.2) → 0 ≤ (xs.map (·.2)).sum := fun xs => by
        induction xs with
        | nil => exact fun _ => Int.le_refl _
        | cons x xs ih =>
          intro z
          rw [List.map_cons, List.sum_cons]
          have := ih fun q hq => z q (List.mem_cons_of_mem _ hq)
          have := z x List.mem_cons_self
          omega
      exact this ws fun q hq => h2 q (List.mem_cons_of_mem _ hq)
    have e := serve_sum h1 l0 (by omega)
    have t := serve_tot all' st l
    have tp := serve_tot φ st l
    have ih := deal_pat φ (ws := ws) (st := (serve st l).2) (serve_pos h1).2 (fun q hq => h2 q (List.mem_cons_of_mem _ hq)) (by omega)
    show totD φ yes (((serve st l).1.map fun q => (q.1, s, q.2)) ++ deal (serve st l).2 ws) = _
    rw [totD_app, totD_way, ih]
    show tot φ _ + _ = _
    omega
theorem deal_mem : ∀ {ws : List Way} {st : Fm} {q : Part}, (∀ p ∈ st, 1 ≤ p.2) → q ∈ deal st ws → 1 ≤ q.2.2 ∧ q.1 ∈ st.map (·.1) ∧ q.2.1 ∈ ws.map (·.1)
  | [], _, _, _, h => (nomatch h)
  | (s, l) :: ws, st, q, h1, h => by
    rcases List.mem_append.mp h with h | h
    · obtain ⟨p, hp, rfl⟩ := List.mem_map.mp h
      exact ⟨(serve_pos h1).1 p hp, (serve_pre st l).1.subset (List.mem_map.mpr ⟨p, hp, rfl⟩), List.mem_cons_self⟩
    · obtain ⟨a, b, c⟩ := deal_mem (serve_pos h1).2 h
      exact ⟨a, (serve_pre st l).2.subset b, List.mem_cons_of_mem _ c⟩
theorem deal_nodup : ∀ {ws : List Way} {st : Fm}, (∀ p ∈ st, 1 ≤ p.2) → (st.map (·.1)).Nodup → (ws.map (·.1)).Nodup → ((deal st ws).map fun q => (q.1, q.2.1)).Nodup
  | [], _, _, _, _ => List.nodup_nil
  | (s, l) :: ws, st, h1, h2, h3 => by
    rw [List.map_cons, List.nodup_cons] at h3
    show ((((serve st l).1.map fun q => (q.1, s, q.2)) ++ deal (serve st l).2 ws).map fun q : Part => (q.1, q.2.1)).Nodup
    rw [List.map_append, List.nodup_append]
    refine ⟨?_, deal_nodup (serve_pos h1).2 ((serve_pre st l).2.nodup h2) h3.2, fun x hx y hy z => ?_⟩
    · rw [List.map_map, show ((fun q : Part => (q.1, q.2.1)) ∘ fun q : List Int × Int => (q.1, s, q.2)) = (fun d : List Int => (d, s)) ∘ (·.1) from rfl, ← List.map_map]
      exact List.pairwise_map.mpr (((serve_pre st l).1.nodup h2).imp fun h z => h (Prod.mk.inj z).1)
    · obtain ⟨u, hu, rfl⟩ := List.mem_map.mp hx
      obtain ⟨v, hv, rfl⟩ := List.mem_map.mp hu
      obtain ⟨q, hq, rfl⟩ := List.mem_map.mp hy
      obtain ⟨_, _, c⟩ := deal_mem (serve_pos h1).2 hq
      have : q.2.1 = s := (Prod.mk.inj z).2.symm
      rw [this] at c
      exact h3.1 c
theorem deal_len : ∀ (ws : List Way) (st : Fm), (deal st ws).length ≤ st.length + ws.length
  | [], st => Nat.zero_le _
  | (s, l) :: ws, st => by
    have a := serve_len st l
    have b := deal_len ws (serve st l).2
    show (((serve st l).1.map fun q => (q.1, s, q.2)) ++ deal (serve st l).2 ws).length ≤ _
    rw [List.length_append, List.length_map, List.length_cons]
    omega
end Fa

namespace Fa
open PySem PySem.Spec PyProof.Rows L2
/-! ### links -/
def lsum (P : Tri → Bool) (L : List Tri) : Int := ((L.filter P).map fun p => p.2.2).sum
theorem lsum_cons (P : Tri → Bool) (p : Tri) (L : List Tri) : lsum P (p :: L) = (if P p then p.2.2 else 0) + lsum P L := by
  unfold lsum
  rw [List.filter_cons]
  split
  · rw [List.map_cons, List.sum_cons]
  · omega
theorem lsum_app (P : Tri → Bool) (L M : List Tri) : lsum P (L ++ M) = lsum P L + lsum P M := by
  unfold lsum
  rw [List.filter_append, List.map_append, List.sum_append]
theorem lsum_ext {P Q : Tri → Bool} {L : List Tri} (h : ∀ p ∈ L, P p = Q p) : lsum P L = lsum Q L := by
  unfold lsum
  rw [List.filter_congr h]
theorem lsum_add {P Q R : Tri → Bool} {L : List Tri} (h : ∀ p ∈ L, (if R p then p.2.2 else (0 : Int)) = (if P p then p.2.2 else 0) + (if Q p then p.2.2 else 0)) : lsum R L = lsum P L + lsum Q L := by
  induction L with
  | nil => rfl
  | cons p L ih =>
    rw [lsum_cons, lsum_cons, lsum_cons, ih fun q hq => h q (List.mem_cons_of_mem _ hq), h p List.mem_cons_self]
    omega
theorem lsum_zero {P : Tri → Bool} {L : List Tri} (h : ∀ p ∈ L, P p = false) : lsum P L = 0 := by
  unfold lsum
  rw [List.filter_eq_nil_iff.mpr fun p hp => by rw [h p hp]; exact Bool.false_ne_true]
  rfl
theorem lsum_nonneg {P : Tri → Bool} {L : List Tri} (h : ∀ p ∈ L, 0 ≤ p.2.2) : 0 ≤ lsum P L := by
  induction L with
  | nil => exact Int.le_refl _
  | cons p L ih =>
    rw [lsum_cons]
    have := ih fun q hq => h q (List.mem_cons_of_mem _ hq)
    have := h p List.mem_cons_self
    split <;> omega
def frm (i : Nat) (p : Tri) : Bool := decide (p.1 = (i : Int))
def tow (i : Nat) (p : Tri) : Bool := decide (p.2.1 = (i : Int))
structure Links (n : Nat) (r0 : Nat → Int) (L : List Tri) : Prop where
  ok : ∀ p ∈ L, 0 ≤ p.1 ∧ p.1 < p.2.1 ∧ p.2.1 < (n : Int) ∧ 1 ≤ p.2.2
  nd : (L.map fun p => (p.1, p.2.1)).Nodup
  out : ∀ i, i < n → lsum (frm i) L ≤ r0 i
  inn : ∀ i, i < n → lsum (tow i) L ≤ r0 i
def ways (L : List Tri) (i : Nat) : List Way := (L.filter (frm i)).map fun p => (some p.2.1, p.2.2)
def newN (r0 : Nat → Int) (L : List Tri) (i : Nat) : Int := r0 i - lsum (tow i) L
def goneN (r0 : Nat → Int) (L : List Tri) (i : Nat) : Int := r0 i - lsum (frm i) L
/-- o: the groups of a day in some order; v: its ways, in some order -/
def stk (r0 : Nat → Int) (L : List Tri) (o : Nat → Fm → Fm) (i : Nat) (g : Fm) : Fm := ((o i (g ++ [(([] : List Int), newN r0 L i)])).filter fun p : List Int × Int => decide (p.2 > 0)).reverse
def dayD (r0 : Nat → Int) (L : List Tri) (o : Nat → Fm → Fm) (v : Nat → List Way) (i : Nat) (g : Fm) : List Part := deal (stk r0 L o i g) (v i)
structure Ord (n : Nat) (r0 : Nat → Int) (L : List Tri) (o : Nat → Fm → Fm) (v : Nat → List Way) : Prop where
  o : ∀ i g, (o i g).Perm g
  v : ∀ i, i < n → (v i).Perm (ways L i ++ [((none : Option Int), goneN r0 L i)])
def stA (D : List Part) (i : Nat) (s : Option Int) : Fm := (D.filter fun q => decide (q.2.1 = s)).map fun q => (q.1 ++ [(i : Int)], q.2.2)
def route (r0 : Nat → Int) (L : List Tri) (o : Nat → Fm → Fm) (v : Nat → List Way) : Nat → (Nat → Fm) × Fm
  | 0 => (fun _ => [], [])
  | i + 1 => (fun x => (route r0 L o v i).1 x ++ stA (dayD r0 L o v i ((route r0 L o v i).1 i)) i (some (x : Int)), (route r0 L o v i).2 ++ stA (dayD r0 L o v i ((route r0 L o v i).1 i)) i none)
/-- the number of a stretch from a on, of the days below k -/
def UU (r0 : Nat → Int) (L : List Tri) (a : Int) : Nat → Int
  | 0 => 0
  | k + 1 => UU r0 L a k + if a ≤ (k : Int) then r0 k - lsum (fun p : Tri => tow k p && decide (a ≤ p.1)) L else 0
theorem UU_none (r0 : Nat → Int) (L : List Tri) {a : Int} : ∀ {k : Nat}, (k : Int) ≤ a → UU r0 L a k = 0
  | 0, _ => rfl
  | k + 1, h => by
    show UU r0 L a k + _ = 0
    rw [UU_none r0 L (k := k) (by omega), if_neg (by omega)]
    rfl
/-! ### sums over parts -/
def vsum (v : Part → Int) (D : List Part) : Int := (D.map v).sum
theorem vsum_cons (v : Part → Int) (q : Part) (D : List Part) : vsum v (q :: D) = v q + vsum v D := by
  unfold vsum
  rw [List.map_cons, List.sum_cons]
theorem sa_zero {g : Nat → Int} : ∀ {m : Nat}, (∀ i, i < m → g i = 0) → sa g m = 0
  | 0, _ => rfl
  | m + 1, h => by
    show sa g m + g m = 0
    rw [sa_zero fun i hi => h i (by omega), h m (by omega)]
    rfl
theorem sa_one (v : Int) (j : Nat) : ∀ m : Nat, sa (fun x => if x = j then v else 0) m = if j < m then v else 0
  | 0 => by
    rw [if_neg (by omega)]
    rfl
  | m + 1 => by
    show sa (fun x => if x = j then v else 0) m + (if m = j then v else 0) = _
    rw [sa_one v j m]
    by_cases h : j < m
    · rw [if_pos h, if_neg (by omega), if_pos (by omega)]
      omega
    · by_cases e : m = j
      · rw [if_neg h, if_pos e, if_pos (by omega)]
        omega
      · rw [if_neg h, if_neg e, if_neg (by omega)]
        rfl
theorem sa_add (g h : Nat → Int) : ∀ m, sa (fun x => g x + h x) m = sa g m + sa h m
  | 0 => rfl
  | m + 1 => by
    show sa (fun x => g x + h x) m + (g m + h m) = sa g m + g m + (sa h m + h m)
    rw [sa_add g h m]
    omega
theorem sa_head (g : Nat → Int) : ∀ m, sa g (m + 1) = g 0 + sa (fun x => g (x + 1)) m
  | 0 => by
    show (0 : Int) + g 0 = g 0 + 0
    omega
  | m + 1 => by
    show sa g (m + 1) + g (m + 1) = g 0 + (sa (fun x => g (x + 1)) m + g (m + 1))
    rw [sa_head g m]
    omega
theorem vsum_part (v : Part → Int) (i m : Nat) : ∀ {D : List Part}, (∀ q ∈ D, q.2.1 = none ∨ ∃ x : Nat, x < m ∧ q.2.1 = some (((i + x : Nat)) : Int)) →
    vsum v D = vsum (fun q => if q.2.1 = none then v q else 0) D + sa (fun x => vsum (fun q => if q.2.1 = some (((i + x : Nat)) : Int) then v q else 0) D) m
  | [], _ => by
    have z : sa (fun x => vsum (fun q => if q.2.1 = some (((i + x : Nat)) : Int) then v q else 0) []) m = 0 := sa_zero fun _ _ => rfl
    rw [z]
    rfl
  | q :: D, h => by
    have ih := vsum_part v i m (D := D) fun p hp => h p (List.mem_cons_of_mem _ hp)
    rw [vsum_cons, vsum_cons, ih, sa_ext (g := fun x => vsum (fun q => if q.2.1 = some (((i + x : Nat)) : Int) then v q else 0) (q :: D)) (g' := fun x => (if q.2.1 = some (((i + x : Nat)) : Int) then v q else 0) + vsum (fun q => if q.2.1 = some (((i + x : Nat)) : Int) then v q else 0) D) fun x _ => vsum_cons _ _ _, sa_add]
    rcases h q List.mem_cons_self with e | ⟨x0, hx, e⟩
    · rw [e, if_pos rfl, sa_zero (g := fun x => if (none : Option Int) = some (((i + x : Nat)) : Int) then v q else 0) fun x _ => if_neg (fun z => by cases z)]
      omega
    · rw [e, if_neg (fun z => by cases z)]
      have : sa (fun x => if (some (((i + x0 : Nat)) : Int) : Option Int) = some (((i + x : Nat)) : Int) then v q else 0) m = v q := by
        rw [sa_ext (g' := fun x => if x = x0 then v q else 0) fun x _ => ?_, sa_one, if_pos hx]
        by_cases z : x = x0
        · rw [z, if_pos rfl, if_pos rfl]
        · rw [if_neg z, if_neg fun y => z (by have := Option.some.inj y; omega)]
      rw [this]
      omega
theorem tot_stA (φ : List Int → Bool) (i : Nat) (s : Option Int) (D : List Part) : tot φ (stA D i s) = vsum (fun q => if q.2.1 = s then (if φ (q.1 ++ [(i : Int)]) then q.2.2 else 0) else 0) D := by
  induction D with
  | nil => rfl
  | cons q D ih =>
    rw [vsum_cons, ← ih]
    unfold stA
    rw [List.filter_cons]
    by_cases h : q.2.1 = s
    · rw [if_pos (decide_eq_true h), if_pos h, List.map_cons, tot_cons]
    · rw [if_neg (by rw [decide_eq_false h]; exact Bool.false_ne_true), if_neg h]
      omega
theorem len_stA (i : Nat) (s : Option Int) (D : List Part) : ((stA D i s).length : Int) = vsum (fun q => if q.2.1 = s then 1 else 0) D := by
  induction D with
  | nil => rfl
  | cons q D ih =>
    rw [vsum_cons, ← ih]
    unfold stA
    rw [List.filter_cons]
    by_cases h : q.2.1 = s
    · rw [if_pos (decide_eq_true h), if_pos h, List.map_cons, List.length_cons]
      omega
    · rw [if_neg (by rw [decide_eq_false h]; exact Bool.false_ne_true), if_neg h]
      omega
theorem len_vsum (D : List Part) : (D.length : Int) = vsum (fun _ => 1) D := by
  induction D with
  | nil => rfl
  | cons q D ih =>
    rw [vsum_cons, ← ih, List.length_cons]
    omega
theorem vsum_ext {v u : Part → Int} {D : List Part} (h : ∀ q ∈ D, v q = u q) : vsum v D = vsum u D := by
  unfold vsum
  rw [List.map_congr_left h]
theorem totD_vsum (φ : List Int → Bool) (ψ : Option Int → Bool) (D : List Part) : totD φ ψ D = vsum (fun q => if φ q.1 && ψ q.2.1 then q.2.2 else 0) D := rfl
/-! ### patterns -/
theorem Pat.up {i : Nat} {ds : List Int} (h : Pat (i : Int) ds) : Pat ((i + 1 : Nat) : Int) ds := ⟨h.ne, h.asc, fun d hd => by
  have := h.bd d hd
  omega⟩
theorem Pat.snoc {i : Nat} {ds : List Int} (h : ds = [] ∨ Pat (i : Int) ds) : Pat ((i + 1 : Nat) : Int) (ds ++ [(i : Int)]) := by
  have b : ∀ d ∈ ds, 0 ≤ d ∧ d < (i : Int) := fun d hd => by
    rcases h with rfl | h
    · cases hd
    · exact h.bd d hd
  refine ⟨by simp, ?_, fun d hd => ?_⟩
  · rw [List.pairwise_append]
    refine ⟨?_, List.pairwise_singleton _ _, fun x hx y hy => ?_⟩
    · rcases h with rfl | h
      · exact .nil
      · exact h.asc
    · rw [List.mem_singleton.mp hy]
      exact (b x hx).2
  · rcases List.mem_append.mp hd with z | z
    · have := b d z
      omega
    · rw [List.mem_singleton.mp z]
      omega
theorem hits_low {ds : List Int} {i : Int} (h : ∀ d ∈ ds, d < i) (a : Int) {b : Int} (hb : i - 1 ≤ b) : hits ds a b = hits ds a (i - 1) := by
  unfold hits
  rw [Bool.eq_iff_iff, List.any_eq_true, List.any_eq_true]
  constructor
  · rintro ⟨d, hd, z⟩
    have := h d hd
    obtain ⟨z1, z2⟩ := He.ba z
    exact ⟨d, hd, Bool.and_eq_true_iff.mpr ⟨z1, decide_eq_true (by omega)⟩⟩
  · rintro ⟨d, hd, z⟩
    obtain ⟨z1, z2⟩ := He.ba z
    have z2 := of_decide_eq_true z2
    exact ⟨d, hd, Bool.and_eq_true_iff.mpr ⟨z1, decide_eq_true (by omega)⟩⟩
theorem hits_snoc_low {ds : List Int} {i a b : Int} (hb : b < i) : hits (ds ++ [i]) a b = hits ds a b := by
  unfold hits
  rw [List.any_append]
  have : ([i].any fun d => decide (a ≤ d) && decide (d ≤ b)) = false := by
    rw [List.any_cons, List.any_nil, decide_eq_false (show ¬ i ≤ b by omega), Bool.and_false, Bool.or_false]
  rw [this, Bool.or_false]
theorem hits_snoc_at {ds : List Int} {i a : Int} (ha : a ≤ i) : hits (ds ++ [i]) a i = true :=
  List.any_eq_true.mpr ⟨i, List.mem_append_right _ List.mem_cons_self, Bool.and_eq_true_iff.mpr ⟨decide_eq_true ha, decide_eq_true (Int.le_refl _)⟩⟩
theorem Pat.hit {i : Int} {ds : List Int} (h : Pat i ds) : hits ds 0 (i - 1) = true := by
  cases ds with
  | nil => exact absurd rfl h.ne
  | cons d l =>
    have := h.bd d List.mem_cons_self
    exact List.any_eq_true.mpr ⟨d, List.mem_cons_self, Bool.and_eq_true_iff.mpr ⟨decide_eq_true this.1, decide_eq_true (by omega)⟩⟩
theorem tot_filter {φ : List Int → Bool} : ∀ {F : Fm}, (∀ p ∈ F, 0 ≤ p.2) → tot φ (F.filter fun p => decide (p.2 > 0)) = tot φ F
  | [], _ => rfl
  | p :: F, h => by
    have ih := tot_filter (φ := φ) (F := F) fun q hq => h q (List.mem_cons_of_mem _ hq)
    have p0 := h p List.mem_cons_self
    rw [List.filter_cons]
    by_cases z : p.2 > 0
    · rw [if_pos (decide_eq_true z), tot_cons, tot_cons, ih]
    · rw [if_neg (by rw [decide_eq_false z]; exact Bool.false_ne_true), tot_cons, ih]
      have : p.2 = 0 := by omega
      rw [this]
      split <;> omega
/-! ### a day -/
structure Rt (n : Nat) (r0 : Nat → Int) (L : List Tri) (i : Nat) (arr : Nat → Fm) (fam : Fm) : Prop where
  A : ∀ x q, q ∈ arr x → 1 ≤ q.2 ∧ Pat (i : Int) q.1
  C : ∀ q, q ∈ fam → 1 ≤ q.2 ∧ Pat (i : Int) q.1
  B : ∀ x : Nat, i ≤ x → ∀ a : Int, 0 ≤ a → tot (fun p => hits p a ((i : Int) - 1)) (arr x) = lsum (fun p => tow x p && (decide (a ≤ p.1) && decide (p.1 < (i : Int)))) L
  Da : ∀ x, ((arr x).map (·.1)).Nodup
  Df : (fam.map (·.1)).Nodup
  U : ∀ a : Int, 0 ≤ a → ∀ k : Nat, k ≤ i → tot (fun p => hits p a ((k : Int) - 1)) fam + sa (fun x => tot (fun p => hits p a ((k : Int) - 1)) (arr (i + x))) (n - i) = UU r0 L a k
  len : (fam.length : Int) + sa (fun x => ((arr (i + x)).length : Int)) (n - i) ≤ 2 * (i : Int) + ((L.filter fun p => decide (p.1 < (i : Int))).length : Int)
theorem rt_zero (n : Nat) (r0 : Nat → Int) (L : List Tri) (h : ∀ p ∈ L, 0 ≤ p.1) : Rt n r0 L 0 (fun _ => []) [] := by
  refine ⟨fun _ _ z => (nomatch z), fun _ z => (nomatch z), fun x _ a ha => ?_, fun _ => List.nodup_nil, List.nodup_nil, fun a ha k hk => ?_, ?_⟩
  · rw [lsum_zero fun p hp => ?_]
    · rfl
    · have := h p hp
      rw [decide_eq_false (show ¬ p.1 < ((0 : Nat) : Int) by omega), Bool.and_false, Bool.and_false]
  · have : k = 0 := by omega
    subst this
    have z : sa (fun _ => tot (fun p => hits p a (((0 : Nat) : Int) - 1)) []) (n - 0) = 0 := sa_zero fun _ _ => rfl
    rw [z]
    rfl
  · have z : sa (fun _ => (([] : Fm).length : Int)) (n - 0) = 0 := sa_zero fun _ _ => rfl
    rw [z]
    show ((0 : Nat) : Int) + 0 ≤ _
    omega
section
variable {n : Nat} {r0 : Nat → Int} {L : List Tri} {o : Nat → Fm → Fm} {v : Nat → List Way} {i : Nat} {arr : Nat → Fm} {fam : Fm}
theorem Rt.stk_pos (g : Fm) : ∀ p ∈ stk r0 L o i g, 1 ≤ p.2 := fun p hp => by
  have := (List.mem_filter.mp (List.mem_reverse.mp hp)).2
  have := of_decide_eq_true this
  omega
theorem Rt.stk_mem (hO : Ord n r0 L o v) {g : Fm} {p : List Int × Int} (h : p ∈ stk r0 L o i g) : p ∈ g ∨ p.1 = [] := by
  rcases List.mem_append.mp ((hO.o _ _).mem_iff.mp (List.mem_filter.mp (List.mem_reverse.mp h)).1) with z | z
  · exact .inl z
  · rw [List.mem_singleton.mp z]
    exact .inr rfl
theorem Rt.new0 (hL : Links n r0 L) (hi : i < n) : 0 ≤ newN r0 L i := by
  have := hL.inn i hi
  unfold newN
  omega
theorem Rt.gone0 (hL : Links n r0 L) (hi : i < n) : 0 ≤ goneN r0 L i := by
  have := hL.out i hi
  unfold goneN
  omega
theorem Rt.stk_tot (R : Rt n r0 L i arr fam) (hO : Ord n r0 L o v) (hL : Links n r0 L) (hi : i < n) (φ : List Int → Bool) : tot φ (stk r0 L o i (arr i)) = tot φ (arr i) + if φ [] then newN r0 L i else 0 := by
  unfold stk
  rw [tot_perm (List.reverse_perm _), tot_perm ((hO.o _ _).filter _), tot_filter, tot_app, tot_cons, tot_nil]
  · dsimp only
    omega
  · intro p hp
    rcases List.mem_append.mp hp with z | z
    · have := (R.A i p z).1
      omega
    · rw [List.mem_singleton.mp z]
      exact Rt.new0 hL hi
theorem Rt.arr_all (R : Rt n r0 L i arr fam) (hL : Links n r0 L) : tot all' (arr i) = lsum (tow i) L := by
  have := R.B i (Nat.le_refl _) 0 (Int.le_refl _)
  rw [tot_ext (ψ := fun p => hits p 0 ((i : Int) - 1)) fun p hp => ((R.A i p hp).2.hit).symm, this]
  refine lsum_ext fun p hp => ?_
  have o := hL.ok p hp
  unfold tow
  by_cases z : p.2.1 = (i : Int)
  · rw [decide_eq_true z, decide_eq_true o.1, decide_eq_true (show p.1 < (i : Int) by omega)]
    rfl
  · rw [decide_eq_false z, Bool.false_and]
theorem Rt.sup (R : Rt n r0 L i arr fam) (hO : Ord n r0 L o v) (hL : Links n r0 L) (hi : i < n) : tot all' (stk r0 L o i (arr i)) = r0 i := by
  rw [R.stk_tot hO hL hi, R.arr_all hL]
  show lsum (tow i) L + newN r0 L i = r0 i
  unfold newN
  omega
theorem ways_sum (ψ : Option Int → Bool) (L : List Tri) (i : Nat) : ((ways L i).map fun q => if ψ q.1 then q.2 else 0).sum = lsum (fun p : Tri => frm i p && ψ (some p.2.1)) L := by
  unfold ways
  induction L with
  | nil => rfl
  | cons p L ih =>
    rw [lsum_cons, List.filter_cons]
    by_cases h : frm i p = true
    · rw [if_pos h, List.map_cons, List.map_cons, List.sum_cons, ih, h, Bool.true_and]
    · rw [if_neg h, ih, Bool.eq_false_iff.mpr h, Bool.false_and, if_neg Bool.false_ne_true]
      omega
theorem sum_perm : ∀ {l m : List Int}, l.Perm m → l.sum = m.sum := fun h => by
  induction h with
  | nil => rfl
  | cons x _ ih => rw [List.sum_cons, List.sum_cons, ih]
  | swap x y l => simp only [List.sum_cons]; omega
  | trans _ _ a b => exact a.trans b
theorem Rt.dem (hO : Ord n r0 L o v) (hL : Links n r0 L) (hi : i < n) : ((v i).map fun q : Way => q.2).sum = r0 i ∧ ∀ q ∈ v i, 0 ≤ q.2 := by
  have pm := hO.v i hi
  rw [sum_perm (pm.map _)]
  suffices h : ((ways L i ++ [((none : Option Int), goneN r0 L i)]).map fun q : Way => q.2).sum = r0 i ∧ ∀ q ∈ ways L i ++ [((none : Option Int), goneN r0 L i)], 0 ≤ q.2 from ⟨h.1, fun q hq => h.2 q (pm.mem_iff.mp hq)⟩
  constructor
  · rw [List.map_append, List.sum_append]
    have := ways_sum (fun _ => true) L i
    rw [show (fun q : Way => if (fun _ : Option Int => true) q.1 then q.2 else 0) = (·.2) from rfl] at this
    rw [this, lsum_ext (Q := frm i) fun p _ => Bool.and_true _]
    show lsum (frm i) L + ([goneN r0 L i].sum) = r0 i
    unfold goneN
    simp only [List.sum_cons, List.sum_nil]
    omega
  · intro q hq
    rcases List.mem_append.mp hq with z | z
    · obtain ⟨p, hp, rfl⟩ := List.mem_map.mp z
      have := (hL.ok p (List.mem_filter.mp hp).1).2.2.2
      show 0 ≤ p.2.2
      omega
    · rw [List.mem_singleton.mp z]
      exact Rt.gone0 hL hi
theorem Rt.seg (hO : Ord n r0 L o v) (hL : Links n r0 L) (hi : i < n) {q : Part} (h : q ∈ dayD r0 L o v i (arr i)) : q.2.1 = none ∨ ∃ x : Nat, x < n - (i + 1) ∧ q.2.1 = some (((i + 1 + x : Nat)) : Int) := by
  obtain ⟨_, _, c⟩ := deal_mem (Rt.stk_pos _) h
  have c := ((hO.v i hi).map _).mem_iff.mp c
  rw [List.map_append] at c
  rcases List.mem_append.mp c with z | z
  · obtain ⟨w, hw, e⟩ := List.mem_map.mp z
    obtain ⟨p, hp, rfl⟩ := List.mem_map.mp hw
    obtain ⟨m1, m2⟩ := List.mem_filter.mp hp
    have o := hL.ok p m1
    have m2 := of_decide_eq_true m2
    refine .inr ⟨(p.2.1 - ((i + 1 : Nat) : Int)).toNat, by omega, ?_⟩
    rw [← e]
    show some p.2.1 = some _
    congr 1
    omega
  · exact .inl (List.mem_singleton.mp z)
/-- all parts of a day, by their way -/
theorem Rt.all_new (hO : Ord n r0 L o v) (hL : Links n r0 L) (hi : i < n) (φ : List Int → Bool) : tot φ (stA (dayD r0 L o v i (arr i)) i none) + sa (fun x => tot φ (stA (dayD r0 L o v i (arr i)) i (some (((i + 1 + x : Nat)) : Int)))) (n - (i + 1)) = totD (fun p => φ (p ++ [(i : Int)])) yes (dayD r0 L o v i (arr i)) := by
  rw [totD_vsum, vsum_part _ (i + 1) (n - (i + 1)) fun q hq => Rt.seg hO hL hi hq, tot_stA]
  congr 1
  · refine vsum_ext fun q _ => ?_
    show _ = if q.2.1 = none then (if φ (q.1 ++ [(i : Int)]) && true then q.2.2 else 0) else 0
    rw [Bool.and_true]
  · refine sa_ext fun x _ => ?_
    rw [tot_stA]
    refine vsum_ext fun q _ => ?_
    show _ = if q.2.1 = some (((i + 1 + x : Nat)) : Int) then (if φ (q.1 ++ [(i : Int)]) && true then q.2.2 else 0) else 0
    rw [Bool.and_true]
theorem Rt.step (R : Rt n r0 L i arr fam) (hO : Ord n r0 L o v) (hL : Links n r0 L) (hi : i < n) :
    Rt n r0 L (i + 1) (fun x => arr x ++ stA (dayD r0 L o v i (arr i)) i (some (x : Int))) (fam ++ stA (dayD r0 L o v i (arr i)) i none) := by
  have sp := Rt.stk_pos (r0 := r0) (L := L) (o := o) (i := i) (arr i)
  obtain ⟨dm, dn⟩ := Rt.dem hO hL hi
  have sup := R.sup hO hL hi
  have pat : ∀ q ∈ dayD r0 L o v i (arr i), 1 ≤ q.2.2 ∧ (q.1 = [] ∨ Pat (i : Int) q.1) := fun q hq => by
    obtain ⟨a, b, _⟩ := deal_mem sp hq
    obtain ⟨p, hp, e⟩ := List.mem_map.mp b
    refine ⟨a, ?_⟩
    rw [← e]
    rcases Rt.stk_mem hO hp with z | z
    · exact .inr (R.A i p z).2
    · exact .inl z
  have nA : ∀ s, ∀ q ∈ stA (dayD r0 L o v i (arr i)) i s, 1 ≤ q.2 ∧ Pat ((i + 1 : Nat) : Int) q.1 := fun s q hq => by
    obtain ⟨u, hu, rfl⟩ := List.mem_map.mp hq
    obtain ⟨h1, h2⟩ := pat u (List.mem_filter.mp hu).1
    exact ⟨h1, Pat.snoc h2⟩
  have sn : ((stk r0 L o i (arr i)).map (·.1)).Nodup := by
    unfold stk
    rw [List.map_reverse]
    refine ((List.reverse_perm _).nodup_iff).mpr ?_
    refine List.Sublist.nodup ((List.filter_sublist (p := fun p : List Int × Int => decide (p.2 > 0)) (l := o i (arr i ++ [([], newN r0 L i)]))).map (·.1)) ?_
    refine (((hO.o _ _).map _).nodup_iff).mpr ?_
    rw [List.map_append, List.nodup_append]
    refine ⟨R.Da i, List.pairwise_singleton _ _, fun x hx y hy z => ?_⟩
    obtain ⟨p, hp, rfl⟩ := List.mem_map.mp hx
    rw [List.mem_singleton.mp hy] at z
    exact (R.A i p hp).2.ne z
  have wn : ((v i).map (·.1)).Nodup := by
    refine (((hO.v i hi).map _).nodup_iff).mpr ?_
    rw [List.map_append, List.nodup_append]
    refine ⟨?_, List.pairwise_singleton _ _, fun x hx y hy z => ?_⟩
    · unfold ways
      rw [List.map_map]
      have nd := List.pairwise_map.mp (show List.Pairwise (· ≠ ·) _ from hL.nd)
      refine List.pairwise_map.mpr ?_
      refine (List.Pairwise.filter (frm i) nd).imp_of_mem fun {a b} ha hb h z => h ?_
      have e1 := of_decide_eq_true (List.mem_filter.mp ha).2
      have e2 := of_decide_eq_true (List.mem_filter.mp hb).2
      exact Prod.ext (e1.trans e2.symm) (Option.some.inj z)
    · obtain ⟨w, hw, rfl⟩ := List.mem_map.mp hx
      obtain ⟨p, _, rfl⟩ := List.mem_map.mp hw
      rw [List.mem_singleton.mp hy] at z
      cases z
  have dnd := deal_nodup sp sn wn
  have nD : ∀ s, ((stA (dayD r0 L o v i (arr i)) i s).map (·.1)).Nodup := fun s => by
    unfold stA
    rw [List.map_map]
    have nd := List.pairwise_map.mp (show List.Pairwise (· ≠ ·) _ from dnd)
    refine List.pairwise_map.mpr ?_
    refine (List.Pairwise.filter (fun q : Part => decide (q.2.1 = s)) nd).imp_of_mem fun {a b} ha hb h z => h ?_
    have e1 := of_decide_eq_true (List.mem_filter.mp ha).2
    have e2 := of_decide_eq_true (List.mem_filter.mp hb).2
    have e3 : a.1 ++ [(i : Int)] = b.1 ++ [(i : Int)] := z
    exact Prod.ext (List.append_cancel_right e3) (e1.trans e2.symm)
  have off : ∀ (F : Fm) s, (∀ q ∈ F, 1 ≤ q.2 ∧ Pat (i : Int) q.1) → (F.map (·.1)).Nodup → ((F ++ stA (dayD r0 L o v i (arr i)) i s).map (·.1)).Nodup := fun F s hF nF => by
    rw [List.map_append, List.nodup_append]
    refine ⟨nF, nD s, fun x hx y hy z => ?_⟩
    obtain ⟨p, hp, rfl⟩ := List.mem_map.mp hx
    obtain ⟨q, hq, rfl⟩ := List.mem_map.mp hy
    obtain ⟨u, hu, rfl⟩ := List.mem_map.mp hq
    have m : (i : Int) ∈ p.1 := by
      rw [z]
      exact List.mem_append_right _ List.mem_cons_self
    have := (hF p hp).2.bd _ m
    omega
  -- numbers of the old ones
  have low : ∀ (F : Fm) (a : Int), (∀ q ∈ F, 1 ≤ q.2 ∧ Pat (i : Int) q.1) → tot (fun p => hits p a ((i + 1 : Nat) - 1 : Int)) F = tot (fun p => hits p a ((i : Int) - 1)) F := fun F a hF => tot_ext fun p hp => hits_low (fun d hd => ((hF p hp).2.bd d hd).2) a (by omega)
  refine ⟨fun x q hq => ?_, fun q hq => ?_, fun x hx a ha => ?_, fun x => off _ _ (R.A x) (R.Da x), off _ _ R.C R.Df, fun a ha k hk => ?_, ?_⟩
  · rcases List.mem_append.mp hq with z | z
    · exact ⟨(R.A x q z).1, (R.A x q z).2.up⟩
    · exact nA _ q z
  · rcases List.mem_append.mp hq with z | z
    · exact ⟨(R.C q z).1, (R.C q z).2.up⟩
    · exact nA _ q z
  · rw [tot_app, low _ a (R.A x), R.B x (by omega) a ha, tot_stA]
    have e1 : vsum (fun q => if q.2.1 = some (x : Int) then (if hits (q.1 ++ [(i : Int)]) a ((i + 1 : Nat) - 1 : Int) then q.2.2 else 0) else 0) (dayD r0 L o v i (arr i)) = if a ≤ (i : Int) then lsum (fun p => frm i p && tow x p) L else 0 := by
      by_cases h : a ≤ (i : Int)
      · rw [if_pos h]
        have w := deal_way (fun s => decide (s = some (x : Int))) sp dn (by rw [dm, sup]; exact Int.le_refl _)
        have ws : ((ways L i).map fun q => if decide (q.1 = some (x : Int)) = true then q.2 else 0).sum = lsum (fun p : Tri => frm i p && decide (some p.2.1 = some (x : Int))) L := ways_sum (fun s => decide (s = some (x : Int))) L i
        rw [sum_perm ((hO.v i hi).map _), List.map_append, List.sum_append, ws] at w
        have w2 : totD all' (fun s => decide (s = some (x : Int))) (dayD r0 L o v i (arr i)) = lsum (fun p => frm i p && tow x p) L := by
          refine w.trans ?_
          rw [show ([((none : Option Int), goneN r0 L i)].map fun q => if (fun s => decide (s = some (x : Int))) q.1 then q.2 else 0).sum = 0 from rfl, Int.add_zero]
          refine lsum_ext fun p _ => ?_
          unfold tow
          congr 1
          by_cases z : p.2.1 = (x : Int)
          · rw [z, decide_eq_true rfl, decide_eq_true rfl]
          · rw [decide_eq_false z, decide_eq_false fun y => z (Option.some.inj y)]
        rw [← w2, totD_vsum]
        refine vsum_ext fun q _ => ?_
        show _ = if true && decide (q.2.1 = some (x : Int)) then q.2.2 else 0
        rw [Bool.true_and]
        by_cases z : q.2.1 = some (x : Int)
        · rw [if_pos z, if_pos (decide_eq_true z), show ((i + 1 : Nat) - 1 : Int) = (i : Int) by omega, hits_snoc_at h, if_pos rfl]
        · rw [if_neg z, if_neg (by rw [decide_eq_false z]; exact Bool.false_ne_true)]
      · rw [if_neg h]
        have : vsum (fun q => if q.2.1 = some (x : Int) then (if hits (q.1 ++ [(i : Int)]) a ((i + 1 : Nat) - 1 : Int) then q.2.2 else 0) else 0) (dayD r0 L o v i (arr i)) = vsum (fun _ => 0) (dayD r0 L o v i (arr i)) := vsum_ext fun q _ => by
          rw [hits_none (by omega)]
          simp
        rw [this]
        generalize dayD r0 L o v i (arr i) = D
        induction D with
        | nil => rfl
        | cons q D ih =>
          rw [vsum_cons, ih]
          rfl
    rw [e1]
    by_cases h : a ≤ (i : Int)
    · rw [if_pos h]
      refine (lsum_add fun p hp => ?_).symm
      unfold tow frm
      by_cases z : p.2.1 = (x : Int)
      · rw [decide_eq_true z]
        by_cases y : p.1 = (i : Int)
        · rw [decide_eq_true y, decide_eq_false (show ¬ p.1 < (i : Int) by omega), decide_eq_true (show p.1 < ((i + 1 : Nat) : Int) by omega), decide_eq_true (show a ≤ p.1 by omega)]
          simp
        · by_cases y2 : p.1 < (i : Int)
          · rw [decide_eq_true y2, decide_eq_true (show p.1 < ((i + 1 : Nat) : Int) by omega), decide_eq_false y]
            simp
          · rw [decide_eq_false y2, decide_eq_false (show ¬ p.1 < ((i + 1 : Nat) : Int) by omega), decide_eq_false y]
            simp
      · rw [decide_eq_false z]
        simp
    · rw [if_neg h, Int.add_zero]
      refine lsum_ext fun p hp => ?_
      by_cases y : a ≤ p.1
      · rw [decide_eq_false (show ¬ p.1 < (i : Int) by omega), decide_eq_false (show ¬ p.1 < ((i + 1 : Nat) : Int) by omega)]
      · rw [decide_eq_false y, Bool.false_and, Bool.false_and]
  · -- the numbers of stretches
    have hd : n - i = (n - (i + 1)) + 1 := by omega
    have parts : ∀ φ : List Int → Bool, tot φ (fam ++ stA (dayD r0 L o v i (arr i)) i none) + sa (fun x => tot φ (arr (i + 1 + x) ++ stA (dayD r0 L o v i (arr i)) i (some (((i + 1 + x : Nat)) : Int)))) (n - (i + 1)) = tot φ fam + sa (fun x => tot φ (arr (i + 1 + x))) (n - (i + 1)) + totD (fun p => φ (p ++ [(i : Int)])) yes (dayD r0 L o v i (arr i)) := fun φ => by
      rw [← Rt.all_new hO hL hi φ, tot_app, sa_ext (g' := fun x => tot φ (arr (i + 1 + x)) + tot φ (stA (dayD r0 L o v i (arr i)) i (some (((i + 1 + x : Nat)) : Int)))) fun x _ => tot_app _ _ _, sa_add]
      omega
    have old : ∀ φ : List Int → Bool, tot φ fam + sa (fun x => tot φ (arr (i + x))) (n - i) = tot φ fam + sa (fun x => tot φ (arr (i + 1 + x))) (n - (i + 1)) + tot φ (arr i) := fun φ => by
      rw [hd, sa_head, sa_ext (g' := fun x => tot φ (arr (i + 1 + x))) fun x _ => by rw [show i + (x + 1) = i + 1 + x by omega]]
      show tot φ fam + (tot φ (arr i) + _) = _
      omega
    rw [parts]
    have ke : k ≤ i ∨ k = i + 1 := by omega
    rcases ke with ke | rfl
    · have U := R.U a ha k ke
      rw [old] at U
      have dp := deal_pat (fun p => hits p a ((k : Int) - 1)) sp dn (by rw [dm, sup])
      have e1 : totD (fun p => hits (p ++ [(i : Int)]) a ((k : Int) - 1)) yes (dayD r0 L o v i (arr i)) = totD (fun p => hits p a ((k : Int) - 1)) yes (dayD r0 L o v i (arr i)) := by
        rw [totD_vsum, totD_vsum]
        refine vsum_ext fun q _ => ?_
        rw [hits_snoc_low (by omega)]
      rw [e1]
      have e2 := R.stk_tot hO hL hi (fun p => hits p a ((k : Int) - 1))
      rw [show (if hits [] a ((k : Int) - 1) then newN r0 L i else 0) = 0 from rfl, Int.add_zero] at e2
      have e3 : totD (fun p => hits p a ((k : Int) - 1)) yes (dayD r0 L o v i (arr i)) = tot (fun p => hits p a ((k : Int) - 1)) (stk r0 L o i (arr i)) := dp
      rw [e3, e2]
      exact U
    · have U := R.U a ha i (Nat.le_refl _)
      rw [old] at U
      have lf := low fam a R.C
      have la : sa (fun x => tot (fun p => hits p a ((i + 1 : Nat) - 1 : Int)) (arr (i + 1 + x))) (n - (i + 1)) = sa (fun x => tot (fun p => hits p a ((i : Int) - 1)) (arr (i + 1 + x))) (n - (i + 1)) := sa_ext fun x _ => low _ a (R.A _)
      rw [lf, la]
      by_cases h : a ≤ (i : Int)
      · have e1 : totD (fun p => hits (p ++ [(i : Int)]) a ((i + 1 : Nat) - 1 : Int)) yes (dayD r0 L o v i (arr i)) = totD all' yes (dayD r0 L o v i (arr i)) := by
          rw [totD_vsum, totD_vsum]
          refine vsum_ext fun q _ => ?_
          rw [show ((i + 1 : Nat) - 1 : Int) = (i : Int) by omega, hits_snoc_at h]
          rfl
        have dp := deal_pat all' sp dn (by rw [dm, sup])
        have e3 : totD all' yes (dayD r0 L o v i (arr i)) = r0 i := dp.trans sup
        have b := R.B i (Nat.le_refl _) a ha
        have e4 : lsum (fun p => tow i p && (decide (a ≤ p.1) && decide (p.1 < (i : Int)))) L = lsum (fun p => tow i p && decide (a ≤ p.1)) L := lsum_ext fun p hp => by
          have o := hL.ok p hp
          unfold tow
          by_cases z : p.2.1 = (i : Int)
          · rw [decide_eq_true (show p.1 < (i : Int) by omega), Bool.and_true]
          · rw [decide_eq_false z, Bool.false_and, Bool.false_and]
        rw [e1, e3]
        show _ = UU r0 L a i + if a ≤ (i : Int) then r0 i - lsum (fun p => tow i p && decide (a ≤ p.1)) L else 0
        rw [if_pos h, ← e4, ← b]
        omega
      · have e1 : totD (fun p => hits (p ++ [(i : Int)]) a ((i + 1 : Nat) - 1 : Int)) yes (dayD r0 L o v i (arr i)) = 0 := by
          rw [totD_vsum]
          have : vsum (fun q => if hits (q.1 ++ [(i : Int)]) a ((i + 1 : Nat) - 1 : Int) && yes q.2.1 then q.2.2 else 0) (dayD r0 L o v i (arr i)) = vsum (fun _ => 0) (dayD r0 L o v i (arr i)) := vsum_ext fun q _ => by
            rw [hits_none (by omega)]
            rfl
          rw [this]
          generalize dayD r0 L o v i (arr i) = D
          induction D with
          | nil => rfl
          | cons q D ih =>
            rw [vsum_cons, ih]
            rfl
        have e2 : tot (fun p => hits p a ((i : Int) - 1)) (arr i) = 0 := tot_zero fun p _ => hits_none (by omega)
        rw [e1]
        show _ = UU r0 L a i + if a ≤ (i : Int) then r0 i - lsum (fun p => tow i p && decide (a ≤ p.1)) L else 0
        rw [if_neg h]
        omega
  · have hd : n - i = (n - (i + 1)) + 1 := by omega
    have l0 := R.len
    rw [hd, sa_head, sa_ext (g' := fun x => ((arr (i + 1 + x)).length : Int)) fun x _ => by rw [show i + (x + 1) = i + 1 + x by omega]] at l0
    have l1 : ((arr (i + 0)).length : Int) = ((arr i).length : Int) := rfl
    have p1 := vsum_part (fun _ => 1) (i + 1) (n - (i + 1)) (D := dayD r0 L o v i (arr i)) fun q hq => Rt.seg hO hL hi hq
    rw [← len_vsum] at p1
    have dl := deal_len (v i) (stk r0 L o i (arr i))
    rw [(hO.v i hi).length_eq] at dl
    have sl : (stk r0 L o i (arr i)).length ≤ (arr i).length + 1 := by
      unfold stk
      rw [List.length_reverse]
      refine Nat.le_trans (List.length_filter_le _ _) ?_
      rw [(hO.o _ _).length_eq, List.length_append]
      exact Nat.le_refl _
    have dl' : (dayD r0 L o v i (arr i)).length ≤ (stk r0 L o i (arr i)).length + ((ways L i).length + 1) := by
      rw [List.length_append] at dl
      exact dl
    have fl : ((L.filter fun p => decide (p.1 < ((i + 1 : Nat) : Int))).length : Int) = ((L.filter fun p => decide (p.1 < (i : Int))).length : Int) + ((ways L i).length : Int) := by
      unfold ways
      rw [List.length_map]
      clear hO hL R sup sp dm dn pat nA sn wn dnd nD off low l0 p1 dl sl dl'
      induction L with
      | nil => rfl
      | cons p L ih =>
        rw [List.filter_cons, List.filter_cons, List.filter_cons]
        unfold frm at ih ⊢
        by_cases y : p.1 = (i : Int)
        · rw [if_pos (decide_eq_true (show p.1 < ((i + 1 : Nat) : Int) by omega)), if_neg (by rw [decide_eq_false (show ¬ p.1 < (i : Int) by omega)]; exact Bool.false_ne_true), if_pos (decide_eq_true y), List.length_cons, List.length_cons]
          omega
        · by_cases y2 : p.1 < (i : Int)
          · rw [if_pos (decide_eq_true (show p.1 < ((i + 1 : Nat) : Int) by omega)), if_pos (decide_eq_true y2), if_neg (by rw [decide_eq_false y]; exact Bool.false_ne_true), List.length_cons, List.length_cons]
            omega
          · rw [if_neg (by rw [decide_eq_false (show ¬ p.1 < ((i + 1 : Nat) : Int) by omega)]; exact Bool.false_ne_true), if_neg (by rw [decide_eq_false y2]; exact Bool.false_ne_true), if_neg (by rw [decide_eq_false y]; exact Bool.false_ne_true)]
            omega
    rw [List.length_append]
    have e5 : sa (fun x => ((arr (i + 1 + x) ++ stA (dayD r0 L o v i (arr i)) i (some (((i + 1 + x : Nat)) : Int))).length : Int)) (n - (i + 1)) = sa (fun x => ((arr (i + 1 + x)).length : Int)) (n - (i + 1)) + sa (fun x => vsum (fun q => if q.2.1 = some (((i + 1 + x : Nat)) : Int) then 1 else 0) (dayD r0 L o v i (arr i))) (n - (i + 1)) := by
      rw [← sa_add]
      refine sa_ext fun x _ => ?_
      rw [List.length_append, Int.natCast_add, len_stA]
    have e6 := len_stA i none (dayD r0 L o v i (arr i))
    rw [e5, Int.natCast_add, e6]
    omega
theorem route_ok (hO : Ord n r0 L o v) (hL : Links n r0 L) : ∀ i, i ≤ n → Rt n r0 L i (route r0 L o v i).1 (route r0 L o v i).2
  | 0, _ => rt_zero n r0 L fun p hp => (hL.ok p hp).1
  | i + 1, h => (route_ok hO hL i (by omega)).step hO hL (by omega)
end
end Fa

/-! joins of days a0 + i with days a0 + w + j, i up to j, each as great as it can be, so many together -/
namespace Fa
open PySem PySem.Spec PyProof.Rows L2
def mn2 (x y : Int) : Int := if y < x then y else x
def mn3 (x y z : Int) : Int := mn2 (mn2 x y) z
abbrev JSt : Type := (Nat → Int) × Int × Int × List Tri
def jstep (a0 w j i : Nat) (s : JSt) : JSt := if mn3 (s.1 i) s.2.1 s.2.2.1 > 0 then (fun x => if x = i then s.1 i - mn3 (s.1 i) s.2.1 s.2.2.1 else s.1 x, s.2.1 - mn3 (s.1 i) s.2.1 s.2.2.1, s.2.2.1 - mn3 (s.1 i) s.2.1 s.2.2.1, s.2.2.2 ++ [(((a0 + i : Nat) : Int), ((a0 + w + j : Nat) : Int), mn3 (s.1 i) s.2.1 s.2.2.1)]) else s
def jin (a0 w j : Nat) (s : JSt) : Nat → JSt
  | 0 => s
  | i + 1 => jstep a0 w j i (jin a0 w j s i)
def jout (a0 w : Nat) (f : Nat → Int) (A : Nat → Int) (t : Int) : Nat → (Nat → Int) × Int × List Tri
  | 0 => (A, t, [])
  | j + 1 => ((jin a0 w j ((jout a0 w f A t j).1, f j, (jout a0 w f A t j).2.1, (jout a0 w f A t j).2.2) (j + 1)).1, (jin a0 w j ((jout a0 w f A t j).1, f j, (jout a0 w f A t j).2.1, (jout a0 w f A t j).2.2) (j + 1)).2.2.1, (jin a0 w j ((jout a0 w f A t j).1, f j, (jout a0 w f A t j).2.1, (jout a0 w f A t j).2.2) (j + 1)).2.2.2)
def anyT (_ : Tri) : Bool := true
theorem mn3_bd {x y z : Int} (h : mn3 x y z > 0) : mn3 x y z ≤ x ∧ mn3 x y z ≤ y ∧ mn3 x y z ≤ z := by
  unfold mn3 mn2 at *
  split <;> split <;> omega
theorem mn3_zero {x y z : Int} (h : ¬ mn3 x y z > 0) (x0 : 0 ≤ x) (y0 : 0 ≤ y) (z0 : 0 ≤ z) : x = 0 ∨ y = 0 ∨ z = 0 := by
  unfold mn3 mn2 at h
  split at h <;> split at h <;> omega
/-- within a day j: what holds behind i steps -/
structure JIn (a0 w j : Nat) (s0 : JSt) (i : Nat) (s : JSt) : Prop where
  A0 : ∀ x, 0 ≤ s.1 x
  f0 : 0 ≤ s.2.1
  l0 : 0 ≤ s.2.2.1
  later : ∀ x, i ≤ x → s.1 x = s0.1 x
  sums : sa s.1 i + (s0.2.1 - s.2.1) = sa s0.1 i
  left : s.2.2.1 + (s0.2.1 - s.2.1) = s0.2.2.1
  le : s.2.1 ≤ s0.2.1
  full : sa s.1 i = 0 ∨ s.2.1 = 0 ∨ s.2.2.1 = 0
  tot : lsum anyT s.2.2.2 = lsum anyT s0.2.2.2 + (s0.2.1 - s.2.1)
  to : ∀ b, lsum (tow b) s.2.2.2 = lsum (tow b) s0.2.2.2 + if b = a0 + w + j then s0.2.1 - s.2.1 else 0
  fr : ∀ x, lsum (frm (a0 + x)) s.2.2.2 + s.1 x = lsum (frm (a0 + x)) s0.2.2.2 + s0.1 x
  out : ∀ b, b < a0 → lsum (frm b) s.2.2.2 = lsum (frm b) s0.2.2.2
  mem : ∀ p ∈ s.2.2.2, p ∈ s0.2.2.2 ∨ ∃ x m, x < i ∧ 1 ≤ m ∧ p = (((a0 + x : Nat) : Int), ((a0 + w + j : Nat) : Int), m)
  nd : (s.2.2.2.map fun p => (p.1, p.2.1)).Nodup
  len : s.2.2.2.length ≤ s0.2.2.2.length + i
theorem sa_upd {g : Nat → Int} {i : Nat} {v : Int} : ∀ {k : Nat}, k ≤ i → sa (fun x => if x = i then v else g x) k = sa g k
  | 0, _ => rfl
  | k + 1, h => by
    show sa (fun x => if x = i then v else g x) k + (if k = i then v else g k) = sa g k + g k
    rw [sa_upd (k := k) (by omega), if_neg (by omega)]
theorem jin_ok {a0 w j : Nat} {s0 : JSt} (A0 : ∀ x, 0 ≤ s0.1 x) (f0 : 0 ≤ s0.2.1) (l0 : 0 ≤ s0.2.2.1) (nd : (s0.2.2.2.map fun p => (p.1, p.2.1)).Nodup) (fresh : ∀ p ∈ s0.2.2.2, p.2.1 ≠ ((a0 + w + j : Nat) : Int)) : ∀ i, JIn a0 w j s0 i (jin a0 w j s0 i)
  | 0 => ⟨A0, f0, l0, fun _ _ => rfl, by show (0 : Int) + (s0.2.1 - s0.2.1) = 0; omega, by show s0.2.2.1 + (s0.2.1 - s0.2.1) = _; omega, Int.le_refl _, .inl rfl, by show lsum anyT s0.2.2.2 = lsum anyT s0.2.2.2 + (s0.2.1 - s0.2.1); omega, fun b => by
      show lsum (tow b) s0.2.2.2 = lsum (tow b) s0.2.2.2 + if b = a0 + w + j then s0.2.1 - s0.2.1 else 0
      split <;> omega, fun x => rfl, fun _ _ => rfl, fun p hp => .inl hp, nd, Nat.le_refl _⟩
  | i + 1 => by
    have h := jin_ok A0 f0 l0 nd fresh i
    show JIn a0 w j s0 (i + 1) (jstep a0 w j i (jin a0 w j s0 i))
    generalize jin a0 w j s0 i = s at h ⊢
    obtain ⟨A, fr, lf, J⟩ := s
    unfold jstep
    by_cases c : mn3 (A i) fr lf > 0
    · rw [if_pos c]
      have bd := mn3_bd c
      dsimp only
      obtain ⟨mm, em⟩ : ∃ mm : Int, mm = mn3 (A i) fr lf := ⟨_, rfl⟩
      rw [← em] at c bd ⊢
      have hA := h.A0
      have hsum := h.sums
      have hleft := h.left
      have hle := h.le
      have htot := h.tot
      have hf := h.f0
      have hl := h.l0
      dsimp only at hA hsum hleft hle htot hf hl
      have Ai : A i = s0.1 i := h.later i (Nat.le_refl _)
      have one : ∀ P : Tri → Bool, lsum P (J ++ [(((a0 + i : Nat) : Int), ((a0 + w + j : Nat) : Int), mm)]) = lsum P J + if P (((a0 + i : Nat) : Int), ((a0 + w + j : Nat) : Int), mm) then mm else 0 := fun P => by
        rw [lsum_app, lsum_cons]
        show lsum P J + ((if P _ then mm else 0) + 0) = _
        omega
      refine ⟨fun x => ?_, by show 0 ≤ fr - mm; omega, by show 0 ≤ lf - mm; omega, fun x hx => ?_, ?_, by show lf - mm + (s0.2.1 - (fr - mm)) = _; omega, by show fr - mm ≤ _; omega, ?_, ?_, fun b => ?_, fun x => ?_, fun b hb => ?_, fun p hp => ?_, ?_, ?_⟩
      · show 0 ≤ if x = i then A i - mm else A x
        split
        · omega
        · exact hA x
      · show (if x = i then A i - mm else A x) = _
        rw [if_neg (by omega)]
        exact h.later x (by omega)
      · show sa (fun x => if x = i then A i - mm else A x) i + (if i = i then A i - mm else A i) + (s0.2.1 - (fr - mm)) = sa s0.1 i + s0.1 i
        rw [sa_upd (Nat.le_refl _), if_pos rfl]
        omega
      · show sa (fun x => if x = i then A i - mm else A x) i + (if i = i then A i - mm else A i) = 0 ∨ fr - mm = 0 ∨ lf - mm = 0
        rw [sa_upd (Nat.le_refl _), if_pos rfl]
        have hfull := h.full
        dsimp only at hfull
        have e3 : mm = A i ∨ mm = fr ∨ mm = lf := by
          rw [em]
          unfold mn3 mn2
          split <;> split <;> omega
        have := h.full
        omega
      · show lsum anyT (J ++ _) = _ + (s0.2.1 - (fr - mm))
        rw [one, htot]
        show _ + mm = _
        omega
      · show lsum (tow b) (J ++ _) = _ + if b = a0 + w + j then s0.2.1 - (fr - mm) else 0
        have := h.to b
        dsimp only at this
        rw [one, this]
        unfold tow
        by_cases z : b = a0 + w + j
        · rw [if_pos z, if_pos z, if_pos (decide_eq_true (by show ((a0 + w + j : Nat) : Int) = (b : Int); omega))]
          omega
        · rw [if_neg z, if_neg z, if_neg (by rw [decide_eq_false (by show ¬ ((a0 + w + j : Nat) : Int) = (b : Int); omega)]; exact Bool.false_ne_true)]
          omega
      · show lsum (frm (a0 + x)) (J ++ _) + (if x = i then A i - mm else A x) = _
        have := h.fr x
        dsimp only at this
        rw [one]
        unfold frm at this ⊢
        by_cases z : x = i
        · subst z
          rw [if_pos rfl, if_pos (decide_eq_true rfl)]
          omega
        · rw [if_neg z, if_neg (by rw [decide_eq_false (by show ¬ ((a0 + i : Nat) : Int) = ((a0 + x : Nat) : Int); omega)]; exact Bool.false_ne_true)]
          omega
      · show lsum (frm b) (J ++ _) = _
        have := h.out b hb
        dsimp only at this
        rw [one, this]
        unfold frm
        rw [if_neg (by rw [decide_eq_false (by show ¬ ((a0 + i : Nat) : Int) = (b : Int); omega)]; exact Bool.false_ne_true)]
        omega
      · rcases List.mem_append.mp hp with z | z
        · rcases h.mem p z with y | ⟨x, m, hx, hm, e⟩
          · exact .inl y
          · exact .inr ⟨x, m, by omega, hm, e⟩
        · exact .inr ⟨i, mm, by omega, by omega, List.mem_singleton.mp z⟩
      · show ((J ++ _).map fun p => (p.1, p.2.1)).Nodup
        rw [List.map_append, List.nodup_append]
        refine ⟨h.nd, List.pairwise_singleton _ _, fun x hx y hy z => ?_⟩
        obtain ⟨p, hp, rfl⟩ := List.mem_map.mp hx
        rw [List.mem_singleton.mp hy] at z
        obtain ⟨z1, z2⟩ := Prod.mk.inj z
        rcases h.mem p hp with y | ⟨x, m, hx, _, e⟩
        · exact fresh p y z2
        · rw [e] at z1
          have z1 : ((a0 + x : Nat) : Int) = ((a0 + i : Nat) : Int) := z1
          omega
      · show (J ++ _).length ≤ _
        have := h.len
        dsimp only at this
        rw [List.length_append]
        show J.length + 1 ≤ _
        omega
    · rw [if_neg c]
      have hA := h.A0
      have hz := mn3_zero c (hA i) h.f0 h.l0
      have hfull := h.full
      have hsum := h.sums
      have Ai : A i = s0.1 i := h.later i (Nat.le_refl _)
      dsimp only at hA hz hfull hsum
      refine ⟨h.A0, h.f0, h.l0, fun x hx => h.later x (by omega), ?_, h.left, h.le, ?_, h.tot, h.to, h.fr, h.out, fun p hp => ?_, h.nd, by have := h.len; omega⟩
      · show sa A i + A i + (s0.2.1 - fr) = sa s0.1 i + s0.1 i
        omega
      · show sa A i + A i = 0 ∨ fr = 0 ∨ lf = 0
        omega
      · rcases h.mem p hp with y | ⟨x, m, hx, hm, e⟩
        · exact .inl y
        · exact .inr ⟨x, m, by omega, hm, e⟩
/-- behind j days -/
structure JOut (a0 w : Nat) (a f : Nat → Int) (t : Int) (j : Nat) (s : (Nat → Int) × Int × List Tri) : Prop where
  A0 : ∀ x, 0 ≤ s.1 x
  l0 : 0 ≤ s.2.1
  later : ∀ x, j ≤ x → s.1 x = a x
  sums : sa s.1 j + (t - s.2.1) = sa a j
  tot : lsum anyT s.2.2 = t - s.2.1
  grd : t - s.2.1 = mn2 t (grd a f j).2
  to : ∀ b, lsum (tow b) s.2.2 ≤ if a0 + w ≤ b ∧ b < a0 + w + j then f (b - (a0 + w)) else 0
  fr : ∀ x, lsum (frm (a0 + x)) s.2.2 + s.1 x = a x
  out : ∀ b, b < a0 → lsum (frm b) s.2.2 = 0
  mem : ∀ p ∈ s.2.2, ∃ x y m, x ≤ y ∧ y < j ∧ 1 ≤ m ∧ p = (((a0 + x : Nat) : Int), ((a0 + w + y : Nat) : Int), m)
  nd : (s.2.2.map fun p => (p.1, p.2.1)).Nodup
  len : s.2.2.length ≤ j * j
theorem jout_ok {a0 w : Nat} {a f : Nat → Int} {t : Int} (ha : ∀ x, 0 ≤ a x) (hf : ∀ x, 0 ≤ f x) (t0 : 0 ≤ t) : ∀ j, JOut a0 w a f t j (jout a0 w f a t j)
  | 0 => by
    refine ⟨ha, t0, fun _ _ => rfl, by show (0 : Int) + (t - t) = 0; omega, by show (0 : Int) = t - t; omega, ?_, fun b => ?_, fun x => by show (0 : Int) + a x = a x; omega, fun _ _ => rfl, fun _ z => (nomatch z), List.nodup_nil, Nat.le_refl _⟩
    · show t - t = mn2 t 0
      unfold mn2
      split <;> omega
    · show (0 : Int) ≤ _
      split
      · exact hf _
      · exact Int.le_refl _
  | j + 1 => by
    have h := jout_ok (a0 := a0) (w := w) ha hf t0 j
    show JOut a0 w a f t (j + 1) ((jin a0 w j ((jout a0 w f a t j).1, f j, (jout a0 w f a t j).2.1, (jout a0 w f a t j).2.2) (j + 1)).1, (jin a0 w j ((jout a0 w f a t j).1, f j, (jout a0 w f a t j).2.1, (jout a0 w f a t j).2.2) (j + 1)).2.2.1, (jin a0 w j ((jout a0 w f a t j).1, f j, (jout a0 w f a t j).2.1, (jout a0 w f a t j).2.2) (j + 1)).2.2.2)
    generalize jout a0 w f a t j = s at h ⊢
    obtain ⟨A, lf, J⟩ := s
    have I := jin_ok (a0 := a0) (w := w) (j := j) (s0 := (A, f j, lf, J)) h.A0 (hf j) h.l0 h.nd (fun p hp z => by
      obtain ⟨x, y, m, _, hy, _, e⟩ := h.mem p hp
      rw [e] at z
      have z : ((a0 + w + y : Nat) : Int) = ((a0 + w + j : Nat) : Int) := z
      omega) (j + 1)
    show JOut a0 w a f t (j + 1) ((jin a0 w j (A, f j, lf, J) (j + 1)).1, (jin a0 w j (A, f j, lf, J) (j + 1)).2.2.1, (jin a0 w j (A, f j, lf, J) (j + 1)).2.2.2)
    generalize jin a0 w j (A, f j, lf, J) (j + 1) = r at I ⊢
    obtain ⟨A', fr', lf', J'⟩ := r
    have i1 := I.sums
    have i2 := I.left
    have i3 := I.tot
    have i4 := I.full
    have i5 := I.le
    have i6 := I.A0
    have i7 := I.f0
    have i8 := I.l0
    have o1 := h.sums
    have o2 := h.tot
    have o3 := h.grd
    have o4 := h.later
    dsimp only at i1 i2 i3 i4 i5 i6 i7 i8 o1 o2 o3 o4
    have i1 : sa A' (j + 1) + (f j - fr') = sa A j + A j := i1
    have Aj : A j = a j := o4 j (Nat.le_refl _)
    have gs := grd_sum a f j
    refine ⟨i6, i8, fun x hx => (I.later x hx).trans (o4 x (by omega)), ?_, ?_, ?_, fun b => ?_, fun x => ?_, fun b hb => ?_, fun p hp => ?_, I.nd, ?_⟩
    · show sa A' (j + 1) + (t - lf') = sa a j + a j
      omega
    · show lsum anyT J' = t - lf'
      omega
    · show t - lf' = mn2 t ((Fa.grd a f j).2 + (if f j < (Fa.grd a f j).1 + a j then f j else (Fa.grd a f j).1 + a j))
      have sA := sa_nonneg (g := A') (n := j + 1) fun x _ => i6 x
      have sB := sa_nonneg (g := A) (n := j) fun x _ => h.A0 x
      have aj := ha j
      have fj := hf j
      unfold mn2 at o3 ⊢
      split at o3 <;> split <;> split <;> omega
    · show lsum (tow b) J' ≤ _
      have a1 := I.to b
      have a2 := h.to b
      dsimp only at a1 a2
      rw [a1]
      by_cases z : b = a0 + w + j
      · subst z
        rw [if_neg (by omega)] at a2
        rw [if_pos rfl, if_pos (by omega), show a0 + w + j - (a0 + w) = j by omega]
        omega
      · rw [if_neg z]
        by_cases y : a0 + w ≤ b ∧ b < a0 + w + j
        · rw [if_pos y] at a2
          rw [if_pos (by omega)]
          omega
        · rw [if_neg y] at a2
          rw [if_neg (by omega)]
          omega
    · have a1 := I.fr x
      have a2 := h.fr x
      dsimp only at a1 a2
      show lsum (frm (a0 + x)) J' + A' x = a x
      omega
    · exact (I.out b hb).trans (h.out b hb)
    · rcases I.mem p hp with z | ⟨x, m, hx, hm, e⟩
      · obtain ⟨x, y, m, h1, h2, h3, e⟩ := h.mem p z
        exact ⟨x, y, m, h1, by omega, h3, e⟩
      · exact ⟨x, j, m, by omega, by omega, hm, e⟩
    · have a1 := I.len
      have a2 := h.len
      dsimp only at a1 a2
      show J'.length ≤ (j + 1) * (j + 1)
      have : (j + 1) * (j + 1) = j * j + 2 * j + 1 := by
        rw [Nat.add_mul, Nat.mul_add]
        omega
      omega
end Fa

/-! min of a list of pairs of numbers; comprehensions of numbers; small calls -/
namespace Fa
open PySem PySem.Spec PyProof.Rows L2
abbrev Two : Type := Int × Int
def TwoAt (H : Hp) (x : V) (p : Two) : Prop := ∃ t, x = .ref t ∧ H t = some (.tup [.int p.1, .int p.2])
/-- at most, first item first -/
def le2 (p q : Two) : Prop := p.1 < q.1 ∨ (p.1 = q.1 ∧ p.2 ≤ q.2)
theorem lt2_iff (p q : Two) : PySem.W.DatumOrd.lt p q = true ↔ p.1 < q.1 ∨ (p.1 = q.1 ∧ p.2 < q.2) := by
  show (if p.1 = q.1 then decide (p.2 < q.2) else decide (p.1 < q.1)) = true ↔ _
  by_cases h : p.1 = q.1
  · rw [if_pos h]
    constructor
    · intro z
      exact .inr ⟨h, of_decide_eq_true z⟩
    · intro z
      rcases z with z | z
      · omega
      · exact decide_eq_true z.2
  · rw [if_neg h]
    constructor
    · intro z
      exact .inl (of_decide_eq_true z)
    · intro z
      rcases z with z | z
      · exact decide_eq_true z
      · exact absurd z.1 h
theorem min2_le : ∀ (xs : List Two) (x : Two), (∀ y ∈ x :: xs, le2 (PySem.W.minOf x xs) y) ∧ PySem.W.minOf x xs ∈ x :: xs
  | [], x => ⟨fun y hy => by
      rw [List.mem_singleton.mp hy]
      exact .inr ⟨rfl, Int.le_refl _⟩, List.mem_cons_self⟩
  | z :: xs, x => by
    show (∀ y ∈ x :: z :: xs, le2 (PySem.W.minOf (if PySem.W.DatumOrd.lt z x = true then z else x) xs) y) ∧ PySem.W.minOf (if PySem.W.DatumOrd.lt z x = true then z else x) xs ∈ x :: z :: xs
    by_cases c : PySem.W.DatumOrd.lt z x = true
    · rw [if_pos c]
      obtain ⟨h1, h2⟩ := min2_le xs z
      refine ⟨fun y hy => ?_, List.mem_cons_of_mem _ h2⟩
      rcases List.mem_cons.mp hy with rfl | hy
      · have a := h1 z List.mem_cons_self
        have b := (lt2_iff z y).mp c
        unfold le2 at a ⊢
        omega
      · exact h1 y hy
    · rw [if_neg c]
      obtain ⟨h1, h2⟩ := min2_le xs x
      refine ⟨fun y hy => ?_, ?_⟩
      · rcases List.mem_cons.mp hy with rfl | hy
        · exact h1 y List.mem_cons_self
        · rcases List.mem_cons.mp hy with rfl | hy
          · have a := h1 x List.mem_cons_self
            have b : ¬ (y.1 < x.1 ∨ (y.1 = x.1 ∧ y.2 < x.2)) := fun z => c ((lt2_iff y x).mpr z)
            unfold le2 at a ⊢
            omega
          · exact h1 y (List.mem_cons_of_mem _ hy)
      · rcases List.mem_cons.mp h2 with e | e
        · rw [e]
          exact List.mem_cons_self
        · exact List.mem_cons_of_mem _ (List.mem_cons_of_mem _ e)
theorem twos_dp {K : PySem.W.Frag} {H : Hp} : ∀ {xs : List V} {ps : List Two}, Paired (TwoAt H) xs ps → DpAll K H xs (ps.map PySem.W.Datum.toD)
  | _, _, .nil => .nil
  | _, _, .cons ⟨t, e, h⟩ r => by
    subst e
    exact .cons (.tup (.inl (.inl h)) (.cons (.int _) (.cons (.int _) .nil))) (twos_dp r)
/-- min(l), l a list of pairs of numbers: the least one itself -/
def rMinP (K : PySem.W.Frag) : List V → Hp → VK → Prop := fun vs H Q => ∃ (a : Addr) (xs : List V) (ps : List Two), vs = [.ref a] ∧ SqL K H a xs ∧ Paired (TwoAt H) xs ps ∧ ps ≠ [] ∧
  ∀ x m, TwoAt H x m → m ∈ ps → (∀ y ∈ ps, le2 m y) → Q x H
theorem cr_minP {X : Cx} (hc : X.calm = true) (hu : X.A.units + 64 < cLine) : CallR X (.builtin "min") (rMinP X.K) := by
  intro pins s σ H vs us Q I r h
  obtain ⟨a, xs, ps, rfl, hs, hP, ne, q⟩ := h
  obtain ⟨its, rv, hl, hz⟩ := I.list hs
  obtain ⟨u, rfl, ru⟩ := vals1 r
  obtain rfl : u = Value.ref a := ru
  obtain ⟨as, hr⟩ := Dp.readsAll I _ xs its (twos_dp hP) rv
  cases ps with
  | nil => exact absurd rfl ne
  | cons p ps =>
    refine PySem.W.min_list_datum (α := Two) (x := p) (xs := ps) (I.ok.hd hc) hl.isList (by rw [List.toList_toArray]; exact ⟨as, hr⟩) ?_ fun i v h' tk hi hv hk => ?_
    · show X.A.units + 1 + 1 < cLine
      omega
    · have hi' : its[i]? = some v := by
        rw [← hi]
        simp
      have hil : i < its.length := (List.getElem?_eq_some_iff.mp hi').1
      have hx : i < xs.length := by rw [rv.length]; exact hil
      have ex : xs[i]? = some xs[i] := List.getElem?_eq_getElem hx
      obtain ⟨m, em, tm⟩ := paired_at hP ex
      obtain ⟨u2, e2, rx⟩ := rv.get ex
      rw [hi'] at e2
      cases e2
      -- what v holds is the pair at its place
      have I2 := I.kept (t' := tk) hk
      have same : m = PySem.W.minOf p ps := by
        obtain ⟨t, et, ht⟩ := tm
        obtain ⟨b1, r1⟩ := Dp.reads I2 (PySem.W.Datum.toD m) xs[i] v (by rw [et]; exact .tup (.inl (.inl ht)) (.cons (.int _) (.cons (.int _) .nil))) rx
        obtain ⟨b2, r2⟩ := hv
        have e3 := (PySem.SeqAt.readOf_eq rfl r1).symm.trans (PySem.SeqAt.readOf_eq rfl r2)
        have e4 := List.cons.inj (PyData.tuple.inj e3)
        exact Prod.ext (PyData.int.inj e4.1) (PyData.int.inj (List.cons.inj e4.2).1)
      exact ⟨xs[i], H, I2, rx, q _ m tm (List.mem_of_getElem? em) (by rw [same]; exact (min2_le ps p).1)⟩
section
variable (K : PySem.W.Frag) {X : Cx}
theorem minPQ (hc : X.calm = true) (hu : X.A.units + 64 < cLine) (h : X.K = K := by rfl) : CallR X (.builtin "min") (rMinP K) := h ▸ cr_minP hc hu
theorem minQ (hc : X.calm = true) (h : X.K = K := by rfl) : CallR X (.builtin "min") (rMin K) := h ▸ cr_min hc
theorem sumQ (hc : X.calm = true) (h : X.K = K := by rfl) : CallR X (.builtin "sum") (rSum K) := h ▸ cr_sum hc
theorem sortIQ (h : X.K = K := by rfl) : CallR X (.builtin "sorted") (rSorted K) := h ▸ cr_sorted
theorem idxQ (h : X.K = K := by rfl) : MtR X "list.index" (rIndex K) := h ▸ mt_index
end
theorem b_sum : bootBuiltins "sum" = some (.builtin "sum") := by decide +kernel
theorem b_min : bootBuiltins "min" = some (.builtin "min") := by decide +kernel
theorem b_sorted : bootBuiltins "sorted" = some (.builtin "sorted") := by decide +kernel
/-! numbers below 2^200 in size, shown -/
def NumW (x : Int) : Prop := x.natAbs < 2 ^ 200
structure ShoW (wt : Nat) (d : PyData) : Prop where
  sh : PyData.showable d = true
  nd : PyData.hasDict d = false
  lf : PyData.leavesShort 201 d = true
  wt : PyData.weight d ≤ wt
theorem shoW_int {x : Int} (h : NumW x) : ShoW 200 (.int x) := by
  have l : x.natAbs.log2 < 200 := by
    by_cases z : x.natAbs = 0
    · rw [z]
      decide
    · rw [Nat.log2_lt z]
      exact h
  refine ⟨decide_eq_true (by omega), rfl, decide_eq_true ?_, ?_⟩
  · show (Str.ofString (toString x)).length ≤ 201
    rw [PySem.ofString_length]
    exact int_text_length_le (by decide) l
  · show (if x == 0 then 0 else x.natAbs.log2 + 1) ≤ 200
    split <;> omega
theorem shoW_all {wt : Nat} : ∀ {ds : List PyData}, (∀ d ∈ ds, ShoW wt d) → PyData.showableAll ds = true ∧ PyData.hasDictAll ds = false ∧ PyData.leavesShortAll 201 ds = true ∧ PyData.weightAll ds ≤ (wt + 1) * ds.length
  | [], _ => ⟨rfl, rfl, rfl, Nat.zero_le _⟩
  | d :: ds, h => by
    obtain ⟨a, b, c, e⟩ := h d List.mem_cons_self
    obtain ⟨a', b', c', e'⟩ := shoW_all fun x hx => h x (List.mem_cons_of_mem _ hx)
    refine ⟨?_, ?_, ?_, ?_⟩
    · show (PyData.showable d && PyData.showableAll ds) = true
      rw [a, a']
      rfl
    · show (PyData.hasDict d || PyData.hasDictAll ds) = false
      rw [b, b']
      rfl
    · show (PyData.leavesShort 201 d && PyData.leavesShortAll 201 ds) = true
      rw [c, c']
      rfl
    · show PyData.weight d + 1 + PyData.weightAll ds ≤ (wt + 1) * (ds.length + 1)
      rw [Nat.mul_add]
      omega
theorem shoW_tuple {wt n : Nat} {ds : List PyData} (h : ∀ d ∈ ds, ShoW wt d) (l : ds.length ≤ n) : ShoW ((wt + 1) * n) (.tuple ds) := by
  obtain ⟨a, b, c, e⟩ := shoW_all h
  exact ⟨a, b, c, Nat.le_trans e (Nat.mul_le_mul_left _ l)⟩
theorem shoW_list {wt n : Nat} {ds : List PyData} (h : ∀ d ∈ ds, ShoW wt d) (l : ds.length ≤ n) : ShoW ((wt + 1) * n) (.list ds) := by
  obtain ⟨a, b, c, e⟩ := shoW_all h
  exact ⟨a, b, c, Nat.le_trans e (Nat.mul_le_mul_left _ l)⟩
theorem shoW_len {wt : Nat} {d : PyData} (h : ShoW wt d) (l : 203 * wt + 201 ≤ sizeLine) : d.shown.length ≤ sizeLine := by
  have a := PyData.shown_le 201 (by decide) d h.lf
  have b : 203 * d.weight ≤ 203 * wt := Nat.mul_le_mul_left _ h.wt
  omega
def twoD (p : Two) : PyData := .tuple [.int p.1, .int p.2]
theorem two_dp {K : PySem.W.Frag} {H : Hp} {t : Addr} {p : Two} (h : H t = some (.tup [.int p.1, .int p.2])) : Dp K H (.ref t) (twoD p) := .tup (.inl (.inl h)) (.cons (.int _) (.cons (.int _) .nil))
theorem shoW_two {p : Two} (h1 : NumW p.1) (h2 : NumW p.2) : ShoW ((200 + 1) * 2) (twoD p) := shoW_tuple (fun e he => by
  simp only [List.mem_cons, List.not_mem_nil, or_false] at he
  rcases he with rfl | rfl
  · exact shoW_int h1
  · exact shoW_int h2) (by show 2 ≤ 2; decide)
theorem two_line : 203 * ((200 + 1) * 2) + 201 ≤ sizeLine := by
  rw [sizeLine_eq]
  decide
theorem two_repr {K : PySem.W.Frag} {H : Hp} {t : Addr} {p : Two} {Q : VK} (h : H t = some (.tup [.int p.1, .int p.2])) (h1 : NumW p.1) (h2 : NumW p.2) (q : Q (.str (twoD p).shown) H) : rRepr K [.ref t] H Q :=
  ⟨t, twoD p, rfl, two_dp h, by show 1 ≤ 64; decide, (shoW_two h1 h2).sh, (shoW_two h1 h2).nd, shoW_len (shoW_two h1 h2) two_line, q⟩
/-- the numbers of v, made one after another -/
def nums (v : Nat → Int) (n : Nat) : List Int := (List.range n).map v
theorem nums_len (v : Nat → Int) (n : Nat) : (nums v n).length = n := by
  unfold nums
  rw [List.length_map, List.length_range]
theorem nums_succ (v : Nat → Int) (n : Nat) : nums v (n + 1) = nums v n ++ [v n] := by
  unfold nums
  rw [List.range_succ, List.map_append]
  rfl
/-- [e for x in range(..)] of numbers -/
theorem lc_rangeI {lo : Int} {n ix : Nat} {te : TE} {vs : List Nat} {σ : L2.St} {H0 H1 : Hp} {D : Addr} {Qd : Hp → Prop} (v : Nat → Int) (hn : n ≤ 900) (s0 : Same H0 H1) (nD : H1 D = none)
    (hs : ∀ (i : Nat) (H : Hp) (Qe : VK), i < n → Same H1 H → (∀ H4, Same H H4 → Qe (.int (v i)) H4) → wipe ((wipe σ vs).set ix (some (.int (lo + i)))) vs = wipe σ vs ∧ te ((wipe σ vs).set ix (some (.int (lo + i)))) H Qe)
    (hd : ∀ H, Same H0 H → H D = some (.lst ((nums v n).map V.int)) → Qd H) :
    ∃ W : Nat → Nat → Hp → Prop, (∃ m, W 0 m (upd H1 D (.lst []))) ∧ ∀ i m H, W i m H →
      ((Itr lo n).stop i H ∧ Qd H) ∨ ((Itr lo n).go i H ∧ ∃ Nx : Hp → Prop, (∀ H', Nx H' → ∃ m', m' < m ∧ W (i + 1) m' H') ∧ ∀ x H', (Itr lo n).yld i H x H' → gName ix x (wipe σ vs) H' fun σ2 H2 => wipe σ2 vs = wipe σ vs ∧ tYes σ2 H2 fun b H3 =>
        if b = true then te σ2 H3 fun y H4 => ∃ acc, H4 D = some (.lst acc) ∧ acc.length < sizeLine ∧ Nx (upd H4 D (.lst (acc ++ [y]))) else Nx H3) := by
  refine lc_range (fun i H => Same H1 H ∧ H D = some (.lst ((nums v i).map V.int))) ⟨same_new nD, upd_same⟩ ?_ fun H h => hd H (s0.trans h.1) h.2
  rintro i H hi ⟨s, e⟩
  have key := hs i H (fun y H4 => ∃ acc, H4 D = some (.lst acc) ∧ acc.length < sizeLine ∧ (Same H1 (upd H4 D (.lst (acc ++ [y]))) ∧ upd H4 D (.lst (acc ++ [y])) D = some (.lst ((nums v (i + 1)).map V.int)))) hi s ?_
  · exact ⟨key.1, yes_if key.2⟩
  · intro H4 s4
    refine ⟨_, s4 _ _ e, ?_, fun b o z => ?_, ?_⟩
    · rw [List.length_map, nums_len]
      exact small1000 (by omega)
    · rw [upd_ne (ne_of_none z nD)]
      exact s4 _ _ (s _ _ z)
    · rw [upd_same, nums_succ, List.map_append]
      rfl
end Fa

/-! dicts from days to numbers; min of three -/
namespace Fa
open PySem PySem.Spec PyProof.Rows L2
theorem nu_lt (x y : Int) : nuLt (.int x) (.int y) = some (decide (x < y)) := rfl
theorem nu_min2 (x y : Int) : nuMin2 (.int x) (.int y) = some (.int (mn2 x y)) := by
  unfold nuMin2 mn2
  rw [nu_lt]
  show some (if decide (y < x) = true then V.int y else V.int x) = _
  by_cases h : y < x
  · rw [if_pos h, if_pos (decide_eq_true h)]
  · rw [if_neg h, if_neg (fun z => h (of_decide_eq_true z))]
theorem nu_min3 (x y z : Int) : nuMin3 (.int x) (.int y) (.int z) = some (.int (mn3 x y z)) := by
  unfold nuMin3 mn3
  rw [nu_min2]
  exact nu_min2 _ _
def min3Q {X : Cx} (hc : X.calm = true) : CallR X (.builtin "min") (rNuC3 nuMin3) := call_min3Nu hc
theorem put_len {kvs : List (Key × V)} {k : Key} {v z : V} (h : valV kvs k = some z) : (putK kvs k v).length = kvs.length := by
  unfold putK
  rw [if_pos (by rw [valV_any, h]; rfl), List.length_map]
/-- a dict of numbers of days a + i, i < m -/
def NumD (a : Int) (g : Nat → Int) (m : Nat) (kvs : List (Key × V)) : Prop := kvs.length ≤ m ∧ ∀ i, i < m → valV kvs (.inl (a + (i : Int))) = some (.int (g i))
theorem NumD.grow {a : Int} {g : Nat → Int} {i : Nat} {kvs : List (Key × V)} (h : NumD a g i kvs) : NumD a g (i + 1) (putK kvs (.inl (a + (i : Int))) (.int (g i))) := by
  refine ⟨Nat.le_trans (length_putK _ _ _) (Nat.succ_le_succ h.1), fun j hj => ?_⟩
  rw [valV_put]
  by_cases e : j = i
  · subst e
    rw [if_pos rfl]
  · rw [if_neg (fun z => e (by have := Sum.inl.inj z; omega))]
    exact h.2 j (by omega)
theorem NumD.put {a : Int} {g : Nat → Int} {m i : Nat} {kvs : List (Key × V)} (h : NumD a g m kvs) (hi : i < m) (z : Int) : NumD a (fun x => if x = i then z else g x) m (putK kvs (.inl (a + (i : Int))) (.int z)) := by
  refine ⟨by rw [put_len (h.2 i hi)]; exact h.1, fun j hj => ?_⟩
  rw [valV_put]
  by_cases e : j = i
  · subst e
    rw [if_pos rfl]
    show _ = some (V.int (if j = j then z else g j))
    rw [if_pos rfl]
  · rw [if_neg (fun z => e (by have := Sum.inl.inj z; omega))]
    show _ = some (V.int (if j = i then z else g j))
    rw [if_neg e]
    exact h.2 j hj
theorem NumD.ext {a : Int} {g g' : Nat → Int} {m : Nat} {kvs : List (Key × V)} (h : NumD a g m kvs) (e : ∀ i, i < m → g i = g' i) : NumD a g' m kvs := ⟨h.1, fun i hi => by rw [h.2 i hi, e i hi]⟩
theorem dc_range {lo : Int} {n : Nat} {g : TG} {tt : TT} {tk tv : TE} {vs : List Nat} {σ : L2.St} {H1 : Hp} {D : Addr} {Qd : Hp → Prop} (Pv : Nat → Hp → Prop) (h0 : Pv 0 (upd H1 D (.dK [])))
    (hs : ∀ i H, i < n → Pv i H → g (.int (lo + i)) (wipe σ vs) H fun σ2 H2 => wipe σ2 vs = wipe σ vs ∧ tt σ2 H2 fun b H3 =>
      if b = true then tk σ2 H3 fun y H4 => tv σ2 H4 fun z H5 => ∃ kvs k, y = kV k ∧ H5 D = some (.dK kvs) ∧ kvs.length < sizeLine ∧ Pv (i + 1) (upd H5 D (.dK (putK kvs k z))) else Pv (i + 1) H3) (hd : ∀ H, Pv n H → Qd H) :
    ∃ W : Nat → Nat → Hp → Prop, (∃ m, W 0 m (upd H1 D (.dK []))) ∧ ∀ i m H, W i m H →
      ((Itr lo n).stop i H ∧ Qd H) ∨ ((Itr lo n).go i H ∧ ∃ Nx : Hp → Prop, (∀ H', Nx H' → ∃ m', m' < m ∧ W (i + 1) m' H') ∧ ∀ x H', (Itr lo n).yld i H x H' → g x (wipe σ vs) H' fun σ2 H2 => wipe σ2 vs = wipe σ vs ∧ tt σ2 H2 fun b H3 =>
        if b = true then tk σ2 H3 fun y H4 => tv σ2 H4 fun z H5 => ∃ kvs k, y = kV k ∧ H5 D = some (.dK kvs) ∧ kvs.length < sizeLine ∧ Nx (upd H5 D (.dK (putK kvs k z))) else Nx H3) := by
  refine ⟨fun i m H => m = n - i ∧ i ≤ n ∧ Pv i H, ⟨n, by simp, Nat.zero_le _, h0⟩, ?_⟩
  rintro i m H ⟨rfl, hi, p⟩
  by_cases c : i < n
  · refine .inr ⟨c, Pv (i + 1), fun H' p' => ⟨n - (i + 1), by omega, rfl, c, p'⟩, fun x H' y => ?_⟩
    obtain ⟨e, y⟩ := y
    subst e y
    exact hs i _ c p
  · obtain rfl : i = n := by omega
    exact .inl ⟨Nat.le_refl _, hd H p⟩
section
variable {X : Cx}
/-- name = {..: .. for ..} on one line, the name a local -/
theorem ps_setDc {i : Nat} {y : Str} {py : Pos} {kx vx tg iter : Expr} {ifs : List Expr} {scope : Scope} {own : List (Str × Nat)} {pos spos : Pos} {wi : TI} {g : TG} {tt : TT} {tk tv : TE} (hc : X.calm = true) (hN : X.N.Nodup) (hy : X.N[i]? = some y) (hyl : X.env.scope.names.lookup y = some .local)
    (hsw : swapsWith (.DictComp kx vx [⟨tg, iter, ifs, 0⟩] scope pos) (some (.Name y py)) spos.line X.env = pure true) (hi : PI X tg iter wi) (ok : BlkOk X.N X.env.scope scope own)
    (hg : ∀ (s : Shared) (H : Hp) (C : Addr) (cl : List (Str × Addr)) (fp : List Addr), PG (X.blk s H scope (compEnvC scope cl C X.env) fp) tg g) (ht : ∀ (s : Shared) (H : Hp) (C : Addr) (cl : List (Str × Addr)) (fp : List Addr), PTs (X.blk s H scope (compEnvC scope cl C X.env) fp) ifs tt)
    (hk : ∀ (s : Shared) (H : Hp) (C : Addr) (cl : List (Str × Addr)) (fp : List Addr), PE (X.blk s H scope (compEnvC scope cl C X.env) fp) kx tk)
    (he : ∀ (s : Shared) (H : Hp) (C : Addr) (cl : List (Str × Addr)) (fp : List Addr), PE (X.blk s H scope (compEnvC scope cl C X.env) fp) vx tv) (hs : ∀ x, foldedSetIterable iter X.env x = pure x := by intro _; rfl) :
    PS X (.Assign [.Name y py] (.DictComp kx vx [⟨tg, iter, ifs, 0⟩] scope pos) spos) (tAsg (tDc wi g tt tk tv (own.map (·.2))) (gName i)) := by
  refine ⟨fun pins s σ H D I h => ?_⟩
  rw [exec_Assign_Name_used _ _ _ _ hsw]
  refine wpAny_bind (wpAny_standAt (wpAny_bind ?_))
  show wpAny _ X.A (do let _ ← comprehension (.DictComp kx vx [⟨tg, iter, ifs, 0⟩] scope pos) scope X.env (firstIterPos [⟨tg, iter, ifs, 0⟩] pos) newDict false (eval iter X.env) (some (assign (.Name y py) X.env))) _ _ s
  have h : tDc wi g tt tk tv (own.map (·.2)) σ H (fun x H1 => gName i x σ H1 D.nx) := h
  refine wpAny_bind (thn (dc_core (Qf := fun _ s' => SP X pins D .next s') hc hN I hi ok hg ht hk he hs h fun L C s' m H' I' q hn f => ?_) fun _ s' hq => wpAny_pure (wpAny_pure hq))
  show wpAny _ _ (assign (.Name y py) X.env (.ref L)) _ _ _
  refine wpAny_assign_Name (store_ok2 (v := V.ref L) I' hN hy (.inl hyl) rfl (fun s2 I2 ⟨a, sb, ha⟩ => ?_) (.inr hyl))
  obtain ⟨f0, f1, f2, f3, f4, f5⟩ := f
  have haC : C ≠ a := by
    rcases ha with z | z
    · rw [z]
      exact f1
    · exact fun e => f4 y a z e.symm
  exact ⟨m, hn.sameBut sb haC, fun h3 sb3 => ⟨_, H', I2.turned (t' := s2.toks) (fun b o hb e => (sb3.2 b hb).trans e) f0 f1 f3 f4 f5, q⟩⟩
theorem sw_trueD {kx vx : Expr} {gs : List Comprehension} {scope : Scope} {pos py : Pos} {y : Str} {l : Nat} {env : Env} (hk : env.scope.kind = .function) (hy : env.scope.names.lookup y = some .local) (hl : (py.line == pos.line) = true)
    (ha : (scope.names.any fun (n, k) => n == y && (k == .local || k == .cell)) = false) : swapsWith (.DictComp kx vx gs scope pos) (some (.Name y py)) l env = pure true := by
  have ky : env.kindOf y = some .local := hy
  have hb : env.blockKind = .function := by
    unfold Env.blockKind
    rw [hk]
    rfl
  unfold swapsWith
  simp only [hb, ky, ha, Expr.pos, hl]
  rfl
end
end Fa

/-! dicts whose keys are tuples: made by a comprehension, walked by their items -/
namespace Fa
open PySem PySem.Spec PyProof.Rows L2
section
variable {X : Cx}
/-- a comprehension puts a value at a tuple -/
theorem putT {pins : List (Addr × Obj)} {σ : L2.St} {H : Hp} {s : Shared} {E : Value → Shared → Prop} {D b : Addr} {kvs : List (List Key × V)} {k : List Key} {v : V} {r : Value} {Q : Unit → Shared → Prop} (room : X.A.units < cLine)
    (I : Inv X pins σ H s) (eD : H D = some (.dT kvs)) (eb : H b = some (.tup (k.map kV))) (small : kvs.length < sizeLine) (rv : RelV v r)
    (fin : ∀ s', Inv X pins σ (upd H D (.dT (putK kvs k v))) s' → Q () s') : wpAny (model X.prog X.w) X.A (dictSet D (.ref b) r) Q E s := by
  obtain ⟨l1, hd, ents, kt, at_⟩ := dt_of I.hok eD
  have l2 : ents.length ≤ sizeLine := by
    rw [← Paired.length kt]
    exact l1
  have l3 : (putK kvs k v).length ≤ sizeLine := Nat.le_trans (length_putK kvs k v) small
  refine wpAny_dictSet_heap (hsz := l2) room (key_of I.hok eb) at_ fun h' new same => fin _ ?_
  obtain ⟨ob, es, ep, e1, e2, e3, e4, _, e5⟩ := new
  refine d_write I (by rw [eD]; trivial) same ⟨ob, e1⟩ ⟨l3, hd, _, (kt.put k eb rv).keeps fun c ys ec => ?_, ob, es, ep, e1, e2, e3, e4, e5⟩
  rw [upd_ne (ne_of ec eD fun z => nomatch z)]
  exact ec
/-- {(..): v for target in iter if ..}: D the new dict -/
def tDcT (wi : TI) (g : TG) (tt : TT) (tk tv : TE) (vs : List Nat) : TE := fun σ H Q => wi σ H fun J H1 => ∀ D, H1 D = none → ∃ W : Nat → Nat → Hp → Prop, (∃ m, W 0 m (upd H1 D (.dT []))) ∧ ∀ i m H, W i m H →
  (J.stop i H ∧ Q (.ref D) H) ∨ (J.go i H ∧ ∃ Nx : Hp → Prop, (∀ H', Nx H' → ∃ m', m' < m ∧ W (i + 1) m' H') ∧ ∀ x H', J.yld i H x H' → g x (wipe σ vs) H' fun σ2 H2 => wipe σ2 vs = wipe σ vs ∧ tt σ2 H2 fun b H3 =>
    if b = true then tk σ2 H3 fun y H4 => tv σ2 H4 fun z H5 => ∃ t kvs k, y = .ref t ∧ H5 t = some (.tup (k.map kV)) ∧ H5 D = some (.dT kvs) ∧ kvs.length < sizeLine ∧ Nx (upd H5 D (.dT (putK kvs k z))) else Nx H3)
theorem dcT_core {pins : List (Addr × Obj)} {s : Shared} {σ : L2.St} {H : Hp} {Q : VK} {kx vx tg iter : Expr} {ifs : List Expr} {scope : Scope} {own : List (Str × Nat)} {pos pos' : Pos} {wi : TI} {g : TG} {tt : TT} {tk tv : TE} {use : Option (Value → Sem Unit)} {Qf : Value → Shared → Prop}
    (room : X.A.units < cLine) (hc : X.calm = true) (hN : X.N.Nodup) (I : Inv X pins σ H s) (hi : PI X tg iter wi) (ok : BlkOk X.N X.env.scope scope own)
    (hg : ∀ (s : Shared) (H : Hp) (C : Addr) (cl : List (Str × Addr)) (fp : List Addr), PG (X.blk s H scope (compEnvC scope cl C X.env) fp) tg g)
    (ht : ∀ (s : Shared) (H : Hp) (C : Addr) (cl : List (Str × Addr)) (fp : List Addr), PTs (X.blk s H scope (compEnvC scope cl C X.env) fp) ifs tt)
    (hk : ∀ (s : Shared) (H : Hp) (C : Addr) (cl : List (Str × Addr)) (fp : List Addr), PE (X.blk s H scope (compEnvC scope cl C X.env) fp) kx tk)
    (he : ∀ (s : Shared) (H : Hp) (C : Addr) (cl : List (Str × Addr)) (fp : List Addr), PE (X.blk s H scope (compEnvC scope cl C X.env) fp) vx tv) (hs : ∀ x, foldedSetIterable iter X.env x = pure x)
    (h : tDcT wi g tt tk tv (own.map (·.2)) σ H Q)
    (last : ∀ D C s' m H', Inv X pins σ H' s' → Q (.ref D) H' → s'.heap.Ns C m → FpOk X pins H' C → compPost (model X.prog X.w) X.A X.xe use Qf (.ref D) C (.ok .next) s') :
    wpAny (model X.prog X.w) X.A (comprehension (.DictComp kx vx [⟨tg, iter, ifs, 0⟩] scope pos) scope X.env pos' newDict false (eval iter X.env) use) Qf X.xe s := by
  have caught : ∀ y ∈ scope.names, y.2 = .free → ∃ c, X.env.cells.lookup y.1 = some c := fun y hy e => I.ok.has _ (ok.free y hy e)
  refine wpAny_comprehension_free (use := use) rfl hs (closure_ok caught) ok.kind (fun y hy e => by rw [ok.uniq y hy, e]) ?_
  refine thn (hi.run pins s σ H _ I h) fun xv s1 come => thn come fun itv s2 ⟨it, fp, tn, J, H2, ei, I2, T, st2, f2, q⟩ => ?_
  subst ei
  refine wpAny_newObj_type (newEnv_comp ?_)
  obtain ⟨D, eD⟩ : ∃ D, s2.heap.objs.size = D := ⟨_, rfl⟩
  rw [eD]
  obtain ⟨W, ⟨m0, w0⟩, turn⟩ := q D (I2.hok.fresh (Nat.le_of_eq eD))
  -- the heap with the new dict
  obtain ⟨s3, es3⟩ : ∃ s3 : Shared, { s2 with heap := s2.heap.push { cls := .type "dict", data := .dict #[] } } = s3 := ⟨_, rfl⟩
  have hp3 : s3.heap = s2.heap.push { cls := .type "dict", data := .dict #[] } := by rw [← es3]
  have I3 : Inv X pins σ (upd H2 D (.dT [])) s3 := by
    rw [← es3]
    refine I2.laid (t' := s2.toks) (fun b o e => Heap.get?_push_of_some _ e) (Nat.le_of_eq eD) ?_
    rw [← eD]
    exact dt_empty s2.heap I2.big
  have low : ∀ b ∈ fp, b < s2.heap.objs.size := fun b hb => let ⟨_, e, _⟩ := T.obj _ _ st2 b hb; Heap.lt_size e
  have f3 : ∀ b ∈ fp, FpOk X pins (upd H2 D (.dT [])) b ∧ b < s3.heap.objs.size := fun b hb => by
    have lt := low b hb
    refine ⟨⟨?_, (f2 b hb).2⟩, ?_⟩
    · rw [upd_ne (Nat.ne_of_lt (eD ▸ lt))]
      exact (f2 b hb).1
    · rw [hp3, Heap.size_push]
      exact Nat.lt_succ_of_lt lt
  have st3 : tn 0 s3.heap := T.keep _ _ _ st2 fun b _ o e => by
    rw [hp3]
    exact Heap.get?_push_of_some _ e
  have I4 := block_start I3 ok hN f3
  have pg := hg s3 (upd H2 D (.dT [])) s3.heap.objs.size (cellsFrom (s3.heap.objs.size + 1) scope.names (cloFrom X.env.cells scope.names [])) fp
  have pt := ht s3 (upd H2 D (.dT [])) s3.heap.objs.size (cellsFrom (s3.heap.objs.size + 1) scope.names (cloFrom X.env.cells scope.names [])) fp
  have pk := hk s3 (upd H2 D (.dT [])) s3.heap.objs.size (cellsFrom (s3.heap.objs.size + 1) scope.names (cloFrom X.env.cells scope.names [])) fp
  have pe := he s3 (upd H2 D (.dT [])) s3.heap.objs.size (cellsFrom (s3.heap.objs.size + 1) scope.names (cloFrom X.env.cells scope.names [])) fp
  rw [es3]
  show codeAny _ _ (.compStart (.DictComp kx vx [⟨tg, iter, ifs, 0⟩] scope pos) 0 (.ref it) (.ref D)
      (compEnvC scope (cellsFrom (s3.heap.objs.size + 1) scope.names (cloFrom X.env.cells scope.names [])) s3.heap.objs.size X.env))
    (compPost (model X.prog X.w) X.A X.xe use Qf (.ref D) s3.heap.objs.size) { s3 with heap := pushCells (s3.heap.push { cls := .type "dict", data := .dict #[] }) scope.names }
  have free3 : ∀ b ∈ fp, (upd H2 D (.dT [])) b = none := fun b hb => (f3 b hb).1.1
  generalize ece : compEnvC scope (cellsFrom (s3.heap.objs.size + 1) scope.names (cloFrom X.env.cells scope.names [])) s3.heap.objs.size X.env = ce at I4 pg pt pk pe ⊢
  have cL : ce.locals = s3.heap.objs.size := by
    rw [← ece]
    rfl
  generalize upd H2 D (.dT []) = H3 at I3 I4 pg pt pk pe w0 free3 f3
  generalize es4 : ({ s3 with heap := pushCells (s3.heap.push { cls := .type "dict", data := .dict #[] }) scope.names } : Shared) = s4 at I4 ⊢
  have st4 : tn 0 s4.heap := T.keep _ _ _ st3 fun b _ o e => by
    rw [← es4]
    exact pushCells_keeps _ _ _ _ (Heap.get?_push_of_some _ e)
  have walker : ∀ {σ' : L2.St} {H' : Hp} {s' : Shared}, Inv (X.blk s3 H3 scope ce fp) [] σ' H' s' → (∀ b ∈ fp, H' b = none) → ∀ b ∈ fp, FpOk (X.blk s3 H3 scope ce fp) [] H' b := fun {σ' H' s'} I' hn b hb =>
    ⟨hn b hb, (I'.ok.exf b hb).1, I'.ok.exfs b hb, .inl hb, fun x c e => (I'.ok.exf b hb).2 x c e, fun p hp => absurd (show p ∈ ([] : List (Addr × Obj)) ++ [] from hp) (List.not_mem_nil)⟩
  refine codeAny_compStart_dict ?_ (T.self X.A 0 _ _ _ st4 ?_) <;>
  · refine compLoop_anyD (fun n s' => ∃ i H', Inv (X.blk s3 H3 scope ce fp) [] (wipe σ (own.map (·.2))) H' s' ∧ tn i s'.heap ∧ (∀ b ∈ fp, H' b = none) ∧ W i n H') ?_ m0 ⟨0, H3, I4, st4, free3, w0⟩
    rintro n s5 ⟨i, H5, I5, st5, n5, w5⟩
    rcases turn i n H5 w5 with ⟨stop, qq⟩ | ⟨go, Nx, hNx, step⟩
    · refine thnF (T.done (X.blk s3 H3 scope ce fp) rfl rfl rfl hc i [] s5 _ H5 (fun _ _ => False) I5 (walker I5 n5) st5 stop) fun r s6 ⟨er, I6⟩ => ?_
      subst er
      have I7 : Inv X pins σ H5 s6 := I3.call' (ch := fp) I6.os I6.base I6.hok I6.bare fun b hb =>
        let z := (f3 b hb).1.2
        ⟨z.2.2.1, z.1, z.2.2.2.1, z.2.2.2.2⟩
      have fL : H5 ce.locals = none := I6.free
      obtain ⟨m, ns, _⟩ := I6.loc
      have ns : s6.heap.Ns ce.locals m := ns
      rw [cL] at ns fL
      exact last D s3.heap.objs.size s6 m H5 I7 qq ns (I3.fpOk (Nat.le_refl _) fL)
    · refine thnF (T.item (X.blk s3 H3 scope ce fp) rfl rfl rfl hc i [] s5 _ H5 (fun _ _ => False) I5 (walker I5 n5) st5 go) fun r s6 ⟨u, er, h6⟩ => ?_
      subst er
      refine thnF h6 fun _ s7 ⟨x, H7, I7, r7, y7, st7, n7⟩ => ?_
      refine thnF (pg.run _ s7 _ H7 x u _ (I7.pinned (walker I7 n7) (T.obj _ _ st7)) r7 (step x H7 y7)) fun _ s8 ⟨σ8, H8, I8, hw8, q8⟩ => ?_
      have close : ∀ {s' : Shared} {H' : Hp}, Inv (X.blk s3 H3 scope ce fp) ([] ++ pinsAt fp s7.heap) σ8 H' s' → Nx H' → ∃ m, m < n ∧ ∃ i H', Inv (X.blk s3 H3 scope ce fp) [] (wipe σ (own.map (·.2))) H' s' ∧ tn i s'.heap ∧ (∀ b ∈ fp, H' b = none) ∧ W i m H' := fun {s' H'} I' nx => by
        obtain ⟨m', less, w'⟩ := hNx H' nx
        have held : ∀ b ∈ fp, ∀ o, s7.heap.get? b = some o → s'.heap.get? b = some o ∧ H' b = none := fun b hb o e =>
          let z := I'.pin (b, o) (List.mem_append_right _ (List.mem_append_right _ (mem_pinsAt hb e)))
          ⟨z.1, z.2.1⟩
        refine ⟨m', less, i + 1, H', (I'.unpinned (pins := [])).weak (by rw [← hw8, wipe_length]) (fun j v e => ?_), T.keep _ _ _ st7 fun b hb o e => (held b hb o e).1, fun b hb => ?_, w'⟩
        · rw [← hw8] at e
          exact (wipe_some e).1
        · obtain ⟨o, e, _⟩ := T.obj _ _ st7 b hb
          exact (held b hb o e).2
      refine thnF (pt.run _ s8 σ8 H8 _ I8 q8) fun b s9 ⟨H9, I9, q9⟩ => ?_
      cases b with
      | false =>
        rw [if_neg Bool.false_ne_true] at q9
        rw [if_neg Bool.false_ne_true]
        exact close I9 q9
      | true =>
        rw [if_pos rfl] at q9
        rw [if_pos rfl]
        refine thnF (pk.run _ s9 σ8 H9 _ I9 q9) fun z s10 ⟨yk, H10, I10, r10, q10⟩ => ?_
        refine thnF (pe.run _ s10 σ8 H10 _ I10 q10) fun z2 s11 ⟨yv, H11, I11, r11, t, kvs, k, ek, et, eD11, small, nx⟩ => ?_
        subst ek
        cases (show z = Value.ref t from r10)
        exact putT (X := X.blk s3 H3 scope ce fp) room I11 eD11 et small r11 fun s12 I12 => close I12 nx
/-- name = {(..): .. for ..} on one line, the name a local -/
theorem ps_setDcT {i : Nat} {y : Str} {py : Pos} {kx vx tg iter : Expr} {ifs : List Expr} {scope : Scope} {own : List (Str × Nat)} {pos spos : Pos} {wi : TI} {g : TG} {tt : TT} {tk tv : TE} (room : X.A.units < cLine) (hc : X.calm = true) (hN : X.N.Nodup) (hy : X.N[i]? = some y)
    (hyl : X.env.scope.names.lookup y = some .local) (hsw : swapsWith (.DictComp kx vx [⟨tg, iter, ifs, 0⟩] scope pos) (some (.Name y py)) spos.line X.env = pure true) (hi : PI X tg iter wi) (ok : BlkOk X.N X.env.scope scope own)
    (hg : ∀ (s : Shared) (H : Hp) (C : Addr) (cl : List (Str × Addr)) (fp : List Addr), PG (X.blk s H scope (compEnvC scope cl C X.env) fp) tg g)
    (ht : ∀ (s : Shared) (H : Hp) (C : Addr) (cl : List (Str × Addr)) (fp : List Addr), PTs (X.blk s H scope (compEnvC scope cl C X.env) fp) ifs tt)
    (hk : ∀ (s : Shared) (H : Hp) (C : Addr) (cl : List (Str × Addr)) (fp : List Addr), PE (X.blk s H scope (compEnvC scope cl C X.env) fp) kx tk)
    (he : ∀ (s : Shared) (H : Hp) (C : Addr) (cl : List (Str × Addr)) (fp : List Addr), PE (X.blk s H scope (compEnvC scope cl C X.env) fp) vx tv) (hs : ∀ x, foldedSetIterable iter X.env x = pure x := by intro _; rfl) :
    PS X (.Assign [.Name y py] (.DictComp kx vx [⟨tg, iter, ifs, 0⟩] scope pos) spos) (tAsg (tDcT wi g tt tk tv (own.map (·.2))) (gName i)) := by
  refine ⟨fun pins s σ H D I h => ?_⟩
  rw [exec_Assign_Name_used _ _ _ _ hsw]
  refine wpAny_bind (wpAny_standAt (wpAny_bind ?_))
  have h : tDcT wi g tt tk tv (own.map (·.2)) σ H (fun x H1 => gName i x σ H1 D.nx) := h
  show wpAny _ X.A (do let _ ← comprehension (.DictComp kx vx [⟨tg, iter, ifs, 0⟩] scope pos) scope X.env (firstIterPos [⟨tg, iter, ifs, 0⟩] pos) newDict false (eval iter X.env) (some (assign (.Name y py) X.env))) _ _ s
  refine wpAny_bind (thn (dcT_core (Qf := fun _ s' => SP X pins D .next s') room hc hN I hi ok hg ht hk he hs h fun L C s' m H' I' q ns f => ?_) fun _ s' hq => wpAny_pure (wpAny_pure hq))
  show wpAny _ _ (assign (.Name y py) X.env (.ref L)) _ _ _
  refine wpAny_assign_Name (store_ok2 (v := V.ref L) I' hN hy (.inl hyl) rfl (fun s2 I2 ⟨a, sb, ha⟩ => ?_) (.inr hyl))
  obtain ⟨f0, f1, f2, f3, f4, f5⟩ := f
  have nC : C ≠ a := by
    rcases ha with z | z
    · exact fun e => f1 (e.trans z)
    · exact fun e => f4 y a z e.symm
  exact ⟨m, ns.sameBut sb nC, fun h3 sb3 => ⟨_, H', I2.turned (t' := s2.toks) (fun b o hb e => (sb3.2 b hb).trans e) f0 f1 f3 f4 f5, q⟩⟩
end
/-! ### for .. in d.items(), the keys tuples -/
/-- the pairs of the locked dict at d, each a new tuple of the key's own tuple and the value -/
def Itit (d : Addr) (o : Obj) (kvs : List (List Key × V)) : It :=
  ⟨fun i H => H d = some (.frz o (.dT kvs)) ∧ i < kvs.length,
   fun i H x H' => ∃ T t k v, kvs[i]? = some (k, v) ∧ H t = some (.tup (k.map kV)) ∧ x = .ref T ∧ H T = none ∧ H' = upd H T (.tup [.ref t, v]),
   fun i H => H d = some (.frz o (.dT kvs)) ∧ kvs.length ≤ i⟩
section
variable {X : Cx} {pins : List (Addr × Obj)} {σ : L2.St} {H : Hp} {s : Shared}
theorem frzT2 {d : Addr} {o : Obj} {kvs : List (List Key × V)} (I : Inv X pins σ H s) (h : H d = some (.frz o (.dT kvs))) :
    (d == sysModules) = false ∧ ∃ (es : Array DictEntry) (ep : Nat), o.data = .dict es ep ∧ es.size = kvs.length ∧ s.heap.DictRaw d es ep ∧
      ∀ (i : Nat) (hi : i < es.size) (k : List Key) (v : V), kvs[i]? = some (k, v) → ∃ t u, es[i].key = .ref t ∧ es[i].val = u ∧ RelV v u ∧ H t = some (.tup (k.map kV)) := by
  obtain ⟨e0, _, hs, xs, pr, o', es, ep, ho, hx, hdt, he, _⟩ := I.hok d _ h
  rw [e0] at ho
  cases ho
  have l1 : es.size = xs.length := size_of_entries he
  have l2 : kvs.length = xs.length := Paired.length pr
  refine ⟨hs, es, ep, hdt, by omega, ⟨o, e0, hx, hdt⟩, fun i hi k v ek => ?_⟩
  obtain ⟨x, ex, e1, e2, e3⟩ := paired_get pr ek
  have en := entry_at he i
  rw [ex, Array.getElem?_eq_getElem hi] at en
  have en := Option.some.inj en
  refine ⟨x.2.1, x.2.2, by rw [en]; rfl, by rw [en]; rfl, e3, ?_⟩
  have e1 : k = x.1 := e1
  have e2 : H x.2.1 = some (.tup (k.map kV)) := e2
  exact e2
end
theorem turn_itemsT {P : Program} {w : World} {K : PySem.W.Frag} {d : Addr} {o : Obj} {es : Array DictEntry} {ep : Nat} {kvs : List (List Key × V)} {elts : List Expr} {kk : Nat} {tpos : Pos} (it : Addr) (hod : o.data = .dict es ep) (hes : es.size = kvs.length) :
    Turn P w K (.Tuple elts kk tpos) (Itit d o kvs) [it] it (fun i h => ∃ ok ov, IsItemIter h it d i es.size ep ok ov) where
  mem := List.mem_singleton.mpr rfl
  obj := fun i h ⟨ok, ov, e⟩ b hb => by
    cases List.mem_singleton.mp hb
    exact ⟨_, e, fun v z => nomatch z⟩
  keep := fun i h h' ⟨ok, ov, e⟩ k => ⟨ok, ov, k it (List.mem_singleton.mpr rfl) _ e⟩
  item := by
    intro X hP hw hK hc i pins s σ H E I hf ⟨ok, ov, hit⟩ ⟨hd, hi⟩
    subst hP hw hK
    obtain ⟨_, es', ep', hdt, _, raw, ent⟩ := frzT2 I hd
    rw [hod] at hdt
    cases hdt
    have hi' : i < es.size := by omega
    obtain ⟨k, v, ekv⟩ : ∃ k v, kvs[i]? = some (k, v) := ⟨kvs[i].1, kvs[i].2, List.getElem?_eq_getElem hi⟩
    obtain ⟨t, u, e1, e2, ru, et⟩ := ent i hi' k v ekv
    have lt : it < s.heap.objs.size := Heap.lt_size hit
    refine wpAny_pyNext_items_item_raw hit raw hi' fun h' out tup size keep => ⟨_, rfl, wpAny_letOwnedTupleGo_items (s := { s with heap := h' }) out fun h'' back same => ?_⟩
    rw [e1, e2] at tup
    have tup2 : h''.get? s.heap.objs.size = some { cls := .type "tuple", data := .seq #[.ref t, u] } := (same.2 _ (Nat.ne_of_gt lt)).trans tup
    have new : ObjOk X.prog X.w (upd H s.heap.objs.size (.tup [.ref t, v])) h'' s.heap.objs.size (.tup [.ref t, v]) :=
      ⟨by show 2 ≤ sizeLine; decide, [.ref t, u], .cons rfl (.cons ru .nil), ⟨_, tup2, rfl, _, rfl⟩⟩
    refine ⟨.ref s.heap.objs.size, _, I.turnedNew (t' := s.toks) (ch := [it]) (fun b ob hb e => (same.2 b (fun z => hb (List.mem_singleton.mpr z))).trans (keep b ob (fun z => hb (List.mem_singleton.mpr z)) e)) hf (Nat.le_refl _) new, rfl,
      ⟨_, t, k, v, ekv, et, rfl, I.hok.fresh (Nat.le_refl _), rfl⟩, ⟨_, _, back⟩, fun b hb => ?_⟩
    cases List.mem_singleton.mp hb
    rw [upd_ne (Nat.ne_of_lt lt)]
    exact (hf _ (List.mem_singleton.mpr rfl)).1
  done := by
    intro X hP hw hK hc i pins s σ H E I hf ⟨ok, ov, hit⟩ ⟨hd, hi⟩
    subst hP hw hK
    obtain ⟨_, es', ep', hdt, _, raw, _⟩ := frzT2 I hd
    rw [hod] at hdt
    cases hdt
    obtain ⟨f0, f1, f2, f3, f4, f5⟩ := hf it (List.mem_singleton.mpr rfl)
    exact wpAny_pyNext_items_end_raw (I.ok.hd hc) hit raw (by omega) fun h' eb => ⟨rfl, I.turned (t' := s.toks) (fun b ob hb e => eb b ob hb e) f0 f1 f3 f4 f5⟩
  self := fun A i s Q E ⟨_, _, e⟩ h => PySem.W.kcp_self e h
def iItemsT (td : TE) : TI := fun σ H R => td σ H fun x H1 => ∃ d o kvs, x = .ref d ∧ H1 d = some (.frz o (.dT kvs)) ∧ R (Itit d o kvs) H1
theorem pi_itemsT {X : Cx} {e : Expr} {td : TE} {apos cpos : Pos} {elts : List Expr} {kk : Nat} {tpos : Pos} (he : PE X e td) (hbase : attributeBase e "items" X.env (eval e X.env) = eval e X.env := by rfl) (hline : (apos.endLine == cpos.line) = true := by rfl) :
    PI X (.Tuple elts kk tpos) (.Call (.Attribute e "items" apos) [] [] cpos) (iItemsT td) := by
  refine ⟨fun pins s σ H R I h => ?_⟩
  refine wpAny_Call_method (T := "dict") (id := "dict.items") hbase rfl hline F.plainAttrs_dict F.slot_dict_items F.type_dict_items (thn (he.run pins s σ H _ I h) fun u s1 ⟨x, H1, I1, rx, d, o, kvs, ex, hd, q⟩ => ?_)
  subst ex
  cases (show u = Value.ref d from rx)
  obtain ⟨hs, es, ep, hdt, hes, ⟨ob, raw1, raw2, raw3⟩, _⟩ := frzT2 I1 hd
  refine ⟨⟨ob, raw1, raw2.1⟩, fun b hb => ?_, ?_⟩
  · cases hb
    exact ⟨ob, raw1, raw2.2.1⟩
  · have I2 : Inv X pins σ H1 { s1 with heap := s1.heap.push { cls := .type "dict_items", data := .fields #[.ref d] } } := I1.kept (t' := s1.toks) fun b ob q => Heap.get?_push_of_some _ q
    show wpAny _ _ (callWith cpos (.builtin "dict.items") [.ref d] [] []) _ X.xe s1
    refine method_meetsIn F.slot_dict_items F.entry_dict_items rfl (PySem.evalArgs_none ⟨rfl, ⟨ob, raw1, raw2.1⟩, F.args_dict_items_1 _, _, DT.meetsItems (es := es) (ep := ep) hs, ⟨⟨ob, raw1, raw2, raw3⟩, ?_⟩⟩)
    exact DT.iterI (d := d) (es := es) (ep := ep) ⟨_, Heap.get?_push_size _ rfl, rfl, rfl⟩ (DT.Raw.push ⟨ob, raw1, raw2, raw3⟩ _) (pi_one (tk := s1.toks) I2 _ (turn_itemsT _ hdt hes) ⟨.none, .none, Heap.get?_push_size _ rfl⟩ q)
/-! ### loops of such comprehensions, of those with two for's -/
section
variable {J : It} {n : Nat} {G : Hp → Prop} {Y : Nat → Hp → V → Hp → Prop}
theorem dcT_it (w : Walk J n G Y) {g : TG} {tt : TT} {tk tv : TE} {vs : List Nat} {σ : L2.St} {H1 : Hp} {D : Addr} {Qd : Hp → Prop} (Pv : Nat → Hp → Prop) (h0 : Pv 0 (upd H1 D (.dT []))) (hG : ∀ i H, i ≤ n → Pv i H → G H)
    (hs : ∀ i x H H', i < n → Pv i H → Y i H x H' → g x (wipe σ vs) H' fun σ2 H2 => wipe σ2 vs = wipe σ vs ∧ tt σ2 H2 fun b H3 =>
      if b = true then tk σ2 H3 fun y H4 => tv σ2 H4 fun z H5 => ∃ t kvs k, y = .ref t ∧ H5 t = some (.tup (k.map kV)) ∧ H5 D = some (.dT kvs) ∧ kvs.length < sizeLine ∧ Pv (i + 1) (upd H5 D (.dT (putK kvs k z))) else Pv (i + 1) H3) (hd : ∀ H, Pv n H → Qd H) :
    ∃ W : Nat → Nat → Hp → Prop, (∃ m, W 0 m (upd H1 D (.dT []))) ∧ ∀ i m H, W i m H →
      (J.stop i H ∧ Qd H) ∨ (J.go i H ∧ ∃ Nx : Hp → Prop, (∀ H', Nx H' → ∃ m', m' < m ∧ W (i + 1) m' H') ∧ ∀ x H', J.yld i H x H' → g x (wipe σ vs) H' fun σ2 H2 => wipe σ2 vs = wipe σ vs ∧ tt σ2 H2 fun b H3 =>
        if b = true then tk σ2 H3 fun y H4 => tv σ2 H4 fun z H5 => ∃ t kvs k, y = .ref t ∧ H5 t = some (.tup (k.map kV)) ∧ H5 D = some (.dT kvs) ∧ kvs.length < sizeLine ∧ Nx (upd H5 D (.dT (putK kvs k z))) else Nx H3) := by
  refine ⟨fun i m H => m + i = n ∧ Pv i H, ⟨n, rfl, h0⟩, fun i m H ⟨e, p⟩ => ?_⟩
  cases m with
  | zero =>
    obtain rfl : i = n := by omega
    exact .inl ⟨w.stops H (hG _ H (Nat.le_refl _) p), hd H p⟩
  | succ m => exact .inr ⟨w.goes i H (by omega) (hG i H (by omega) p), Pv (i + 1), fun H' p' => ⟨m, Nat.lt_succ_self _, by omega, p'⟩, fun x H' y => hs i x H H' (by omega) p (w.yields i H x H' (by omega) (hG i H (by omega) p) y)⟩
/-- the first for of two -/
theorem lc2_out (w : Walk J n G Y) {g : TG} {tt : TT} {wi1 : TI} {A : (Hp → Prop) → L2.St → It → Hp → Prop} {vs : List Nat} {σ : L2.St} {H0 : Hp} {Qd : Hp → Prop} (Pv : Nat → Hp → Prop) (h0 : Pv 0 H0) (hG : ∀ i H, i ≤ n → Pv i H → G H)
    (hs : ∀ i x H H', i < n → Pv i H → Y i H x H' → g x (wipe σ vs) H' fun σ2 H2 => wipe σ2 vs = wipe σ vs ∧ tt σ2 H2 fun b H3 => if b = true then wi1 σ2 H3 (A (Pv (i + 1)) σ2) else Pv (i + 1) H3) (hd : ∀ H, Pv n H → Qd H) :
    ∃ W : Nat → Nat → Hp → Prop, (∃ m, W 0 m H0) ∧ ∀ i m H, W i m H →
      (J.stop i H ∧ Qd H) ∨ (J.go i H ∧ ∃ Nx : Hp → Prop, (∀ H', Nx H' → ∃ m', m' < m ∧ W (i + 1) m' H') ∧ ∀ x H', J.yld i H x H' → g x (wipe σ vs) H' fun σ2 H2 => wipe σ2 vs = wipe σ vs ∧ tt σ2 H2 fun b H3 =>
        if b = true then wi1 σ2 H3 (A Nx σ2) else Nx H3) := by
  refine ⟨fun i m H => m + i = n ∧ Pv i H, ⟨n, rfl, h0⟩, fun i m H ⟨e, p⟩ => ?_⟩
  cases m with
  | zero =>
    obtain rfl : i = n := by omega
    exact .inl ⟨w.stops H (hG _ H (Nat.le_refl _) p), hd H p⟩
  | succ m => exact .inr ⟨w.goes i H (by omega) (hG i H (by omega) p), Pv (i + 1), fun H' p' => ⟨m, Nat.lt_succ_self _, by omega, p'⟩, fun x H' y => hs i x H H' (by omega) p (w.yields i H x H' (by omega) (hG i H (by omega) p) y)⟩
/-- the second one -/
theorem lc2_in (w : Walk J n G Y) {g1 : TG} {tt1 : TT} {te : TE} {vs1 : List Nat} {σ2 : L2.St} {D : Addr} {H4 : Hp} {Nx : Hp → Prop} (Pv : Nat → Hp → Prop) (h0 : Pv 0 H4) (hG : ∀ i H, i ≤ n → Pv i H → G H)
    (hs : ∀ j x H H', j < n → Pv j H → Y j H x H' → g1 x (wipe σ2 vs1) H' fun σ3 H5 => wipe σ3 vs1 = wipe σ2 vs1 ∧ tt1 σ3 H5 fun b H6 =>
      if b = true then te σ3 H6 fun y H7 => ∃ acc, H7 D = some (.lst acc) ∧ acc.length < sizeLine ∧ Pv (j + 1) (upd H7 D (.lst (acc ++ [y]))) else Pv (j + 1) H6) (hd : ∀ H, Pv n H → Nx H) :
    ∃ W1 : Nat → Nat → Hp → Prop, (∃ m, W1 0 m H4) ∧ ∀ j k H, W1 j k H →
      (J.stop j H ∧ Nx H) ∨ (J.go j H ∧ ∃ Nx1 : Hp → Prop, (∀ H', Nx1 H' → ∃ k', k' < k ∧ W1 (j + 1) k' H') ∧ ∀ x H', J.yld j H x H' → g1 x (wipe σ2 vs1) H' fun σ3 H5 => wipe σ3 vs1 = wipe σ2 vs1 ∧ tt1 σ3 H5 fun b H6 =>
        if b = true then te σ3 H6 fun y H7 => ∃ acc, H7 D = some (.lst acc) ∧ acc.length < sizeLine ∧ Nx1 (upd H7 D (.lst (acc ++ [y]))) else Nx1 H6) := by
  refine ⟨fun i m H => m + i = n ∧ Pv i H, ⟨n, rfl, h0⟩, fun i m H ⟨e, p⟩ => ?_⟩
  cases m with
  | zero =>
    obtain rfl : i = n := by omega
    exact .inl ⟨w.stops H (hG _ H (Nat.le_refl _) p), hd H p⟩
  | succ m => exact .inr ⟨w.goes i H (by omega) (hG i H (by omega) p), Pv (i + 1), fun H' p' => ⟨m, Nat.lt_succ_self _, by omega, p'⟩, fun x H' y => hs i x H H' (by omega) p (w.yields i H x H' (by omega) (hG i H (by omega) p) y)⟩
end
/-- the items of a locked dict with tuple keys -/
theorem walk_itemsT {d : Addr} {o : Obj} {kvs : List (List Key × V)} : Walk (Itit d o kvs) kvs.length (fun H => H d = some (.frz o (.dT kvs))) (fun i H x H' => ∃ T t k v, kvs[i]? = some (k, v) ∧ H t = some (.tup (k.map kV)) ∧ x = .ref T ∧ H T = none ∧ H' = upd H T (.tup [.ref t, v])) :=
  ⟨fun _ _ hi q => ⟨q, hi⟩, fun _ q => ⟨q, Nat.le_refl _⟩, fun _ _ _ _ _ _ y => y⟩
/-! ### a dict grows by keys that are new -/
theorem putK_new {κ : Type} [DecidableEq κ] {kvs : List (κ × V)} {k : κ} {v : V} (h : k ∉ kvs.map (·.1)) : putK kvs k v = kvs ++ [(k, v)] := by
  unfold putK
  rw [if_neg]
  intro z
  obtain ⟨p, hp, e⟩ := List.any_eq_true.mp z
  exact h (List.mem_map.mpr ⟨p, hp, of_decide_eq_true e⟩)
theorem putK_take {κ : Type} [DecidableEq κ] {L : List (κ × V)} {i : Nat} {p : κ × V} (nd : (L.map (·.1)).Nodup) (h : L[i]? = some p) : putK (L.take i) p.1 p.2 = L.take (i + 1) := by
  rw [List.take_add_one, h]
  refine putK_new fun z => ?_
  rw [List.map_take] at z
  obtain ⟨j, hj⟩ := List.mem_iff_getElem?.mp z
  rw [List.getElem?_take] at hj
  by_cases c : j < i
  · rw [if_pos c] at hj
    have hi : (L.map (·.1))[i]? = some p.1 := by rw [List.getElem?_map, h]; rfl
    have := (List.getElem?_inj (List.getElem?_eq_some_iff.mp hj).1 nd).mp (hj.trans hi.symm)
    omega
  · rw [if_neg c] at hj
    cases hj
/-! ### lists of tuples of two numbers -/
def DuoAt (H : Hp) (x : V) (p : Int × Int) : Prop := ∃ t, x = .ref t ∧ H t = some (.tup [.int p.1, .int p.2])
theorem DuoAt.keep {H H' : Hp} {x : V} {p : Int × Int} (h : DuoAt H x p) (k : ∀ b us, H b = some (.tup us) → H' b = some (.tup us)) : DuoAt H' x p := by
  obtain ⟨t, e, h1⟩ := h
  exact ⟨t, e, k _ _ h1⟩
theorem DuoAt.push {H : Hp} {l T : Addr} {xs : List V} {L : List (Int × Int)} {p : Int × Int} (el : H l = some (.lst xs)) (h : Paired (DuoAt H) xs L) (nT : H T = none) :
    Paired (DuoAt (upd (upd H T (.tup [.int p.1, .int p.2])) l (.lst (xs ++ [.ref T])))) (xs ++ [.ref T]) (L ++ [p]) := by
  have lT : l ≠ T := ne_of_none el nT
  refine paired_snoc (Paired.mapP h fun _ _ q => q.keep fun b us z => ?_) ⟨T, rfl, by rw [upd_ne lT.symm, upd_same]⟩
  rw [upd_ne (ne_of z el (fun y => by cases y)), upd_ne (ne_of_none z nT)]
  exact z
theorem TriAt.push {H : Hp} {l T : Addr} {xs : List V} {L : List Tri} {p : Tri} (el : H l = some (.lst xs)) (h : Paired (TriAt H) xs L) (nT : H T = none) :
    Paired (TriAt (upd (upd H T (.tup [.int p.1, .int p.2.1, .int p.2.2])) l (.lst (xs ++ [.ref T])))) (xs ++ [.ref T]) (L ++ [p]) := by
  have lT : l ≠ T := ne_of_none el nT
  refine paired_snoc (Paired.mapP h fun _ _ q => q.keep fun b us z => ?_) ⟨T, rfl, by rw [upd_ne lT.symm, upd_same]⟩
  rw [upd_ne (ne_of z el (fun y => by cases y)), upd_ne (ne_of_none z nT)]
  exact z
end Fa

/-! a lambda that is made, handed on and called with one argument; a law's end with tables of code objects -/
namespace Fa
open PySem PySem.Spec PyProof.Rows L2 LamX
/-- the function object at f -/
def FunO (f : Addr) (o : Obj) : HO := .ext fun h => h.get? f = some o
theorem funO_ok {P : Program} {w : World} {H : Hp} {h : Heap} {f : Addr} {o : Obj} (e : h.get? f = some o) : ObjOk P w H h f (FunO f o) := ⟨e, ⟨o, e⟩, fun _ _ a k => k o a⟩
theorem funO_ne {f : Addr} {o : Obj} (ps : Array Value) : FunO f o ≠ .tbl ps := fun z => by
  unfold FunO at z
  cases z
abbrev lamO (q : Str) (params : Arguments) (body : Expr) (scope : Scope) (cl : List (Str × Addr)) (pm : Value) (c' : Addr) (ctv : Value) : Obj := PySem.W.kla_obj "<lambda>" q params body scope cl pm c' ctv
section
variable {X : Cx} {pins : List (Addr × Obj)} {σ : L2.St} {H : Hp} {s : Shared}
/-- the expression makes a new function object, whose code object bears the name q -/
theorem lam_new {T : List (Addr × Str)} {c P : Addr} {params : Arguments} {body : Expr} {scope : Scope} {pos : Pos} {E : Value → Shared → Prop} {Q : Value → Shared → Prop} (I : Inv X pins σ H s) (TB : TabB X.base X.mg c P) (hcode : X.env.code = .ref c)
    (hm : (P, X.env.qual ++ "<lambda>") ∈ T) (hu : ∀ p ∈ T, p.1 = P → p.2 = X.env.qual ++ "<lambda>") (hT : Tabs T H) (hdef : defaultsOf params X.env = ([], [])) (hfree : ∀ y ∈ scope.names, y.2 = .free → ∃ c, X.env.cells.lookup y.1 = some c)
    (fin : ∀ (f c' : Addr) (pm ctv : Value) (H1 : Hp) (s' : Shared), Inv X pins σ H1 s' → ExtN H H1 → Tabs T H1 → H f = none →
      H1 f = some (FunO f (lamO (X.env.qual ++ "<lambda>") params body scope (cloFrom X.env.cells scope.names []) pm c' ctv)) → H1 c' = some (CodeO c' (X.env.qual ++ "<lambda>")) → Q (.ref f) s') :
    wpAny (model X.prog X.w) X.A (eval (.Lambda params body scope pos) X.env) Q E s := by
  obtain ⟨ps, eP, tri, known⟩ := hT _ hm
  have main : s.heap.Ns mainGlobals X.mg := I.ok.mod.glob.keeps I.bk
  have hd := TB.code.keeps I.bk
  have blt : s.heap.BuiltinsAt X.mg P := TB.bm.keeps I.bk
  have oP : s.heap.get? P = some { cls := .none, data := .fields ps } := I.hok P _ eP
  refine PySem.W.kla_eval hdef ?_
  -- the function object is tracked
  have track : ∀ (o : Obj) (f c' : Addr) (pm ctv : Value) (H1 : Hp) (s1 : Shared), Inv X pins σ H1 s1 → ExtN H H1 → Tabs T H1 → s.heap.objs.size ≤ f → H1 f = none → s1.heap.get? f = some o → o = lamO (X.env.qual ++ "<lambda>") params body scope (cloFrom X.env.cells scope.names []) pm c' ctv →
      H1 c' = some (CodeO c' (X.env.qual ++ "<lambda>")) → Q (.ref f) s1 := by
    intro o f c' pm ctv H1 s1 I1 x1 t1 new free at_ eo ec
    subst eo
    have J := I1.take (h' := s1.heap) (t' := s1.toks) (fun b ob _ e => e) (I.fpOk new free) (funO_ok at_)
    refine fin f c' pm ctv _ s1 J (fun b o e n => ?_) (t1.ext fun b o e => ?_) ?_ upd_same ?_
    · have := x1 b o e n
      rw [upd_ne (ne_of_none this free)]
      exact this
    · rw [upd_ne (ne_of_none e free)]
      exact e
    · exact I.hok.fresh new
    · rw [upd_ne (ne_of_none ec free)]
      exact ec
  cases look : codeAmong pos ps.toList with
  | some cv =>
    obtain ⟨c', e, ec⟩ := known pos cv look
    subst e
    refine PySem.W.kla_makeFunctionHit (mg := X.mg) (c := c) (P := P) (ps := ps) (closure_ok hfree) I.ok.glob main hcode hd oP tri look blt fun ctv h' tk keep size => ?_
    exact track _ _ c' _ ctv H _ (I.kept (t' := tk) fun b o e => Heap.get?_push_of_some _ (keep b o e)) (ExtN.refl H) hT size (I.hok.fresh size) (Heap.get?_push_size _ rfl) rfl ec
  | none =>
    refine PySem.W.kla_makeFunction (mg := X.mg) (c := c) (P := P) (ps := ps) (closure_ok hfree) I.ok.glob main hcode hd oP tri look TB.gP blt fun c' ctv h' tk keep ge lt rec' tab => ?_
    obtain ⟨c2, oc, vs, t, e2, hoc, hdat, hv⟩ := rec'
    cases e2
    have size : s.heap.objs.size ≤ h'.objs.size := Nat.le_trans ge (Nat.le_of_lt lt)
    have nC : H c' = none := I.hok.fresh ge
    have J := inv_table (t' := tk) (more := #[rawInt pos.line, rawInt pos.col, .ref c']) (h' := h'.push (lamO (X.env.qual ++ "<lambda>") params body scope (cloFrom X.env.cells scope.names []) ((X.mg "__name__").getD .none) c' ctv)) I eP
      (fun b o hb e => Heap.get?_push_of_some _ (keep b o hb e)) (Heap.get?_push_of_some _ tab) ge ⟨oc, vs, t, Heap.get?_push_of_some _ hoc, hdat, hv⟩
    have x1 : ExtN H (upd (upd H P (.tbl (ps ++ #[rawInt pos.line, rawInt pos.col, .ref c']))) c' (CodeO c' (X.env.qual ++ "<lambda>"))) := fun b o e n => by
      rw [upd_ne (ne_of_none e nC), upd_ne (fun z => n ps (Option.some.inj (e.symm.trans (by rw [z]; exact eP))))]
      exact e
    have nf1 : h'.objs.size ≠ c' := Nat.ne_of_gt lt
    have nf2 : h'.objs.size ≠ P := Nat.ne_of_gt (Nat.lt_of_lt_of_le (Heap.lt_size oP) size)
    refine track _ _ c' _ ctv _ _ J x1 (fun p hp => ?_) size ?_ (Heap.get?_push_size _ rfl) rfl upd_same
    · by_cases z : p.1 = P
      · rw [hu p hp z, z]
        refine ⟨_, by rw [upd_ne (ne_of_none eP nC), upd_same], ?_, fun p' cv hcv => ?_⟩
        · rw [Array.toList_append]
          exact PySem.TriplesOk_snoc _ _ _ _ tri
        · rw [Array.toList_append] at hcv
          rcases among_app _ tri hcv with z | z
          · obtain ⟨c0, e1, e2⟩ := known p' cv z
            exact ⟨c0, e1, x1 _ _ e2 codeO_ne⟩
          · exact ⟨c', z, upd_same⟩
      · obtain ⟨ps', a1, a2, a3⟩ := hT p hp
        refine ⟨ps', by rw [upd_ne (ne_of_none a1 nC), upd_ne z]; exact a1, a2, fun p' cv hcv => ?_⟩
        obtain ⟨c0, e1, e2⟩ := a3 p' cv hcv
        exact ⟨c0, e1, x1 _ _ e2 codeO_ne⟩
    · rw [upd_ne nf1, upd_ne nf2]
      exact I.hok.fresh size
end
/-! ### what is asked of a lambda of one tuple of ints: g says what it answers -/
section
variable (P : Program) (w : World) (K : PySem.W.Frag) (mg : Str → Option Value) (base : Heap)
/-- the lambda's promise, as long as its objects are tracked -/
def spLam (f : Addr) (o : Obj) (c' : Addr) (q : Str) (g : List Int → Bool) : Sp := fun vs H Q _ => ∃ (t : Addr) (ds : List Int), vs = [.ref t] ∧ H f = some (FunO f o) ∧ H c' = some (CodeO c' q) ∧ SqT K H t (ds.map V.int) ∧ ∀ H', Same H H' → Q (.bl (g ds)) H'
structure LamF (f : Addr) (o : Obj) (c' : Addr) (q x : Str) (fd : FuncData) (g : List Int → Bool) : Prop where
  dat : o.data = .func fd
  bnd : Binds K fd [x] []
  ok : FnOk P w K mg base CX0 2 f fd [x] (spLam K f o c' q g)
structure Lam (f : Addr) (g : List Int → Bool) (H : Hp) : Prop where
  ex : ∃ (o : Obj) (c' : Addr) (q x : Str) (fd : FuncData), LamF P w K mg base f o c' q x fd g ∧ H f = some (FunO f o) ∧ H c' = some (CodeO c' q)
end
section
variable {P : Program} {w : World} {K : PySem.W.Frag} {mg : Str → Option Value} {base : Heap} {f : Addr} {g : List Int → Bool} {H H' : Hp}
theorem Lam.extN (l : Lam P w K mg base f g H) (x : ExtN H H') : Lam P w K mg base f g H' := by
  obtain ⟨o, c', q, y, fd, F, h1, h2⟩ := l.ex
  exact ⟨o, c', q, y, fd, F, x _ _ h1 funO_ne, x _ _ h2 codeO_ne⟩
theorem Lam.same (l : Lam P w K mg base f g H) (x : Same H H') : Lam P w K mg base f g H' := l.extN (ExtN.of x)
end
/-- name(e), the name a slot that holds such a lambda -/
def tLamCall (P : Program) (w : World) (K : PySem.W.Frag) (mg : Str → Option Value) (base : Heap) (i : Nat) (t : TA) : TE := fun σ H Q => ∃ f g, σ[i]? = some (some (.ref f)) ∧ Lam P w K mg base f g H ∧ t σ H fun vs H1 => ∃ a ds, vs = [.ref a] ∧ Lam P w K mg base f g H1 ∧ SqT K H1 a (ds.map V.int) ∧ ∀ H', Same H1 H' → Q (.bl (g ds)) H'
theorem pe_lamc {X : Cx} {x : Str} {e : Expr} {i : Nat} {p pos : Pos} {t : TA} (P : Program) (w : World) (K : PySem.W.Frag) (mg : Str → Option Value) (base : Heap) (hr : Room 2 X.A) (hN : X.N[i]? = some x) (hv : Vis X.env.scope x) (ha : PA X [e] t)
    (e1 : X.prog = P := by rfl) (e2 : X.w = w := by rfl) (e3 : X.K = K := by rfl) (e4 : X.mg = mg := by rfl) (e5 : X.base = base := by rfl) (hdb : (x == ("__debug__" : Str)) = false := by decide) (hcd : (x == ("__classdict__" : Str)) = false := by decide)
    (he : starEach [e] X.env = (false, eval e X.env) :: starEach [] X.env := by rfl) (hpl : (backTo pos (starEach [] X.env)).any (·.1) = false := by rfl) : PE X (.Call (.Name x p) [e] [] pos) (tLamCall P w K mg base i t) := by
  subst e1 e2 e3 e4 e5
  refine ⟨fun pins s σ H Q I h => ?_⟩
  obtain ⟨f, g, hs, L, ht⟩ := h
  refine wpAny_Call_Name_kw (thn ((pe_var (pos := p) hN hv hdb hcd).run pins s σ H (fun v H1 => v = .ref f ∧ H1 = H) I ⟨.ref f, hs, rfl, rfl⟩) fun u s1 ⟨v, H1, I1, r1, ev, eH⟩ => ?_)
  subst ev eH
  cases r1
  have fnAt : ∀ {H2 : Hp} {s2 : Shared}, Inv X pins σ H2 s2 → Lam X.prog X.w X.K X.mg X.base f g H2 → PySem.W.FnAt f s2.heap := fun {H2 s2} I2 L2 => by
    obtain ⟨o, c', q, _, fd, F, h1, h2⟩ := L2.ex
    have e : s2.heap.get? f = some o := (I2.hok f _ h1).1
    obtain ⟨oc, od, dt, sl⟩ := o
    have dt' : dt = .func fd := F.dat
    subst dt'
    exact ⟨oc, od, fd, sl, e⟩
  refine PySem.W.callWith_F (fnAt I1 L) (thn (ha.run pos pins s1 σ _ _ I1 ht) fun us s2 ⟨vs, H2, I2, r, a, ds, ev, L2, sq, q⟩ => ⟨fnAt I2 L2, ?_⟩) he hpl
  obtain ⟨o, c', qn, _, fd, F, h1, h2⟩ := L2.ex
  exact run_fn F.ok hr F.bnd .nil pass0 I2 r ⟨a, ds, by rw [ev]; rfl, h1, h2, sq, q⟩
/-! ### lambdas that answer a written True or False -/
section
variable {P : Program} {w : World} {K : PySem.W.Frag} {mg : Str → Option Value} {base : Heap}
/-- a lambda of one parameter: names that are cells there are none -/
def lamC (scope : Scope) (x : Str) : Bool := decide (scope.kind = .function) && (!scope.isCoroutine && (!scope.isGenerator && ((scope.names.all fun y => !decide (y.2 = .cell)) && decide (scope.names.lookup x = some .local))))
theorem lam_const {f c' : Addr} {q x : Str} {params : Arguments} {b : Bool} {j : Nat} {cp : Pos} {scope : Scope} {pm ctv : Value} {cl : List (Str × Addr)} (sc : lamC scope x = true)
    (bind : ∀ (pm ctv : Value) (cl : List (Str × Addr)) (q : Str) (c' : Addr) (u : Value), bindArgs (PySem.W.kla_fn "<lambda>" q params (.Constant (.bool b) j cp) scope cl pm (.ref c') ctv) ⟨[u], []⟩ = pure [(x, u)]) :
    LamF P w K mg base f (lamO q params (.Constant (.bool b) j cp) scope cl pm c' ctv) c' q x (PySem.W.kla_fn "<lambda>" q params (.Constant (.bool b) j cp) scope cl pm (.ref c') ctv) fun _ => b := by
  obtain ⟨kind, sc⟩ := He.ba sc
  obtain ⟨co, sc⟩ := He.ba sc
  obtain ⟨gen, sc⟩ := He.ba sc
  obtain ⟨own, par⟩ := He.ba sc
  refine ⟨rfl, fun s us _ hl => ?_, fun vs H Q E h => ?_, fun A outer s H args us vs Q E hr e0 hb r h => ?_⟩
  · match us, hl with
    | [u], _ => exact .of_eq (bind _ _ _ _ _ u)
  · obtain ⟨t, _, e, _⟩ := h
    rw [e]
    rfl
  · obtain ⟨t, ds, ev, h1, h2, sq, q⟩ := h
    subst ev
    have at_ : s.heap.get? f = some _ := (e0.hok f _ h1).1
    obtain ⟨⟨oc, ws, tk, hoc, hdc, hvc⟩, _, _⟩ := e0.hok c' _ h2
    have lim : s.heap.NoLimit := e0.mod.nolimit.keeps fun b o e => (e0.bs b o e).1
    refine PySem.W.kla_callFunE hr.depth at_ rfl (Bool.not_eq_true' _ ▸ co) (Bool.not_eq_true' _ ▸ gen) rfl ⟨c', oc, ws, tk, rfl, hoc, hdc, hvc⟩ ?_
    refine hb _ _ _ _ (wpAny_newFunctionEnv (fun y hy e => ?_) (fun y hy => ?_) (fun h1 ns same => ⟨lim.fresh _ same, PySem.W.kla_codeExpr (Constant_bool ?_)⟩) (of_decide_eq_true kind))
    · have := List.all_eq_true.mp own y hy
      rw [e] at this
      exact absurd this (by decide)
    · have := (List.of_mem_zip hy).1
      rw [List.mem_singleton.mp this]
      exact of_decide_eq_true par
    · have kp : ∀ b o, s.heap.get? b = some o → h1.get? b = some o := fun b o e => same.extBut b o (Nat.ne_of_lt (Heap.lt_size e)) (Heap.get?_push_of_some _ e)
      exact ⟨.bl b, H, rfl, e0.bare, Un.kept kp, e0.hok.kept kp, rfl, q H (Same.refl H)⟩
end
/-- the lambda as an argument -/
def tLamN (P : Program) (w : World) (K : PySem.W.Frag) (mg : Str → Option Value) (base : Heap) (T : List (Addr × Str)) (g : List Int → Bool) : TE := fun _ H Q => Tabs T H ∧ ∀ f H1, ExtN H H1 → Tabs T H1 → H f = none → Lam P w K mg base f g H1 → Q (.ref f) H1
theorem pe_lamF {X : Cx} {T : List (Addr × Str)} {c P : Addr} {x : Str} {params : Arguments} {b : Bool} {j : Nat} {cp : Pos} {scope : Scope} {pos : Pos} (TB : TabB X.base X.mg c P) (hcode : X.env.code = .ref c) (hm : (P, X.env.qual ++ "<lambda>") ∈ T) (hu : ∀ p ∈ T, p.1 = P → p.2 = X.env.qual ++ "<lambda>")
    (hdef : defaultsOf params X.env = ([], [])) (free : (scope.names.all fun y => !decide (y.2 = .free)) = true) (sc : lamC scope x = true)
    (bind : ∀ (pm ctv : Value) (cl : List (Str × Addr)) (q : Str) (c' : Addr) (u : Value), bindArgs (PySem.W.kla_fn "<lambda>" q params (.Constant (.bool b) j cp) scope cl pm (.ref c') ctv) ⟨[u], []⟩ = pure [(x, u)]) :
    PE X (.Lambda params (.Constant (.bool b) j cp) scope pos) (tLamN X.prog X.w X.K X.mg X.base T fun _ => b) := by
  refine ⟨fun pins s σ H Q I h => ?_⟩
  obtain ⟨hT, h⟩ := h
  refine lam_new I TB hcode hm hu hT hdef (fun y hy e => ?_) fun f c' pm ctv H1 s' I1 x1 t1 n1 e1 e2 => ?_
  · have := List.all_eq_true.mp free y hy
    rw [e] at this
    exact absurd this (by decide)
  · exact ⟨.ref f, H1, I1, rfl, h f H1 x1 t1 n1 ⟨_, c', _, x, _, lam_const sc bind, e1, e2⟩⟩
/-! ### a def whose code object is told -/
theorem Fun.okC {P : Program} {w : World} {K : PySem.W.Frag} {mg : Str → Option Value} {base : Heap} {x qual : Str} {st : Stmt} {f c : Addr} {fd : FuncData} {N ps : List Str} {k : Nat} {sp : Sp} (F : Fun K x qual st f fd) (code : fd.code = .ref c) (S : FnScope N ps (defScope st))
    (len : ∀ vs H Q E, sp vs H Q E → vs.length = ps.length)
    (hbody : ∀ (A : Around) (outer : List Env) (s : Shared) (H : Hp) (vs : List V) (Q : VK) (E : XK), Room k (A.deeper (envOfC qual (defScope st) s.heap.objs.size f (.ref c))) → sp vs H Q E →
      ∃ t, PSs (cxOf CX0 P w K mg base N qual (defScope st) f (.ref c) A outer s H E).nox (defBody st) t ∧ t { nx := fun _ H' => Q .non H', rt := Q } (start N vs) H) : FnOk P w K mg base CX0 (k + 1) f fd ps sp := by
  obtain ⟨oc, od, kV, doc, pm, an, cdv, ct, osl, rfl, lk, hcd⟩ := F.ex
  cases (show cdv = .ref c from code)
  refine fn_of lk hcd S len fun A outer s H vs Q E hr hsp => ?_
  obtain ⟨t, h, q⟩ := hbody A outer s H vs Q E hr hsp
  exact ⟨t, h.nox, q⟩
end Fa

/-! list(d.items()), the keys of d tuples -/
namespace Fa
open PySem PySem.Spec PyProof.Rows L2
/-- tuples laid one after another -/
def lay : List (Addr × List V) → Hp → Hp
  | [], H => H
  | q :: r, H => lay r (upd H q.1 (.tup q.2))
theorem lay_off {b : Addr} : ∀ {L : List (Addr × List V)} {H : Hp}, b ∉ L.map (·.1) → lay L H b = H b
  | [], _, _ => rfl
  | q :: r, H, h => by
    have h1 : b ≠ q.1 := fun z => h (by rw [z]; exact List.mem_cons_self)
    have h2 : b ∉ r.map (·.1) := fun z => h (List.mem_cons_of_mem _ z)
    show lay r (upd H q.1 (.tup q.2)) b = H b
    rw [lay_off h2, upd_ne h1]
theorem lay_in : ∀ {L : List (Addr × List V)} {H : Hp} {q : Addr × List V}, (L.map (·.1)).Nodup → q ∈ L → lay L H q.1 = some (.tup q.2)
  | p :: r, H, q, nd, h => by
    obtain ⟨n1, n2⟩ := List.nodup_cons.mp nd
    show lay r (upd H p.1 (.tup p.2)) q.1 = _
    rcases List.mem_cons.mp h with rfl | h
    · rw [lay_off n1, upd_same]
    · exact lay_in n2 h
section
variable {X : Cx} {pins : List (Addr × Obj)} {σ : L2.St} {s : Shared}
theorem lay_inv : ∀ {L : List (Addr × List V)} {H : Hp}, Inv X pins σ H s → (L.map (·.1)).Nodup → (∀ q ∈ L, FpOk X pins H q.1 ∧ ∀ H2, ObjOk X.prog X.w H2 s.heap q.1 (.tup q.2)) → Inv X pins σ (lay L H) s
  | [], _, I, _, _ => I
  | p :: r, H, I, nd, h => by
    obtain ⟨n1, n2⟩ := List.nodup_cons.mp nd
    obtain ⟨f, o⟩ := h p List.mem_cons_self
    have J := I.take (h' := s.heap) (t' := s.toks) (fun b ob _ e => e) f (o _)
    refine lay_inv (H := upd H p.1 (.tup p.2)) J n2 fun q hq => ?_
    obtain ⟨⟨g0, g⟩, u⟩ := h q (List.mem_cons_of_mem _ hq)
    refine ⟨⟨?_, g⟩, u⟩
    rw [upd_ne (fun z => n1 (List.mem_map.mpr ⟨q, hq, z⟩))]
    exact g0
end
/-- what list(d.items()) asks -/
def rItT : V → Hp → VK → Prop := fun x H Q => ∃ (d : Addr) (kvs : List (List Key × V)), x = .ref d ∧ H d = some (.dT kvs) ∧
  ∀ (H' : Hp) (p : Addr) (ts : List Addr), Same H H' → H p = none → H' p = some (.lst (ts.map V.ref)) → Paired (fun (t : Addr) (q : List Key × V) => ∃ b, H' t = some (.tup [.ref b, q.2]) ∧ H b = some (.tup (q.1.map kV))) ts kvs → Q (.ref p) H'
theorem paired_of {α β : Type} {F : α → β → Prop} : ∀ {l : List α} {m : List β}, l.length = m.length → (∀ (i : Nat) (x : α) (y : β), l[i]? = some x → m[i]? = some y → F x y) → Paired F l m
  | [], [], _, _ => .nil
  | x :: l, y :: m, e, h => .cons (h 0 x y rfl rfl) (paired_of (Nat.succ.inj e) fun i a b ha hb => h (i + 1) a b ha hb)
  | [], _ :: _, e, _ => by cases e
  | _ :: _, [], e, _ => by cases e
theorem vals_rf : ∀ l : List Addr, Vals (l.map V.ref) (l.map Value.ref)
  | [] => .nil
  | _ :: l => .cons rfl (vals_rf l)
theorem refs_nd {l : List Addr} (h : l.Pairwise (· < ·)) : l.Nodup := h.imp fun {x y} (z : x < y) => Nat.ne_of_lt z
section
variable {X : Cx} {e : Expr} {te : TE} {p apos cpos pos : Pos}
theorem items_new {pins : List (Addr × Obj)} {σ : L2.St} {H : Hp} {s : Shared} {h' : Heap} {tk c : Nat} {kvs : List (List Key × V)} {acc : Array Value} {as : List Addr} {d : Addr} {o : Obj} {es : Array DictEntry} {ep : Nat} {n : Addr} (I : Inv X pins σ H s) (hd : H d = some (.dT kvs)) (ho : s.heap.get? d = some o) (hdt : o.data = .dict es ep)
    (low : s.heap.objs.size ≤ n) (kp : ∀ b ob, s.heap.get? b = some ob → h'.get? b = some ob) (hS : h'.get? n = some { cls := .type "list", dict := none, data := .seq acc c, slots := #[] }) (hl : as.length = es.size) (hG : PySem.W.DilG es n h' as) (hacc : acc.toList = as.map Value.ref)
    {Q : VK} (q : ∀ (H' : Hp) (p : Addr) (ts : List Addr), Same H H' → H p = none → H' p = some (.lst (ts.map V.ref)) → Paired (fun (t : Addr) (q : List Key × V) => ∃ b, H' t = some (.tup [.ref b, q.2]) ∧ H b = some (.tup (q.1.map kV))) ts kvs → Q (.ref p) H') :
    ∃ H', Inv X pins σ H' { s with heap := h', toks := tk } ∧ Q (.ref n) H' := by
  obtain ⟨z, _, xs, pr, o2, es2, ep2, ho2, _, hdt2, he, _⟩ := I.hok d _ hd
  rw [ho] at ho2
  cases ho2
  rw [hdt] at hdt2
  cases hdt2
  have l1 : es.size = xs.length := size_of_entries he
  have l2 : kvs.length = xs.length := Paired.length pr
  -- what each new tuple holds
  have each : ∀ (j : Nat) (a : Addr) (kv : List Key × V), as[j]? = some a → kvs[j]? = some kv → ∃ b u, RelV kv.2 u ∧ H b = some (.tup (kv.1.map kV)) ∧ h'.get? a = some { cls := .type "tuple", data := .seq #[.ref b, u] } := fun j a kv ea ek => by
    obtain ⟨hj, eo⟩ := hG.pairs j a ea
    obtain ⟨x, ex, e1, e2, e3⟩ := paired_get pr ek
    have en := entry_at he j
    rw [ex, Array.getElem?_eq_getElem hj] at en
    have en := Option.some.inj en
    refine ⟨x.2.1, x.2.2, e3, ?_, ?_⟩
    · exact e2
    · rw [en] at eo
      exact eo
  have fin : ∀ m : Nat, ∃ L : List (Addr × List V), L.map (·.1) = as.take m ∧ (∀ t ∈ L, ∃ b u v, t.2 = [.ref b, v] ∧ RelV v u ∧ h'.get? t.1 = some { cls := .type "tuple", data := .seq #[.ref b, u] }) ∧
      ∀ (j : Nat) (t : Addr × List V), L[j]? = some t → ∃ kv b, kvs[j]? = some kv ∧ t.2 = [.ref b, kv.2] ∧ H b = some (.tup (kv.1.map kV)) := by
    intro m
    induction m with
    | zero => exact ⟨[], rfl, (fun t ht => by cases ht), fun j t ht => by cases ht⟩
    | succ m ih =>
      obtain ⟨L, h1, h2, h3⟩ := ih
      cases ea : as[m]? with
      | none =>
        refine ⟨L, ?_, h2, h3⟩
        rw [List.take_add_one, ea, h1]
        simp
      | some a =>
        have hm : m < as.length := (List.getElem?_eq_some_iff.mp ea).1
        obtain ⟨kv, ek⟩ : ∃ kv, kvs[m]? = some kv := ⟨kvs[m]'(by omega), List.getElem?_eq_getElem _⟩
        obtain ⟨b, u, r1, r2, r3⟩ := each m a kv ea ek
        have lL : L.length = m := by
          have := congrArg List.length h1
          rw [List.length_map, List.length_take] at this
          omega
        refine ⟨L ++ [(a, [.ref b, kv.2])], ?_, fun t ht => ?_, fun j t ht => ?_⟩
        · rw [List.map_append, h1, List.take_add_one, ea]
          rfl
        · rcases List.mem_append.mp ht with ht | ht
          · exact h2 t ht
          · rw [List.mem_singleton.mp ht]
            exact ⟨b, u, kv.2, rfl, r1, r3⟩
        · by_cases c : j < L.length
          · rw [List.getElem?_append_left c] at ht
            exact h3 j t ht
          · rw [List.getElem?_append_right (by omega)] at ht
            obtain ⟨c2, c3⟩ := List.getElem?_eq_some_iff.mp ht
            have : j = m := by
              simp at c2
              omega
            subst this
            subst c3
            refine ⟨kv, b, ek, ?_, r2⟩
            simp [lL]
  obtain ⟨L, h1, h2, h3⟩ := fin as.length
  rw [List.take_length] at h1
  have nd : as.Nodup := refs_nd hG.rise
  have ndL : (L.map (·.1)).Nodup := by rw [h1]; exact nd
  have nin : n ∉ as := fun y => Nat.lt_irrefl _ (hG.above n y)
  have fresh : ∀ a, s.heap.objs.size ≤ a → H a = none := fun a y => I.hok.fresh y
  have z2 : (as.map V.ref).length ≤ sizeLine := by
    rw [List.length_map, hl]
    omega
  have I1 : Inv X pins σ (upd H n (.lst (as.map V.ref))) { s with heap := h', toks := tk } := I.laid (t' := tk) kp low ⟨z2, acc.toList, c, by rw [hacc]; exact vals_rf as, by rw [Array.toArray_toList]; exact hS⟩
  have I2 := lay_inv (L := L) I1 ndL fun t ht => by
    have ta : t.1 ∈ as := by
      rw [← h1]
      exact List.mem_map.mpr ⟨t, ht, rfl⟩
    have up : s.heap.objs.size ≤ t.1 := Nat.le_of_lt (Nat.lt_of_le_of_lt low (hG.above _ ta))
    obtain ⟨f0, f⟩ := I.fpOk up (fresh _ up)
    obtain ⟨b, u, v, e1, e2, e3⟩ := h2 t ht
    refine ⟨⟨?_, f⟩, fun H2 => ?_⟩
    · rw [upd_ne (fun y => nin (by rw [← y]; exact ta))]
      exact f0
    · rw [e1]
      exact ⟨by show 2 ≤ sizeLine; decide, [.ref b, u], .cons rfl (.cons e2 .nil), ⟨_, e3, rfl, _, rfl⟩⟩
  refine ⟨_, I2, q _ n as (fun b ob eb => ?_) (fresh n low) ?_ (paired_of (by omega) fun j a kv ea ek => ?_)⟩
  · rw [lay_off, upd_ne (ne_of_none eb (fresh n low))]
    · exact eb
    · rw [h1]
      intro y
      rw [fresh b (Nat.le_of_lt (Nat.lt_of_le_of_lt low (hG.above b y)))] at eb
      cases eb
  · rw [lay_off (by rw [h1]; exact nin), upd_same]
  · obtain ⟨t, et, e1⟩ : ∃ t, L[j]? = some t ∧ t.1 = a := by
      have := congrArg (·[j]?) h1
      simp only [List.getElem?_map] at this
      rw [ea] at this
      cases eL : L[j]? with
      | none =>
        rw [eL] at this
        cases this
      | some t =>
        rw [eL] at this
        exact ⟨t, rfl, Option.some.inj this⟩
    obtain ⟨kv2, b, ek2, e2, e3⟩ := h3 j t et
    rw [ek] at ek2
    cases ek2
    have := lay_in (H := upd H n (.lst (as.map V.ref))) ndL (List.mem_of_getElem? et)
    rw [e1, e2] at this
    exact ⟨b, this, e3⟩
/-- the expression -/
def tLiT (te : TE) : TE := fun σ H Q => te σ H fun x H1 => rItT x H1 Q
theorem pe_liT (hc : X.calm = true) (hg : Gl X "list") (hm : X.mg "list" = none) (he : PE X e te) (hbase : attributeBase e "items" X.env (eval e X.env) = eval e X.env := by rfl) (hline : (apos.endLine == cpos.line) = true := by rfl)
    (hs : starEach [.Call (.Attribute e "items" apos) [] [] cpos] X.env = (false, eval (.Call (.Attribute e "items" apos) [] [] cpos) X.env) :: starEach [] X.env := by rfl) : PE X (.Call (.Name "list" p) [.Call (.Attribute e "items" apos) [] [] cpos] [] pos) (tLiT te) := by
  refine ⟨fun pins s σ H Q I ask => wpAny_Call_Name_kw (ld_blt I hg hm PyProof.Rows.boot_list (PyProof.Rows.callWith_type1 ?_ hs rfl))⟩
  rw [hs]
  show wpAny _ _ (spliced ((false, eval (.Call (.Attribute e "items" apos) [] [] cpos) X.env) :: backTo pos (starEach [] X.env))) _ _ s
  refine Calls.spliced_cons (wpAny_Call_method (T := "dict") (id := "dict.items") hbase rfl hline F.plainAttrs_dict F.slot_dict_items F.type_dict_items (thn (he.run pins s σ H _ I ask) fun u s1 ⟨x, H1, I1, rx, d, kvs, ex, hd, q⟩ => ?_))
  subst ex
  cases (show u = Value.ref d from rx)
  obtain ⟨z, hsys, xs, pr, ob, es, ep, raw1, raw2, raw3, he3, _⟩ := I1.hok d _ hd
  have l1 : es.size = xs.length := size_of_entries he3
  have l2 : kvs.length = xs.length := Paired.length pr
  have I2 : Inv X pins σ H1 { s1 with heap := s1.heap.push { cls := .type "dict_items", data := .fields #[.ref d] } } := I1.kept (t' := s1.toks) fun b o2 y => Heap.get?_push_of_some _ y
  refine ⟨⟨ob, raw1, raw2.1⟩, fun b hb => ?_, ?_⟩
  · cases hb
    exact ⟨ob, raw1, raw2.2.1⟩
  · show wpAny _ _ (callWith cpos (.builtin "dict.items") [.ref d] [] []) _ X.xe s1
    refine method_meetsIn F.slot_dict_items F.entry_dict_items rfl (PySem.evalArgs_none ⟨rfl, ⟨ob, raw1, raw2.1⟩, F.args_dict_items_1 _, _, DT.meetsItems (es := es) (ep := ep) hsys, ⟨⟨ob, raw1, raw2, raw3⟩, Calls.spliced_nil ?_⟩⟩)
    refine PySem.W.dil_call (es := es) (ep := ep) (I1.ok.hd hc) ⟨_, Heap.get?_push_size _ rfl, rfl, rfl⟩ (DT.Raw.push ⟨ob, raw1, raw2, raw3⟩ _) (by omega) fun h' tk acc c as hk hS hl hG hacc => ?_
    obtain ⟨H', J, y⟩ := items_new (tk := tk) I2 hd (Heap.get?_push_of_some _ raw1) raw3 (Nat.le_refl _) hk hS hl hG hacc q
    exact ⟨.ref _, H', J, rfl, y⟩
end
end Fa

namespace K46
open PySem PySem.Spec PyProof.Rows L2 Fa
abbrev s__law_family : Stmt := topS 33
abbrev N__law_family : List Str := ["bag", "many", "size", "far", "found", "k"]
theorem sc__law_family : FnScope N__law_family ["bag", "many", "size", "far"] (defScope s__law_family) := ⟨rfl, rfl, rfl, by decide +kernel, rfl, by decide +kernel, by decide +kernel⟩
section
variable {P : Program} {w : World} {K : PySem.W.Frag} {mg : Str → Option Value} {base : Heap}
def spFam0 : Sp := fun vs H Q _ => ∃ (p qq : Addr) (n m c : Int), vs = [.ref p, .int n, .int m, .int c] ∧ BagAt H p qq ∧ 1 ≤ n ∧ n ≤ 30 ∧ 0 ≤ m ∧ m ≤ 100 ∧ 0 < c ∧ c ≤ 100000000000000000000000000000000 ∧
  ∀ H' a fam, Kp p H H' → H a = none → FamAt H' a fam → Fam n (c * m) fam → (fam.length : Int) ≤ m → BagAt H' p qq → Q (.ref a) H'
theorem ok_fam0 {f : Addr} {fd : FuncData} {k : Nat} (F : Fun K "_law_family" "_law_family" s__law_family f fd) {f__law_draw : Addr} {d__law_draw : FuncData} (F__law_draw : Fun K "_law_draw" "_law_draw" s__law_draw f__law_draw d__law_draw) (G__law_draw : FnOk P w K mg base CX0 k f__law_draw d__law_draw ["bag", "wide"] spDraw) (b__law_draw : Binds K d__law_draw ["bag", "wide"] []) (g__law_draw : mg "_law_draw" = some (.ref f__law_draw)) {f__law_pattern : Addr} {d__law_pattern : FuncData} (F__law_pattern : Fun K "_law_pattern" "_law_pattern" s__law_pattern f__law_pattern d__law_pattern) (G__law_pattern : FnOk P w K mg base CX0 k f__law_pattern d__law_pattern ["bag", "many"] spPat0) (b__law_pattern : Binds K d__law_pattern ["bag", "many"] []) (g__law_pattern : mg "_law_pattern" = some (.ref f__law_pattern)) (m_range : mg "range" = none) (m_sorted : mg "sorted" = none) (m_list : mg "list" = none) : FnOk P w K mg base CX0 (k + 1) f fd ["bag", "many", "size", "far"] spFam0 := by
  have b_sorted : bootBuiltins "sorted" = some (.builtin "sorted") := by decide +kernel
  refine F.ok sc__law_family (fun vs H Q E h => ?_) (fun cdv A outer s H vs Q E hr h => ?_)
  · obtain ⟨p, qq, n, m, c, rfl, _⟩ := h
    rfl
  · obtain ⟨p, qq, n, m, c, rfl, hB, n1, n30, m0, m1, c0, c1, q⟩ := h
    refine ⟨_, (pss_cons (ps_set (i := 4) sc__law_family.nd rfl (by first | exact Or.inl rfl | exact Or.inr rfl) pe_dnewT)
  (pss_cons (ps_for PassesOwn.never rfl (pi_range1 (by rfl) m_range (pa_cons (pv 2) pa_nil)) (pg_name (i := 5) sc__law_family.nd rfl (by first | exact Or.inl rfl | exact Or.inr rfl)) (pss_one (ps_dput (hu_of hr) (pv 4) (pe_call G__law_pattern (hr.mono (by omega)) (by rfl) g__law_pattern F__law_pattern.kp b__law_pattern .nil pass0 (pa_cons (pv 0) (pa_cons (pv 1) pa_nil))) (pe_op op_add pe_int (pe_call G__law_draw (hr.mono (by omega)) (by rfl) g__law_draw F__law_draw.kp b__law_draw .nil pass0 (pa_cons (pv 0) (pa_cons (pv 3) pa_nil)))) rfl)))
  (pss_one (ps_ret (pe_callB (Fa.sortF K hr.units) (by rfl) m_sorted b_sorted (pa_cons (Fa.pe_liT rfl (by rfl) m_list (pv 4)) pa_nil)))))), ?_⟩
    refine fun fo nfo => ?_
    have nfp := hB.ne nfo
    have k0 : Kp p H (upd H fo (.dT [])) := kp_new nfo
    have hB0 := hB.far (o := .dT []) nfp
    have e0 : upd H fo (.dT []) fo = some (.dT []) := upd_same
    generalize upd H fo (.dT []) = H0 at k0 hB0 e0 ⊢
    refine ⟨_, rfl, m, rfl, by omega, by omega, ?_⟩
    refine for_range (lo := 0) (fun i σ H' => Kp p H H' ∧ BagAt H' p qq ∧ (∃ kvs, H' fo = some (.dT kvs) ∧ KvOk n c i kvs) ∧ ∃ y, σ = [some (.ref p), some (.int n), some (.int m), some (.int c), some (.ref fo), y]) ?_ ?_ ?_
    · exact ⟨k0, hB0, ⟨[], e0, kvOk_nil⟩, none, rfl⟩
    · rintro i σ H1 hi ⟨k1, hB1, ⟨kvs, e1, hk⟩, y, rfl⟩
      refine ⟨_, rfl, _, rfl, p, qq, c, rfl, hB1, c0, lt3000 c1, fun H2 r b2 hB2 r0 r1 => ⟨_, _, rfl, rfl, ?_⟩⟩
      refine ⟨_, rfl, _, rfl, _, rfl, p, qq, n, rfl, hB2, n1, n30, fun H3 t ds k3 nt et hPat hB3 => ?_⟩
      have e3 := k3 _ _ nfp.1 ((b2 fo nfp.1).trans e1)
      have et' : H3 t = some (.tup ((ds.map Sum.inl).map kV)) := by
        rw [List.map_map]
        exact et
      refine ⟨fo, _, rfl, DPut.t e3 et' (small1000 (by have := hk.len; omega)), ?_⟩
      refine ⟨((k1.trans b2.kp).trans k3).mut nfo, hB3.far nfp, ⟨_, upd_same, ?_⟩, _, rfl⟩
      refine kvOk_put hk (by omega) hPat (by omega) ?_
      rw [Int.mul_add]
      have : 0 ≤ c * (i : Int) := Int.mul_nonneg (by omega) (by omega)
      omega
    · rintro σ H1 ⟨k1, hB1, ⟨kvs, e1, hk⟩, y, rfl⟩
      refine ⟨_, rfl, fo, kvs, rfl, e1, fun H2 l ts s2 nl el hP => ?_⟩
      have nlp := hB1.ne nl
      have k2 : Kp p H H2 := k1.trans (kp_same s2)
      have hP2 : Paired (FmAt H2) (ts.map V.ref) (famOf kvs) := by
        refine paired_of ?_ fun j x pt ex ep => ?_
        · rw [List.length_map, (famOf_all hk).2.2]
          exact paired_len hP
        · rw [List.getElem?_map] at ex
          cases et : ts[j]? with
          | none =>
            rw [et] at ex
            cases ex
          | some t =>
            rw [et] at ex
            cases ex
            obtain ⟨kv, ek, b, h1, h2⟩ := paired_at hP et
            obtain ⟨ds, mm, e1, e2, e3⟩ := famOf_at hk ek
            rw [e3] at ep
            cases ep
            rw [e1] at h2
            rw [e2] at h1
            refine ⟨t, b, rfl, h1, s2 _ _ ?_⟩
            rw [List.map_map] at h2
            exact h2
      obtain ⟨key, ekey, hkey⟩ := fm_key hP2
      refine ⟨l, ts.map V.ref, key, rfl, .inl (.inl el), fun x hx => ?_, fun ys r hs hp nr => ?_⟩
      · obtain ⟨t, b, e, h1, h2⟩ := hkey x hx
        exact ⟨t, b, e, h1, h2⟩
      obtain ⟨g1, g2, g3⟩ := fam_of_sorted hk ekey hkey hs hp
      have hB2 := hB1.same s2
      have nrp := hB2.ne nr
      refine q _ r (ys.map key) (k2.trans (kp_new nr)) (k2.free nrp.1 nr) ⟨ys, upd_same, L2.Paired.mapP g1 fun _ _ z => z.keep fun b us e => by rw [upd_ne (ne_of_none e nr)]; exact e⟩ ?_ ?_ (hB2.far nrp)
      · rw [show ((m.toNat : Nat) : Int) = m by omega] at g2
        exact g2
      · omega
end
end K46

namespace K46
open PySem PySem.Spec PyProof.Rows L2 Fa
abbrev s__law_rows : Stmt := topS 34
abbrev N__law_rows : List Str := ["family", "many", "wide", "found", "days_here", "so_many", "seen", "one", "some", "ago"]
theorem sc__law_rows : FnScope N__law_rows ["family", "many", "wide"] (defScope s__law_rows) := ⟨rfl, rfl, rfl, by decide +kernel, rfl, by decide +kernel, by decide +kernel⟩
theorem shRow_La {n : Nat} {fam : Fm} (h : ∀ p ∈ fam, Pat n p.1) (s m : Nat) : (cr (fun s k => pre (addLs fam) s k) (s + 1) s).take m = shRow fam s m := by
  rw [cr_take]
  unfold shRow cr
  exact List.map_congr_left fun k _ => prog_cells h s k
section
variable {P : Program} {w : World} {K : PySem.W.Frag} {mg : Str → Option Value} {base : Heap}
def spRows : Sp := fun vs H Q _ => ∃ (f : Addr) (fam : Fm) (n m : Nat), vs = [.ref f, .int n, .int m] ∧ FamAt H f fam ∧ (∀ p ∈ fam, Pat n p.1) ∧ n ≤ 30 ∧ m ≤ 30 ∧
  ∀ H' g rows, Same H H' → H g = none → (∀ r ∈ rows, H r = none) → GridAt H' g rows n (fun s => shRow fam s m) → Q (.ref g) H'
theorem ok_rows {f : Addr} {fd : FuncData} {k : Nat} (F : Fun K "_law_rows" "_law_rows" s__law_rows f fd) (m_range : mg "range" = none) (m_len : mg "len" = none) : FnOk P w K mg base CX0 (k + 1) f fd ["family", "many", "wide"] spRows := by
  refine F.ok sc__law_rows (fun vs H Q E h => ?_) (fun cdv A outer s H vs Q E hr h => ?_)
  · obtain ⟨f, fam, n, m, rfl, _⟩ := h
    rfl
  · obtain ⟨g, fam, n, m, rfl, ⟨xs, eg, hP⟩, hp, hn, hm, q⟩ := h
    refine ⟨_, (pss_cons (ps_setLc (i := 3) (own := [("one", 7)]) (g := (gName 7)) (tt := tYes) rfl sc__law_rows.nd rfl rfl (sw_true rfl rfl rfl (by decide +kernel)) (pi_range1 (by rfl) m_range (pa_cons (pv 1) pa_nil)) (blkOk_by (N := N__law_rows) (sc := defScope s__law_rows) (by decide +kernel)) (fun _ _ _ _ _ => (pg_name (i := 7) sc__law_rows.nd rfl (by first | exact Or.inl rfl | exact Or.inr rfl))) (fun _ _ _ _ _ => pts_nil) (fun _ _ _ _ _ => (pe_op op_rep (pe_lst (pa_cons pe_int pa_nil)) (pe_op op_add (pv 7) pe_int))))
  (pss_cons (ps_for PassesOwn.never rfl (Fa.listQ K (pv 0)) (pg_tup rfl (pgs_cons (pg_name (i := 4) sc__law_rows.nd rfl (by first | exact Or.inl rfl | exact Or.inr rfl)) (pgs_cons (pg_name (i := 5) sc__law_rows.nd rfl (by first | exact Or.inl rfl | exact Or.inr rfl)) pgs_nil))) (pss_cons (ps_set (i := 6) sc__law_rows.nd rfl (by first | exact Or.inl rfl | exact Or.inr rfl) pe_non)
  (pss_one (ps_for PassesOwn.never rfl (pi_range2 (by rfl) m_range (pa_cons (pe_ix (Fa.ixT K) (pv 4) pe_int (fun _ _ => rfl)) (pa_cons (pv 1) pa_nil))) (pg_name (i := 7) sc__law_rows.nd rfl (by first | exact Or.inl rfl | exact Or.inr rfl)) (pss_cons (ps_set (i := 6) sc__law_rows.nd rfl (by first | exact Or.inl rfl | exact Or.inr rfl) (pe_ifExp (pt_cmpR (Fa.inQ K) (pv 7) (pv 4) rfl) (pv 7) (pv 6)))
  (pss_one (ps_asg (pe_op op_add (pe_ix (Fa.ixL K) (pe_ix (Fa.ixL K) (pv 3) (pv 7) (fun _ _ => rfl)) (pe_op op_sub (pv 7) (pv 6)) (fun _ _ => rfl)) (pv 5)) (pg_sub (pe_ix (Fa.ixL K) (pv 3) (pv 7) (fun _ _ => rfl)) (pe_op op_sub (pv 7) (pv 6)) set_list))))))))
  (pss_cons (ps_for PassesOwn.never rfl (Fa.listQ K (pv 3)) (pg_name (i := 8) sc__law_rows.nd rfl (by first | exact Or.inl rfl | exact Or.inr rfl)) (pss_one (ps_for PassesOwn.never rfl (pi_range2 (by rfl) m_range (pa_cons pe_int (pa_cons (pe_callB (Fa.lenQ K) (by rfl) m_len PySem.boot_len (pa_cons (pv 8) pa_nil)) pa_nil))) (pg_name (i := 9) sc__law_rows.nd rfl (by first | exact Or.inl rfl | exact Or.inr rfl)) (pss_one (ps_asg (pe_op op_add (pe_ix (Fa.ixL K) (pv 8) (pv 9) (fun _ _ => rfl)) (pe_ix (Fa.ixL K) (pv 8) (pe_op op_sub (pv 9) pe_int) (fun _ _ => rfl))) (pg_sub (pv 8) (pv 9) set_list))))))
  (pss_one (ps_ret (pe_lc (own := [("some", 8)]) (g := (gName 8)) (tt := tYes) rfl sc__law_rows.nd (Fa.listQ K (pv 3)) (blkOk_by (N := N__law_rows) (sc := defScope s__law_rows) (by decide +kernel)) (fun _ _ _ _ _ => (pg_name (i := 8) sc__law_rows.nd rfl (by first | exact Or.inl rfl | exact Or.inr rfl))) (fun _ _ _ _ _ => pts_nil) (fun _ _ _ _ _ => (pe_slice (Fa.slL K) (pv 8) po_none (po_some (pv 2)))))))))), ?_⟩
    refine ⟨_, rfl, n, rfl, by omega, by omega, fun D nD => ?_⟩
    refine lc_range (lo := 0) (fun i H2 => Same H H2 ∧ ∃ rows, GridAt H2 D rows i (fun s => cr (fun _ _ => 0) (s + 1) s) ∧ ∀ r ∈ rows, H r = none) ?_ ?_ ?_
    · exact ⟨same_new nD, [], gridAt_nil upd_same, fun r z => (List.not_mem_nil z).elim⟩
    · rintro i H2 hi ⟨s2, rows, G, fresh⟩
      refine ⟨rfl, yes_if ⟨by show 1 ≤ sizeLine; decide, fun l nl => ⟨_, rfl, _, _, rfl, rfl, l, _, _, rfl, rfl, upd_same, by omega, by omega, ?_, fun p np => ?_⟩⟩⟩
      · show 1 * _ ≤ sizeLine
        rw [Nat.one_mul]
        exact Nat.le_of_lt (small1000 (by omega))
      · have nlD : D ≠ l := ne_of_none G.top nl
        have lp : l ≠ p := ne_of_none upd_same np
        have np2 : H2 p = none := by rwa [upd_ne lp.symm] at np
        have npD : D ≠ p := ne_of_none G.top np2
        have npr : p ∉ rows := fun z => by
          obtain ⟨j, hj, e⟩ := List.mem_iff_getElem.mp z
          have := G.row j p (by rw [List.getElem?_eq_getElem hj, e])
          rw [np2] at this
          cases this
        have nlr : l ∉ rows := fun z => by
          obtain ⟨j, hj, e⟩ := List.mem_iff_getElem.mp z
          have := G.row j l (by rw [List.getElem?_eq_getElem hj, e])
          rw [nl] at this
          cases this
        have G3 := (G.off (o := .lst [.int 0]) nlD.symm nlr).off (p := p) (o := .lst (List.replicate ((0 : Int) + (i : Int) + 1).toNat [V.int 0]).flatten) npD.symm npr
        have s3 : Same H _ := fun b o e => same_new (o := .lst (List.replicate ((0 : Int) + (i : Int) + 1).toNat [V.int 0]).flatten) np _ _ (same_new (o := .lst [.int 0]) nl _ _ (s2 _ _ e))
        have ep : upd (upd H2 l (.lst [.int 0])) p (.lst (List.replicate ((0 : Int) + (i : Int) + 1).toNat [V.int 0]).flatten) p = some (.lst ((cr (fun _ _ => 0) (i + 1) i).map V.int)) := by
          rw [upd_same, flat_zeros, show ((0 : Int) + (i : Int) + 1).toNat = i + 1 by omega]
          rfl
        have hnp : H p = none := s2.free np2
        refine ⟨rows.map V.ref, G3.top, ?_, ?_⟩
        · rw [List.length_map, G.cnt]
          exact small1000 (by omega)
        generalize upd (upd H2 l (.lst [.int 0])) p (.lst (List.replicate ((0 : Int) + (i : Int) + 1).toNat [V.int 0]).flatten) = H3 at G3 s3 ep ⊢
        refine ⟨fun b o e => ?_, _, G3.grow ep npD.symm npr, fun r hr => ?_⟩
        · rw [upd_ne (ne_of_none e nD)]
          exact s3 _ _ e
        · rcases List.mem_append.mp hr with z | z
          · exact fresh r z
          · rw [List.mem_singleton.mp z]
            exact hnp
    · rintro H2 ⟨s2, rows, G, fresh⟩
      refine ⟨_, rfl, g, rfl, ⟨xs, .inl (.inl (s2 _ _ eg))⟩, ?_⟩
      refine for_it (walk_list (xs := xs)) (fun i σ H' => Same H H' ∧ GridAt H' D rows n (fun s => cr (addLs (fam.take i)) (s + 1) s) ∧ ∃ x4 x5 x6 x7, σ = [some (.ref g), some (.int n), some (.int m), some (.ref D), x4, x5, x6, x7, none, none]) ?_ ?_ ?_ ?_
      · exact ⟨s2, G, none, none, none, none, rfl⟩
      · rintro i σ H1 _ ⟨s1, _⟩
        exact .inl (.inl (s1 _ _ eg))
      · rintro i v σ _ H3 hi ⟨s3, G3, x4, x5, x6, x7, rfl⟩ ⟨rfl, ev⟩
        obtain ⟨pt, ep, t, bb, rfl, h1, h2⟩ := paired_at hP ev
        have hpt := hp pt (List.mem_of_getElem? ep)
        obtain ⟨d0, ds, eds⟩ : ∃ d0 ds, pt.1 = d0 :: ds := by
          cases e : pt.1 with
          | nil => exact absurd e hpt.ne
          | cons d ds => exact ⟨d, ds, rfl⟩
        have hd0 := hpt.bd d0 (by rw [eds]; exact List.mem_cons_self)
        obtain ⟨dN, rfl⟩ := Int.eq_ofNat_of_zero_le hd0.1
        have low : ∀ d ∈ pt.1, (dN : Int) ≤ d := fun d hd => by
          have as := hpt.asc
          rw [eds] at as hd
          rcases List.mem_cons.mp hd with rfl | hd
          · exact Int.le_refl _
          · exact Int.le_of_lt ((List.pairwise_cons.mp as).1 d hd)
        refine ⟨t, _, rfl, .inl (.inl (s3 _ _ h1)), rfl, _, _, rfl, _, _, rfl, rfl, ?_⟩
        refine ⟨_, rfl, bb, _, 0, _, rfl, rfl, .inl (.inl (s3 _ _ h2)), (by rw [eds]; exact atI_int (Int.le_refl 0) rfl), _, rfl, (dN : Int), (n : Int), rfl, ⟨by omega, by omega, by omega, by omega⟩, ?_⟩
        refine for_range (lo := (dN : Int)) (fun e σ H' => Same H H' ∧ GridAt H' D rows n (fun s => cr (fun s k => if s < dN + e then addL (addLs (fam.take i)) pt.1 pt.2 s k else addLs (fam.take i) s k) (s + 1) s) ∧
          ∃ la x7, σ = [some (.ref g), some (.int n), some (.int m), some (.ref D), some (.ref bb), some (.int pt.2), some (laV la), x7, none, none] ∧ Last pt.1 (dN + e) la) ?_ ?_ ?_
        · refine ⟨s3, G3.ext fun s _ => cr_ext fun k _ => ?_, none, x7, rfl, low⟩
          by_cases c : s < dN + 0
          · rw [if_pos c]
            show _ = addLs (fam.take i) s k + (if lastAt pt.1 s k then pt.2 else 0)
            rw [last_none (ds := pt.1) (i := s) (fun d hd => by have := low d hd; omega) k]
            show _ = _ + 0
            omega
          · rw [if_neg c]
        · rintro e σ H4 he ⟨s4, G4, la, y7, rfl, hla⟩
          obtain ⟨r, er, hr', hrow⟩ := G4.get (s := dN + e) (by omega)
          have at1 : atI (rows.map V.ref) ((dN : Int) + (e : Int)) = some (.ref r) := atI_int (by omega) (by rw [show ((dN : Int) + (e : Int)).toNat = dN + e by omega, List.getElem?_map, er]; rfl)
          have es : (dN : Int) + (e : Int) = ((dN + e : Nat) : Int) := by omega
          refine ⟨_, rfl, _, rfl, bb, _, rfl, .inr (.inl (.inl (s4 _ _ h2))), rfl, flat_ints _, _, rfl, ?_⟩
          rw [if_neg Bool.false_ne_true, inV_ints, es]
          rw [es] at at1
          have fin : ∀ z : Int, Last pt.1 (dN + e + 1) (some z) → ∃ kk : Nat, ((dN + e : Nat) : Int) - z = kk ∧ kk < dN + e + 1 := fun z hz => by
            obtain ⟨z1, z2, z3, z4⟩ := hz
            exact ⟨(((dN + e : Nat) : Int) - z).toNat, by omega, by omega⟩
          have cells : ∀ (z : Int) (kk : Nat), Last pt.1 (dN + e + 1) (some z) → ((dN + e : Nat) : Int) - z = kk → ∀ s' k' : Nat, (if s' < dN + (e + 1) then addL (addLs (fam.take i)) pt.1 pt.2 s' k' else addLs (fam.take i) s' k') =
              if s' = dN + e ∧ k' = kk then (if dN + e < dN + e then addL (addLs (fam.take i)) pt.1 pt.2 (dN + e) kk else addLs (fam.take i) (dN + e) kk) + pt.2 else (if s' < dN + e then addL (addLs (fam.take i)) pt.1 pt.2 s' k' else addLs (fam.take i) s' k') := fun z kk hz ek s' k' => by
            by_cases u : s' = dN + e ∧ k' = kk
            · obtain ⟨rfl, rfl⟩ := u
              rw [if_pos (by omega), if_pos ⟨rfl, rfl⟩, if_neg (Nat.lt_irrefl _)]
              show _ + (if lastAt pt.1 (dN + e) k' then pt.2 else 0) = _
              rw [last_some hz, decide_eq_true (by omega), if_pos rfl]
            · rw [if_neg u]
              by_cases b : s' < dN + e
              · rw [if_pos b, if_pos (by omega)]
              · rw [if_neg b]
                by_cases c2 : s' < dN + (e + 1)
                · rw [if_pos c2]
                  have e3 : s' = dN + e := by omega
                  show _ + (if lastAt pt.1 s' k' then pt.2 else 0) = _
                  rw [e3, last_some hz, decide_eq_false (by omega)]
                  show _ + 0 = _
                  omega
                · rw [if_neg c2]
          refine ite2 (fun c => ?_) (fun c => ?_)
          · have hz := last_in (of_decide_eq_true c)
            obtain ⟨kk, ek, hk⟩ := fin _ hz
            refine ⟨_, rfl, ?_⟩
            refine ⟨_, rfl, _, rfl, D, _, _, .ref r, rfl, rfl, .inl (.inl G4.top), at1, _, rfl, _, rfl, _, _, rfl, rfl, r, _, _, _, rfl, rfl, .inl (.inl hrow), by rw [ek]; exact atI_nat (cr_atV hk), _, rfl, _, _, rfl, rfl, _, rfl, _, rfl, D, _, _, .ref r, rfl, rfl, .inl (.inl G4.top), at1, _, rfl, _, rfl, _, _, rfl, rfl, r, _, _, kk, rfl, rfl, hrow, by rw [ek, List.length_map, cr_len]; exact ixN_int (by omega) (by omega), ?_⟩
            exact ⟨fun b o u => by
              rw [upd_ne (fun q => by subst q; rw [fresh b hr'] at u; cases u)]
              exact s4 _ _ u, G4.poke er fun s' k' hs' hk' => cells _ _ hz ek s' k', some _, _, rfl, hz⟩
          · have hz := last_out (fun z => c (decide_eq_true z)) hla
            cases la with
            | none =>
              exfalso
              have := hz dN (by rw [eds]; exact List.mem_cons_self)
              omega
            | some z =>
              obtain ⟨kk, ek, hk⟩ := fin _ hz
              refine ⟨_, rfl, ?_⟩
              refine ⟨_, rfl, _, rfl, D, _, _, .ref r, rfl, rfl, .inl (.inl G4.top), at1, _, rfl, _, rfl, _, _, rfl, rfl, r, _, _, _, rfl, rfl, .inl (.inl hrow), by rw [ek]; exact atI_nat (cr_atV hk), _, rfl, _, _, rfl, rfl, _, rfl, _, rfl, D, _, _, .ref r, rfl, rfl, .inl (.inl G4.top), at1, _, rfl, _, rfl, _, _, rfl, rfl, r, _, _, kk, rfl, rfl, hrow, by rw [ek, List.length_map, cr_len]; exact ixN_int (by omega) (by omega), ?_⟩
              exact ⟨fun b o u => by
                rw [upd_ne (fun q => by subst q; rw [fresh b hr'] at u; cases u)]
                exact s4 _ _ u, G4.poke er fun s' k' hs' hk' => cells _ _ hz ek s' k', some z, _, rfl, hz⟩
        · rintro σ H4 ⟨s4, G4, la, y7, rfl, hla⟩
          refine ⟨s4, ?_, _, _, _, _, rfl⟩
          rw [addLs_take ep]
          exact G4.ext fun s hs => cr_ext fun k _ => by rw [if_pos (by omega)]
      · rintro σ H3 ⟨s3, G3, x4, x5, x6, x7, rfl⟩
        rw [List.take_of_length_le (show fam.length ≤ xs.length by rw [hP.length]; exact Nat.le_refl _)] at G3
        refine ⟨_, rfl, D, rfl, ⟨_, .inl (.inl G3.top)⟩, ?_⟩
        refine for_it (walk_list (xs := rows.map V.ref)) (fun i σ H' => Same H H' ∧ GridAt H' D rows n (fun s => cr (fun s k => if s < i then pre (addLs fam) s k else addLs fam s k) (s + 1) s) ∧
          ∃ x4 x5 x6 x7 x8 x9, σ = [some (.ref g), some (.int n), some (.int m), some (.ref D), x4, x5, x6, x7, x8, x9]) ?_ ?_ ?_ ?_
        · refine ⟨s3, G3.ext fun s _ => cr_ext fun k _ => ?_, x4, x5, x6, x7, none, none, rfl⟩
          rw [if_neg (by omega)]
        · rintro i σ H4 _ ⟨_, G4, _⟩
          exact .inl (.inl G4.top)
        · rintro i v σ _ H4 hi ⟨s4, G4, y4, y5, y6, y7, y8, y9, rfl⟩ ⟨rfl, ev⟩
          rw [List.length_map, G4.cnt] at hi
          obtain ⟨r, er, hr', hrow⟩ := G4.get (s := i) hi
          rw [List.getElem?_map, er] at ev
          cases ev
          refine ⟨_, rfl, r, _, rfl, .inl (.inl (.inl hrow)), 1, _, rfl, ⟨by omega, by omega, by omega, by rw [List.length_map, cr_len]; omega⟩, ?_⟩
          rw [List.length_map, cr_len, show (((i + 1 : Nat) : Int) - 1).toNat = i by omega]
          refine for_range (lo := 1) (fun j σ H' => Same H H' ∧ GridAt H' D rows n (fun s => cr (fun s k => if s < i ∨ (s = i ∧ k ≤ j) then pre (addLs fam) s k else addLs fam s k) (s + 1) s) ∧
            ∃ x10, σ = [some (.ref g), some (.int n), some (.int m), some (.ref D), y4, y5, y6, y7, some (.ref r), x10]) ?_ ?_ ?_
          · refine ⟨s4, G4.ext fun s _ => cr_ext fun k _ => ?_, y9, rfl⟩
            by_cases c : s < i
            · rw [if_pos c, if_pos (.inl c)]
            · rw [if_neg c]
              by_cases c2 : s = i ∧ k ≤ 0
              · rw [if_pos (.inr c2)]
                obtain ⟨rfl, c3⟩ := c2
                obtain rfl : k = 0 := by omega
                rfl
              · rw [if_neg (by omega)]
          · rintro j σ H5 hj ⟨s5, G5, z10, rfl⟩
            have hrow5 := G5.row i r er
            refine ⟨_, rfl, _, rfl, r, _, _, _, rfl, rfl, .inl (.inl hrow5), by rw [show (1 : Int) + (j : Int) = ((j + 1 : Nat) : Int) by omega]; exact atI_nat (cr_atV (by omega)),
              _, rfl, _, rfl, _, _, rfl, rfl, r, _, _, _, rfl, rfl, .inl (.inl hrow5), by rw [show (1 : Int) + (j : Int) - 1 = ((j : Nat) : Int) by omega]; exact atI_nat (cr_atV (by omega)), _, _, rfl, rfl, _, rfl, _, rfl, r, _, _, j + 1, rfl, rfl, hrow5, ?_, ?_⟩
            · rw [List.length_map, cr_len, show (1 : Int) + (j : Int) = ((j + 1 : Nat) : Int) by omega]
              exact ixN_int (by omega) (by omega)
            · refine ⟨fun b o z => ?_, G5.poke er fun s' k' hs' hk' => ?_, _, rfl⟩
              · rw [upd_ne (fun q => by subst q; rw [fresh b hr'] at z; cases z)]
                exact s5 _ _ z
              · by_cases c : s' = i ∧ k' = j + 1
                · obtain ⟨rfl, rfl⟩ := c
                  rw [if_pos (.inr ⟨rfl, Nat.le_refl _⟩), if_pos ⟨rfl, rfl⟩, if_neg (by omega), if_pos (.inr ⟨rfl, Nat.le_refl _⟩)]
                  show pre _ _ _ + _ = _
                  omega
                · rw [if_neg c]
                  by_cases c2 : s' < i ∨ (s' = i ∧ k' ≤ j)
                  · rw [if_pos c2, if_pos (by omega)]
                  · rw [if_neg c2, if_neg (by omega)]
          · rintro σ H5 ⟨s5, G5, z10, rfl⟩
            refine ⟨s5, G5.ext fun s _ => cr_ext fun k hk => ?_, _, _, _, _, _, _, rfl⟩
            by_cases c : s < i + 1
            · rw [if_pos c, if_pos (by omega)]
            · rw [if_neg c, if_neg (by omega)]
        · rintro σ H4 ⟨s4, G4, y4, y5, y6, y7, y8, y9, rfl⟩
          rw [List.length_map, G4.cnt] at G4
          have G5 : GridAt H4 D rows n (fun s => cr (fun s k => pre (addLs fam) s k) (s + 1) s) := G4.ext fun s hs => cr_ext fun k _ => by rw [if_pos hs]
          refine ⟨_, rfl, D, rfl, ⟨_, .inl (.inl G5.top)⟩, fun D2 nD2 => ?_⟩
          have nD2' : H D2 = none := s4.free nD2
          refine lc_it (walk_list (xs := rows.map V.ref)) (fun i H2 => Same H4 H2 ∧ ∃ rs, GridAt H2 D2 rs i (fun s => shRow fam s m) ∧ ∀ r ∈ rs, H r = none) ?_ ?_ ?_ ?_
          · exact ⟨same_new nD2, [], gridAt_nil upd_same, fun r z => (List.not_mem_nil z).elim⟩
          · rintro i H6 _ ⟨s6, _⟩
            exact .inl (.inl (s6 _ _ G5.top))
          · rintro i v _ H6 hi ⟨s6, rs, G6, fr⟩ ⟨rfl, ev⟩
            rw [List.length_map, G5.cnt] at hi
            obtain ⟨r, er, hr', hrow⟩ := G5.get (s := i) hi
            rw [List.getElem?_map, er] at ev
            cases ev
            refine ⟨rfl, yes_if ⟨_, rfl, ?_⟩⟩
            unfold tNoPart
            refine ⟨_, rfl, m, rfl, r, _, rfl, .inl (.inl (s6 _ _ hrow)), fun p np => ?_⟩
            have npD : p ≠ D2 := fun z => by rw [z, G6.top] at np; cases np
            have npr : p ∉ rs := fun z => by
              obtain ⟨j, hj, e⟩ := List.mem_iff_getElem.mp z
              have := G6.row j p (by rw [List.getElem?_eq_getElem hj, e])
              rw [np] at this
              cases this
            have G7 := G6.off (o := .lst (cutV ((cr (fun s k => pre (addLs fam) s k) (i + 1) i).map V.int) none (some m))) npD npr
            refine ⟨rs.map V.ref, G7.top, ?_, fun b o z => ?_, rs ++ [p], G7.grow ?_ npD npr, fun q hq => ?_⟩
            · rw [List.length_map, G6.cnt]
              exact small1000 (by omega)
            · rw [upd_ne (ne_of_none z nD2)]
              exact same_new np _ _ (s6 _ _ z)
            · rw [upd_same, cut_to, ← List.map_take, shRow_La hp]
            · rcases List.mem_append.mp hq with z | z
              · exact fr q z
              · rw [List.mem_singleton.mp z]
                exact s4.free (s6.free np)
          · rintro H6 ⟨s6, rs, G6, fr⟩
            rw [List.length_map, G5.cnt] at G6
            exact q H6 D2 rs (s4.trans s6) nD2' fr G6
end
end K46


namespace K46
open PySem PySem.Spec PyProof.Rows L2 Fa
abbrev s_is_integer : Stmt := topS 6
abbrev N_is_integer : List Str := ["thing"]
theorem sc_is_integer : FnScope N_is_integer ["thing"] (defScope s_is_integer) := ⟨rfl, rfl, rfl, by decide +kernel, rfl, by decide +kernel, by decide +kernel⟩
abbrev s_is_row : Stmt := topS 8
abbrev N_is_row : List Str := ["thing", "length", "number"]
theorem sc_is_row : FnScope N_is_row ["thing", "length"] (defScope s_is_row) := ⟨rfl, rfl, rfl, by decide +kernel, rfl, by decide +kernel, by decide +kernel⟩
abbrev s_is_sheet : Stmt := topS 9
abbrev N_is_sheet : List Str := ["thing", "last_row", "width", "day", "row"]
theorem sc_is_sheet : FnScope N_is_sheet ["thing"] (defScope s_is_sheet) := ⟨rfl, rfl, rfl, by decide +kernel, rfl, by decide +kernel, by decide +kernel⟩
section
variable {P : Program} {w : World} {K : PySem.W.Frag} {mg : Str → Option Value} {base : Heap}
def spIsInt : Sp := fun vs H Q _ => ∃ i : Int, vs = [.int i] ∧ Q (.bl true) H
def spRow : Sp := fun vs H Q _ => ∃ (r : Addr) (l : List Int) (L : Int), vs = [.ref r, .int L] ∧ L = l.length ∧ H r = some (.lst (l.map V.int)) ∧ l.length ≤ 900 ∧ (∀ x ∈ l, 0 ≤ x) ∧ ∀ H', Same H H' → Q (.bl true) H'
def spIsSh : Sp := fun vs H Q _ => ∃ (g : Addr) (n w : Nat) (f : Nat → List Int), vs = [.ref g] ∧ ShAt H g n w f ∧ ∀ H', Same H H' → Q (.bl true) H'
theorem b_int : bootBuiltins "int" = some (.type "int") := by decide +kernel
theorem b_list : bootBuiltins "list" = some (.type "list") := by decide +kernel
theorem b_tuple : bootBuiltins "tuple" = some (.type "tuple") := by decide +kernel
theorem ok_isint {f : Addr} {fd : FuncData} {k : Nat} (F : Fun K "is_integer" "is_integer" s_is_integer f fd) (m_type : mg "type" = none) (m_int : mg "int" = none) : FnOk P w K mg base CX0 (k + 1) f fd ["thing"] spIsInt := by
  refine F.ok sc_is_integer (fun vs H Q E h => ?_) (fun cdv A outer s H vs Q E hr h => ?_)
  · obtain ⟨i, rfl, _⟩ := h
    rfl
  · obtain ⟨i, rfl, q⟩ := h
    refine ⟨_, (pss_one (ps_ret (pe_cmpR Fa.op_eqTs (pe_callTy (Fa.tyQ K) (by rfl) m_type PyProof.Rows.boot_type (pa_cons (pv 0) pa_nil)) (pe_bltn (v := .ty "int") rfl m_int b_int rfl) (nomark _)))), ?_⟩
    exact ⟨_, rfl, _, _, rfl, .int i, "int", rfl, rfl, .inl rfl, q⟩
theorem ok_row {f fI : Addr} {fd fdI : FuncData} {k : Nat} (F : Fun K "is_row" "is_row" s_is_row f fd) (F_is_integer : Fun K "is_integer" "is_integer" s_is_integer fI fdI) (G_is_integer : FnOk P w K mg base CX0 k fI fdI ["thing"] spIsInt) (b_is_integer : Binds K fdI ["thing"] [])
    (g_is_integer : mg "is_integer" = some (.ref fI)) (m_type : mg "type" = none) (m_list : mg "list" = none) (m_len : mg "len" = none) (m_all : mg "all" = none) : FnOk P w K mg base CX0 (k + 1) f fd ["thing", "length"] spRow := by
  refine F.ok sc_is_row (fun vs H Q E h => ?_) (fun cdv A outer s H vs Q E hr h => ?_)
  · obtain ⟨r, l, _, rfl, _⟩ := h
    rfl
  · obtain ⟨r, l, L, rfl, hL, e, hl, nn, q⟩ := h
    refine ⟨_, (pss_cons (ps_if (PW.pt (pw_or (pt_cmpR Fa.op_neTs (pe_callTy (Fa.tyQ K) (by rfl) m_type PyProof.Rows.boot_type (pa_cons (pv 0) pa_nil)) (pe_bltn (v := .ty "list") rfl m_list b_list rfl) (nomark _)) (pw_or1 (pt_cmpR op_ne (pe_callB (Fa.lenQ K) (by rfl) m_len PySem.boot_len (pa_cons (pv 0) pa_nil)) (pv 1) (nomark _))))) (pss_one (ps_ret pe_bl)) pss_nil)
  (pss_one (ps_ret (pe_callB (Fa.allQ K rfl) (by rfl) m_all PyProof.Rows.boot_all (pa_cons (pe_lc (own := [("number", 2)]) (g := (gName 2)) (tt := tYes) rfl sc_is_row.nd (Fa.listQ K (pv 0)) (blkOk_by (N := N_is_row) (sc := defScope s_is_row) (by decide +kernel)) (fun _ _ _ _ _ => (pg_name (i := 2) sc_is_row.nd rfl (by first | exact Or.inl rfl | exact Or.inr rfl))) (fun _ _ _ _ _ => pts_nil) (fun _ _ _ _ _ => (pe_and (pe_call G_is_integer (hr.mono (by omega)) (by rfl) g_is_integer F_is_integer.kp b_is_integer .nil pass0 (pa_cons (pv 2) pa_nil)) (pe_one (pe_cmpR op_ge (pv 2) pe_int (nomark _)))))) pa_nil))))), ?_⟩
    refine ⟨_, rfl, _, "list", rfl, .lst (.inl (.inl e)), "list", rfl, rfl, .inr (.inl rfl), _, rfl, iteF ⟨_, rfl, r, _, rfl, .inl (.inl (.inl e)), _, rfl, rfl, _, rfl, iteNe ?_ ?_⟩⟩
    · rw [List.length_map, hL]
    · refine ⟨_, rfl, r, rfl, ⟨_, .inl (.inl e)⟩, fun D nD => ?_⟩
      refine lc_it (walk_list (xs := l.map V.int)) (fun j H2 => Same H H2 ∧ H2 D = some (.lst (yesV j))) ?_ ?_ ?_ ?_
      · exact ⟨same_new nD, upd_same⟩
      · rintro j H2 _ ⟨s2, _⟩
        exact .inl (.inl (s2 _ _ e))
      · rintro j u _ H2 hj ⟨s2, eD⟩ ⟨rfl, eu⟩
        obtain ⟨d, ed, rfl⟩ := int_at eu
        rw [List.length_map] at hj
        have dn : 0 ≤ d := nn d (List.mem_of_getElem? ed)
        refine ⟨rfl, yes_if ⟨_, rfl, d, rfl, _, rfl, iteT ⟨_, rfl, _, _, rfl, rfl, _, eD, ?_, ?_, ?_⟩⟩⟩
        · rw [yes_len]
          exact small1000 (by omega)
        · intro c o z
          rw [upd_ne (ne_of_none z nD)]
          exact s2 _ _ z
        · rw [upd_same, yes_snoc (decide_eq_true dn)]
      · rintro H2 ⟨s2, eD⟩
        refine ⟨D, _, rfl, .inl (.inl eD), ?_⟩
        rw [yes_all]
        exact q _ s2
theorem ok_issh {f fR : Addr} {fd fdR : FuncData} {k : Nat} (F : Fun K "is_sheet" "is_sheet" s_is_sheet f fd) (F_is_row : Fun K "is_row" "is_row" s_is_row fR fdR) (G_is_row : FnOk P w K mg base CX0 k fR fdR ["thing", "length"] spRow) (b_is_row : Binds K fdR ["thing", "length"] [])
    (g_is_row : mg "is_row" = some (.ref fR)) {tk : Tok} (g_MOST_DAYS : mg "MOST_DAYS" = some (.int 30 tk)) (m_type : mg "type" = none) (m_list : mg "list" = none) (m_len : mg "len" = none) (m_all : mg "all" = none) (m_min : mg "min" = none) (m_enumerate : mg "enumerate" = none) : FnOk P w K mg base CX0 (k + 1) f fd ["thing"] spIsSh := by
  refine F.ok sc_is_sheet (fun vs H Q E h => ?_) (fun cdv A outer s H vs Q E hr h => ?_)
  · obtain ⟨g, _, _, _, rfl, _⟩ := h
    rfl
  · obtain ⟨g, n, m, f, rfl, ⟨⟨rows, G⟩, hf⟩, q⟩ := h
    refine ⟨_, (pss_cons (ps_if (PW.pt (pw_or (pt_cmpR Fa.op_neTs (pe_callTy (Fa.tyQ K) (by rfl) m_type PyProof.Rows.boot_type (pa_cons (pv 0) pa_nil)) (pe_bltn (v := .ty "list") rfl m_list b_list rfl) (nomark _)) (pw_or1 (pt_not (pt_chain op_le op_le pe_int (pe_callB (Fa.lenQ K) (by rfl) m_len PySem.boot_len (pa_cons (pv 0) pa_nil)) (pe_glob (v := .int 30) rfl g_MOST_DAYS ⟨_, rfl⟩)))))) (pss_one (ps_ret pe_bl)) pss_nil)
  (pss_cons (ps_set (i := 1) sc_is_sheet.nd rfl (by first | exact Or.inl rfl | exact Or.inr rfl) (pe_ix (Fa.ixL K) (pv 0) (pe_un un_neg pe_int) (fun _ _ => rfl)))
  (pss_cons (ps_if (PW.pt (pw_or (pt_cmpR Fa.op_neTs (pe_callTy (Fa.tyQ K) (by rfl) m_type PyProof.Rows.boot_type (pa_cons (pv 1) pa_nil)) (pe_bltn (v := .ty "list") rfl m_list b_list rfl) (nomark _)) (pw_or1 (pt_not (pt_chain op_le op_le pe_int (pe_callB (Fa.lenQ K) (by rfl) m_len PySem.boot_len (pa_cons (pv 1) pa_nil)) (pe_callB (Fa.lenQ K) (by rfl) m_len PySem.boot_len (pa_cons (pv 0) pa_nil))))))) (pss_one (ps_ret pe_bl)) pss_nil)
  (pss_cons (ps_set (i := 2) sc_is_sheet.nd rfl (by first | exact Or.inl rfl | exact Or.inr rfl) (pe_callB (Fa.lenQ K) (by rfl) m_len PySem.boot_len (pa_cons (pv 1) pa_nil)))
  (pss_one (ps_ret (pe_callB (Fa.allQ K rfl) (by rfl) m_all PyProof.Rows.boot_all (pa_cons (pe_lc (own := [("day", 3), ("row", 4)]) (g := (gTup K 2 (gCons (gName 3) (gCons (gName 4) gNil)))) (tt := tYes) rfl sc_is_sheet.nd (pi_enum (by rfl) m_enumerate (pa_cons (pv 0) pa_nil)) (blkOk_by (N := N_is_sheet) (sc := defScope s_is_sheet) (by decide +kernel)) (fun _ _ _ _ _ => (Fa.pgTQ K rfl (pgs_cons (pg_name (i := 3) sc_is_sheet.nd rfl (by first | exact Or.inl rfl | exact Or.inr rfl)) (pgs_cons (pg_name (i := 4) sc_is_sheet.nd rfl (by first | exact Or.inl rfl | exact Or.inr rfl)) pgs_nil)))) (fun _ _ _ _ _ => pts_nil) (fun _ _ _ _ _ => (pe_call G_is_row (hr.mono (by omega)) (by rfl) g_is_row F_is_row.kp b_is_row .nil pass0 (pa_cons (pv 4) (pa_cons (pe_callB (call_min2 rfl) (by rfl) m_min PyProof.Rows.boot_min (pa_cons (pe_op op_add (pv 3) pe_int) (pa_cons (pv 2) pa_nil))) pa_nil))))) pa_nil)))))))), ?_⟩
    have n1 := hf.n1
    have n30 := hf.n30
    have w1 := hf.w1
    have wn := hf.wn
    have rl : (rows.map V.ref).length = n := by rw [List.length_map, G.cnt]
    obtain ⟨r, ea, er, hr'⟩ := G.last n1
    have ll : ((f (n - 1)).map V.int).length = m := by rw [List.length_map, hf.last]
    refine ⟨_, rfl, _, "list", rfl, .lst (.inl (.inl G.top)), "list", rfl, rfl, .inr (.inl rfl), _, rfl, iteF ⟨_, rfl, g, _, rfl, .inl (.inl (.inl G.top)), _, _, rfl, rfl, _, rfl, iteDS (by rw [rl]; omega) ⟨_, _, rfl, rfl, _, rfl, iteN0 (decide_eq_true (by rw [rl]; omega)) ?_⟩⟩⟩
    refine ⟨_, rfl, 1, rfl, g, _, _, _, rfl, rfl, .inl (.inl G.top), ea, ?_⟩
    refine ⟨_, rfl, _, "list", rfl, .lst (.inl (.inl hr')), "list", rfl, rfl, .inr (.inl rfl), _, rfl, iteF ⟨_, rfl, r, _, rfl, .inl (.inl (.inl hr')), _, _, rfl, rfl, _, rfl, iteDS (by rw [ll]; omega) ⟨_, rfl, g, _, rfl, .inl (.inl (.inl G.top)), _, _, rfl, rfl, _, rfl, iteN0 (decide_eq_true (by rw [ll, rl]; omega)) ?_⟩⟩⟩
    refine ⟨_, rfl, r, _, rfl, .inl (.inl (.inl hr')), ?_⟩
    refine ⟨_, rfl, g, _, rfl, .inl (.inl G.top), fun D nD => ?_⟩
    refine lc_it (walk_enum (xs := rows.map V.ref)) (fun i H2 => Same H H2 ∧ H2 D = some (.lst (yesV i))) ?_ ?_ ?_ ?_
    · exact ⟨same_new nD, upd_same⟩
    · rintro i H2 _ ⟨s2, _⟩
      exact .inl (.inl (s2 _ _ G.top))
    · rintro i v H2 _ hi ⟨s2, eD⟩ ⟨T, x, y, rfl, nT, rfl, ex, ey⟩
      rw [rl] at hi
      obtain ⟨r, er, hr', hrow⟩ := G.get (s := i) hi
      have ey : (rows.map V.ref)[i]? = some y := ey
      rw [List.getElem?_map, er] at ey
      cases ey
      cases ex
      have s3 : Same H (upd H2 T (.tup [.int (i : Nat), .ref r])) := s2.trans (same_new nT)
      have eD3 := (same_new (o := .tup [.int (i : Nat), .ref r]) nT) _ _ eD
      refine ⟨T, _, rfl, .inl (.inl upd_same), rfl, _, _, rfl, _, _, rfl, rfl, rfl, yes_if ?_⟩
      refine ⟨_, rfl, _, rfl, _, _, rfl, rfl, _, rfl, _, _, rfl, r, f i, _, rfl, ?_, s3 _ _ hrow, ?_, hf.nn i hi, fun H4 s4 => ?_⟩
      · rw [hf.len i hi, ll]
        split <;> omega
      · rw [hf.len i hi]
        omega
      · refine ⟨_, s4 _ _ eD3, ?_, ?_, ?_⟩
        · rw [yes_len]
          exact small1000 (by omega)
        · intro c o z
          rw [upd_ne (ne_of_none z nD)]
          exact s4 _ _ (s3 _ _ z)
        · rw [upd_same, yes_snoc rfl]
    · rintro H2 ⟨s2, eD⟩
      refine ⟨D, _, rfl, .inl (.inl eD), ?_⟩
      rw [yes_all]
      exact q _ s2
end
end K46

namespace K46
open PySem PySem.Spec PyProof.Rows L2 Fa
abbrev s_check_sheet : Stmt := topS 10
abbrev N_check_sheet : List Str := ["sheet"]
theorem sc_check_sheet : FnScope N_check_sheet ["sheet"] (defScope s_check_sheet) := ⟨rfl, rfl, rfl, by decide +kernel, rfl, by decide +kernel, by decide +kernel⟩
abbrev s_told_number : Stmt := topS 13
abbrev N_told_number : List Str := ["sheet", "first", "last"]
theorem sc_told_number : FnScope N_told_number ["sheet", "first", "last"] (defScope s_told_number) := ⟨rfl, rfl, rfl, by decide +kernel, rfl, by decide +kernel, by decide +kernel⟩
section
variable {P : Program} {w : World} {K : PySem.W.Frag} {mg : Str → Option Value} {base : Heap}
def spCkSh : Sp := fun vs H Q _ => ∃ (g : Addr) (n w : Nat) (f : Nat → List Int), vs = [.ref g] ∧ ShAt H g n w f ∧ ∀ H', Same H H' → Q .non H'
/-- the number of a told stretch, 0 for none -/
def uu (f : Nat → List Int) (a b : Int) : Int := if a ≤ b then (f b.toNat).getD (b - a).toNat 0 else 0
/-- within what is told -/
def Told (n w : Nat) (a b : Int) : Prop := a ≤ b → 0 ≤ a ∧ b < n ∧ b - a < w
def spU : Sp := fun vs H Q _ => ∃ (g : Addr) (n w : Nat) (f : Nat → List Int) (a b : Int), vs = [.ref g, .int a, .int b] ∧ ShAt H g n w f ∧ Told n w a b ∧ Q (.int (uu f a b)) H
theorem uu_get {n w : Nat} {f : Nat → List Int} (hf : Shf n w f) {a b : Int} (h : a ≤ b) (t : Told n w a b) : (f b.toNat)[(b - a).toNat]? = some (uu f a b) := by
  obtain ⟨t1, t2, t3⟩ := t h
  have l := hf.len b.toNat (by omega)
  have lt : (b - a).toNat < (f b.toNat).length := by omega
  unfold uu
  rw [if_pos h, List.getD_eq_getElem?_getD, List.getElem?_eq_getElem lt]
  rfl
theorem ok_cksh {f fG : Addr} {fd fdG : FuncData} {k : Nat} (F : Fun K "check_sheet" "check_sheet" s_check_sheet f fd) (F_is_sheet : Fun K "is_sheet" "is_sheet" s_is_sheet fG fdG) (G_is_sheet : FnOk P w K mg base CX0 k fG fdG ["thing"] spIsSh) (b_is_sheet : Binds K fdG ["thing"] [])
    (g_is_sheet : mg "is_sheet" = some (.ref fG)) : FnOk P w K mg base CX0 (k + 1) f fd ["sheet"] spCkSh := by
  refine F.ok sc_check_sheet (fun vs H Q E h => ?_) (fun cdv A outer s H vs Q E hr h => ?_)
  · obtain ⟨g, _, _, _, rfl, _⟩ := h
    rfl
  · obtain ⟨g, n, m, f, rfl, hS, q⟩ := h
    refine ⟨_, (pss_one (ps_if (pt_not (pt_val (pe_call G_is_sheet (hr.mono (by omega)) (by rfl) g_is_sheet F_is_sheet.kp b_is_sheet .nil pass0 (pa_cons (pv 0) pa_nil)))) Fa.pss_never pss_nil)), ?_⟩
    exact ⟨_, rfl, g, n, m, f, rfl, hS, fun H' s' => ⟨_, rfl, iteN0 rfl (q H' s')⟩⟩
theorem ok_toldU {f : Addr} {fd : FuncData} {k : Nat} (F : Fun K "told_number" "told_number" s_told_number f fd) : FnOk P w K mg base CX0 (k + 1) f fd ["sheet", "first", "last"] spU := by
  refine F.ok sc_told_number (fun vs H Q E h => ?_) (fun cdv A outer s H vs Q E hr h => ?_)
  · obtain ⟨g, _, _, _, _, _, rfl, _⟩ := h
    rfl
  · obtain ⟨g, n, m, f, a, b, rfl, ⟨⟨rows, G⟩, hS⟩, ht, q⟩ := h
    refine ⟨_, (pss_cons (ps_if (pt_cmpR op_gt (pv 1) (pv 2) (nomark _)) (pss_one (ps_ret pe_int)) pss_nil)
  (pss_one (ps_ret (pe_ix (Fa.ixL K) (pe_ix (Fa.ixL K) (pv 0) (pv 2) (fun _ _ => rfl)) (pe_op op_sub (pv 2) (pv 1)) (fun _ _ => rfl))))), ?_⟩
    by_cases ab : a ≤ b
    · obtain ⟨t1, t2, t3⟩ := ht ab
      obtain ⟨r, er, _, hrow⟩ := G.get (s := b.toNat) (by omega)
      have at1 : atI (rows.map V.ref) b = some (.ref r) := atI_int (by omega) (by rw [List.getElem?_map, er]; rfl)
      have at2 : atI ((f b.toNat).map V.int) (b - a) = some (.int (uu f a b)) := atI_int (by omega) (by rw [List.getElem?_map, uu_get hS ab ht]; rfl)
      exact ⟨_, rfl, _, rfl, _, _, rfl, rfl, _, rfl, iteDF (by omega) ⟨_, rfl, _, rfl, g, _, _, _, rfl, rfl, .inl (.inl G.top), at1, _, rfl, _, rfl, _, _, rfl, rfl, r, _, _, _, rfl, rfl, .inl (.inl hrow), at2, q⟩⟩
    · refine ⟨_, rfl, _, rfl, _, _, rfl, rfl, _, rfl, iteDS (by omega) ?_⟩
      unfold uu at q
      rw [if_neg ab] at q
      exact q
end
end K46

namespace K46
open PySem PySem.Spec PyProof.Rows L2 Fa
abbrev s_gap_between : Stmt := topS 15
abbrev N_gap_between : List Str := ["sheet", "first", "second", "from_first", "behind_first"]
theorem sc_gap_between : FnScope N_gap_between ["sheet", "first", "second"] (defScope s_gap_between) := ⟨rfl, rfl, rfl, by decide +kernel, rfl, by decide +kernel, by decide +kernel⟩
abbrev s_end_of_away : Stmt := topS 17
abbrev N_end_of_away : List Str := ["sheet", "day"]
theorem sc_end_of_away : FnScope N_end_of_away ["sheet", "day"] (defScope s_end_of_away) := ⟨rfl, rfl, rfl, by decide +kernel, rfl, by decide +kernel, by decide +kernel⟩
abbrev s_away_from : Stmt := topS 16
abbrev N_away_from : List Str := ["sheet", "day", "end"]
theorem sc_away_from : FnScope N_away_from ["sheet", "day"] (defScope s_away_from) := ⟨rfl, rfl, rfl, by decide +kernel, rfl, by decide +kernel, by decide +kernel⟩
abbrev s_start_of_fresh : Stmt := topS 19
abbrev N_start_of_fresh : List Str := ["sheet", "day"]
theorem sc_start_of_fresh : FnScope N_start_of_fresh ["sheet", "day"] (defScope s_start_of_fresh) := ⟨rfl, rfl, rfl, by decide +kernel, rfl, by decide +kernel, by decide +kernel⟩
abbrev s_fresh_on : Stmt := topS 18
abbrev N_fresh_on : List Str := ["sheet", "day", "start"]
theorem sc_fresh_on : FnScope N_fresh_on ["sheet", "day"] (defScope s_fresh_on) := ⟨rfl, rfl, rfl, by decide +kernel, rfl, by decide +kernel, by decide +kernel⟩
abbrev s__told_pairs : Stmt := topS 20
abbrev N__told_pairs : List Str := ["sheet", "days", "width", "first", "second"]
theorem sc__told_pairs : FnScope N__told_pairs ["sheet"] (defScope s__told_pairs) := ⟨rfl, rfl, rfl, by decide +kernel, rfl, by decide +kernel, by decide +kernel⟩
/-- the numbers of R1 and R2 -/
def gp (f : Nat → List Int) (a b : Int) : Int := uu f a (b - 1) + uu f (a + 1) b - uu f (a + 1) (b - 1) - uu f a b
def eA (n w : Nat) (a : Int) : Int := if (n : Int) - 1 < a + w - 1 then (n : Int) - 1 else a + w - 1
def sF (w : Nat) (b : Int) : Int := if b - w + 1 > 0 then b - w + 1 else 0
def aw (f : Nat → List Int) (n w : Nat) (a : Int) : Int := uu f a (eA n w a) - uu f (a + 1) (eA n w a)
def fr (f : Nat → List Int) (w : Nat) (b : Int) : Int := uu f (sF w b) b - uu f (sF w b) (b - 1)
/-- the gaps of a day, the gaps of all days -/
def gRow (f : Nat → List Int) (a m : Nat) : List Tri := ((List.range m).map fun j : Nat => ((a : Int), (a : Int) + 1 + (j : Int), gp f a ((a : Int) + 1 + (j : Int)))).filter fun p => decide (p.2.2 ≠ 0)
def gAll (f : Nat → List Int) (n w i : Nat) : List Tri := (List.range i).flatMap fun a => gRow f a (min (a + w) n - (a + 1))
theorem gRow_succ (f : Nat → List Int) (a m : Nat) : gRow f a (m + 1) = gRow f a m ++ if gp f a ((a : Int) + 1 + (m : Int)) ≠ 0 then [((a : Int), (a : Int) + 1 + (m : Int), gp f a ((a : Int) + 1 + (m : Int)))] else [] := by
  unfold gRow
  rw [List.range_succ, List.map_append, List.filter_append]
  congr 1
  show List.filter _ [_] = _
  rw [List.filter_cons, List.filter_nil]
  by_cases h : gp f a ((a : Int) + 1 + (m : Int)) ≠ 0
  · rw [if_pos h, if_pos (decide_eq_true h)]
  · rw [if_neg h, if_neg (by rw [decide_eq_false h]; exact Bool.false_ne_true)]
theorem gAll_succ (f : Nat → List Int) (n w i : Nat) : gAll f n w (i + 1) = gAll f n w i ++ gRow f i (min (i + w) n - (i + 1)) := by
  unfold gAll
  rw [List.range_succ, List.flatMap_append]
  simp
theorem gRow_len (f : Nat → List Int) (a m : Nat) : (gRow f a m).length ≤ m := by
  have := List.length_filter_le (fun p : Tri => decide (p.2.2 ≠ 0)) ((List.range m).map fun j : Nat => ((a : Int), (a : Int) + 1 + (j : Int), gp f a ((a : Int) + 1 + (j : Int))))
  rw [List.length_map, List.length_range] at this
  exact this
theorem gAll_len (f : Nat → List Int) {n w : Nat} (hn : n ≤ 30) : ∀ i, (gAll f n w i).length ≤ 30 * i
  | 0 => Nat.le_refl _
  | i + 1 => by
    rw [gAll_succ, List.length_append]
    have := gAll_len f (w := w) hn i
    have := gRow_len f i (min (i + w) n - (i + 1))
    omega
/-- pairs of unlike days that stand in one told stretch -/
def prRow (a m : Nat) : List (Int × Int) := (List.range m).map fun j : Nat => ((a : Int), (a : Int) + 1 + (j : Int))
def prAll (n w i : Nat) : List (Int × Int) := (List.range i).flatMap fun a => prRow a (min (a + w) n - (a + 1))
theorem prRow_succ (a m : Nat) : prRow a (m + 1) = prRow a m ++ [((a : Int), (a : Int) + 1 + (m : Int))] := by
  unfold prRow
  rw [List.range_succ, List.map_append]
  rfl
theorem prAll_succ (n w i : Nat) : prAll n w (i + 1) = prAll n w i ++ prRow i (min (i + w) n - (i + 1)) := by
  unfold prAll
  rw [List.range_succ, List.flatMap_append]
  simp
theorem prRow_len (a m : Nat) : (prRow a m).length = m := by
  unfold prRow
  rw [List.length_map, List.length_range]
theorem prAll_len {n w : Nat} (hn : n ≤ 30) : ∀ i, (prAll n w i).length ≤ 30 * i
  | 0 => Nat.le_refl _
  | i + 1 => by
    rw [prAll_succ, List.length_append, prRow_len]
    have := prAll_len (w := w) hn i
    omega
theorem prAll_mem {n w i : Nat} {p : Int × Int} (h : p ∈ prAll n w i) (hi : i ≤ n) : 0 ≤ p.1 ∧ p.1 < p.2 ∧ p.2 < n ∧ p.2 - p.1 < w ∧ p.1 < i := by
  obtain ⟨a, ha, h2⟩ := List.mem_flatMap.mp h
  have ha := List.mem_range.mp ha
  obtain ⟨j, hj, rfl⟩ := List.mem_map.mp h2
  have hj := List.mem_range.mp hj
  show (0 : Int) ≤ (a : Int) ∧ (a : Int) < (a : Int) + 1 + (j : Int) ∧ (a : Int) + 1 + (j : Int) < n ∧ (a : Int) + 1 + (j : Int) - (a : Int) < w ∧ (a : Int) < i
  omega
def gTri (f : Nat → List Int) (p : Int × Int) : Tri := (p.1, p.2, gp f p.1 p.2)
theorem gAll_pairs (f : Nat → List Int) (n w i : Nat) : gAll f n w i = ((prAll n w i).map (gTri f)).filter fun p => decide (p.2.2 ≠ 0) := by
  unfold gAll prAll
  rw [List.map_flatMap, List.filter_flatMap]
  refine congrArg (fun z => List.flatMap z (List.range i)) (funext fun a => ?_)
  unfold gRow prRow
  rw [List.map_map]
  rfl
section
variable {P : Program} {w : World} {K : PySem.W.Frag} {mg : Str → Option Value} {base : Heap}
def spGapB : Sp := fun vs H Q _ => ∃ (g : Addr) (n w : Nat) (f : Nat → List Int) (a b : Int), vs = [.ref g, .int a, .int b] ∧ ShAt H g n w f ∧ 0 ≤ a ∧ a < b ∧ b < n ∧ b - a < w ∧ Q (.int (gp f a b)) H
def spEndA : Sp := fun vs H Q _ => ∃ (g : Addr) (n w : Nat) (f : Nat → List Int) (a : Int), vs = [.ref g, .int a] ∧ ShAt H g n w f ∧ 0 ≤ a ∧ a < n ∧ Q (.int (eA n w a)) H
def spAwF : Sp := fun vs H Q _ => ∃ (g : Addr) (n w : Nat) (f : Nat → List Int) (a : Int), vs = [.ref g, .int a] ∧ ShAt H g n w f ∧ 0 ≤ a ∧ a < n ∧ Q (.int (aw f n w a)) H
def spStF : Sp := fun vs H Q _ => ∃ (g : Addr) (n w : Nat) (f : Nat → List Int) (b : Int), vs = [.ref g, .int b] ∧ ShAt H g n w f ∧ 0 ≤ b ∧ b < n ∧ Q (.int (sF w b)) H
def spFrO : Sp := fun vs H Q _ => ∃ (g : Addr) (n w : Nat) (f : Nat → List Int) (b : Int), vs = [.ref g, .int b] ∧ ShAt H g n w f ∧ 0 ≤ b ∧ b < n ∧ Q (.int (fr f w b)) H
def spGapsIn : Sp := fun vs H Q _ => ∃ (g : Addr) (n w : Nat) (f : Nat → List Int), vs = [.ref g] ∧ ShAt H g n w f ∧ ∀ H' l, Same H H' → H l = none → TrisAt H' l (gAll f n w n) → Q (.ref l) H'
theorem ok_gapb {f fT : Addr} {fd fdT : FuncData} {k : Nat} (F : Fun K "gap_between" "gap_between" s_gap_between f fd) (F_told_number : Fun K "told_number" "told_number" s_told_number fT fdT) (G_told_number : FnOk P w K mg base CX0 k fT fdT ["sheet", "first", "last"] spU) (b_told_number : Binds K fdT ["sheet", "first", "last"] [])
    (g_told_number : mg "told_number" = some (.ref fT)) : FnOk P w K mg base CX0 (k + 1) f fd ["sheet", "first", "second"] spGapB := by
  refine F.ok sc_gap_between (fun vs H Q E h => ?_) (fun cdv A outer s H vs Q E hr h => ?_)
  · obtain ⟨g, _, _, _, _, _, rfl, _⟩ := h
    rfl
  · obtain ⟨g, n, m, f, a, b, rfl, hS, h0, h1, h2, h3, q⟩ := h
    refine ⟨_, (pss_cons (ps_set (i := 3) sc_gap_between.nd rfl (by first | exact Or.inl rfl | exact Or.inr rfl) (pe_op op_sub (pe_call G_told_number (hr.mono (by omega)) (by rfl) g_told_number F_told_number.kp b_told_number .nil pass0 (pa_cons (pv 0) (pa_cons (pv 1) (pa_cons (pe_op op_sub (pv 2) pe_int) pa_nil)))) (pe_call G_told_number (hr.mono (by omega)) (by rfl) g_told_number F_told_number.kp b_told_number .nil pass0 (pa_cons (pv 0) (pa_cons (pv 1) (pa_cons (pv 2) pa_nil))))))
  (pss_cons (ps_set (i := 4) sc_gap_between.nd rfl (by first | exact Or.inl rfl | exact Or.inr rfl) (pe_op op_sub (pe_call G_told_number (hr.mono (by omega)) (by rfl) g_told_number F_told_number.kp b_told_number .nil pass0 (pa_cons (pv 0) (pa_cons (pe_op op_add (pv 1) pe_int) (pa_cons (pv 2) pa_nil)))) (pe_call G_told_number (hr.mono (by omega)) (by rfl) g_told_number F_told_number.kp b_told_number .nil pass0 (pa_cons (pv 0) (pa_cons (pe_op op_add (pv 1) pe_int) (pa_cons (pe_op op_sub (pv 2) pe_int) pa_nil))))))
  (pss_one (ps_ret (pe_op op_add (pv 3) (pv 4)))))), ?_⟩
    refine ⟨_, rfl, _, rfl, _, rfl, _, _, rfl, rfl, g, n, m, f, a, b - 1, rfl, hS, fun _ => ⟨by omega, by omega, by omega⟩, _, rfl, _, rfl, _, rfl, g, n, m, f, a, b, rfl, hS, fun _ => ⟨by omega, by omega, by omega⟩, _, _, rfl, rfl, ?_⟩
    refine ⟨_, rfl, _, rfl, _, _, rfl, rfl, _, rfl, g, n, m, f, a + 1, b, rfl, hS, fun _ => ⟨by omega, by omega, by omega⟩, _, rfl, _, rfl, _, _, rfl, rfl, _, rfl, _, _, rfl, rfl, g, n, m, f, a + 1, b - 1, rfl, hS, fun _ => ⟨by omega, by omega, by omega⟩, _, _, rfl, rfl, ?_⟩
    refine ⟨_, rfl, _, rfl, _, _, rfl, rfl, ?_⟩
    show Q (V.int (uu f a (b - 1) - uu f a b + (uu f (a + 1) b - uu f (a + 1) (b - 1)))) H
    have e : uu f a (b - 1) - uu f a b + (uu f (a + 1) b - uu f (a + 1) (b - 1)) = gp f a b := by
      unfold gp
      omega
    rw [e]
    exact q
theorem ok_enda {f : Addr} {fd : FuncData} {k : Nat} (F : Fun K "end_of_away" "end_of_away" s_end_of_away f fd) (m_len : mg "len" = none) (m_min : mg "min" = none) : FnOk P w K mg base CX0 (k + 1) f fd ["sheet", "day"] spEndA := by
  refine F.ok sc_end_of_away (fun vs H Q E h => ?_) (fun cdv A outer s H vs Q E hr h => ?_)
  · obtain ⟨g, _, _, _, _, rfl, _⟩ := h
    rfl
  · obtain ⟨g, n, m, f, a, rfl, ⟨⟨rows, G⟩, hf⟩, h0, h1, q⟩ := h
    refine ⟨_, (pss_one (ps_ret (pe_callB (call_min2 rfl) (by rfl) m_min PyProof.Rows.boot_min (pa_cons (pe_op op_sub (pe_op op_add (pv 1) (pe_callB (Fa.lenQ K) (by rfl) m_len PySem.boot_len (pa_cons (pe_ix (Fa.ixL K) (pv 0) (pe_un un_neg pe_int) (fun _ _ => rfl)) pa_nil))) pe_int) (pa_cons (pe_op op_sub (pe_callB (Fa.lenQ K) (by rfl) m_len PySem.boot_len (pa_cons (pv 0) pa_nil)) pe_int) pa_nil))))), ?_⟩
    obtain ⟨r, ea, er, hr'⟩ := G.last hf.n1
    refine ⟨_, rfl, _, rfl, 1, rfl, g, _, _, _, rfl, rfl, .inl (.inl G.top), ea, r, _, rfl, .inl (.inl (.inl hr')), _, _, rfl, rfl, _, _, rfl, rfl, _, rfl, g, _, rfl, .inl (.inl (.inl G.top)), _, _, rfl, rfl, _, _, rfl, ?_⟩
    rw [List.length_map, List.length_map, G.cnt, hf.last]
    exact q
theorem ok_awf {f fE fT : Addr} {fd fdE fdT : FuncData} {k : Nat} (F : Fun K "away_from" "away_from" s_away_from f fd) (F_end_of_away : Fun K "end_of_away" "end_of_away" s_end_of_away fE fdE) (G_end_of_away : FnOk P w K mg base CX0 k fE fdE ["sheet", "day"] spEndA) (b_end_of_away : Binds K fdE ["sheet", "day"] []) (g_end_of_away : mg "end_of_away" = some (.ref fE))
    (F_told_number : Fun K "told_number" "told_number" s_told_number fT fdT) (G_told_number : FnOk P w K mg base CX0 k fT fdT ["sheet", "first", "last"] spU) (b_told_number : Binds K fdT ["sheet", "first", "last"] [])
    (g_told_number : mg "told_number" = some (.ref fT)) : FnOk P w K mg base CX0 (k + 1) f fd ["sheet", "day"] spAwF := by
  refine F.ok sc_away_from (fun vs H Q E h => ?_) (fun cdv A outer s H vs Q E hr h => ?_)
  · obtain ⟨g, _, _, _, _, rfl, _⟩ := h
    rfl
  · obtain ⟨g, n, m, f, a, rfl, hS, h0, h1, q⟩ := h
    refine ⟨_, (pss_cons (ps_set (i := 2) sc_away_from.nd rfl (by first | exact Or.inl rfl | exact Or.inr rfl) (pe_call G_end_of_away (hr.mono (by omega)) (by rfl) g_end_of_away F_end_of_away.kp b_end_of_away .nil pass0 (pa_cons (pv 0) (pa_cons (pv 1) pa_nil))))
  (pss_one (ps_ret (pe_op op_sub (pe_call G_told_number (hr.mono (by omega)) (by rfl) g_told_number F_told_number.kp b_told_number .nil pass0 (pa_cons (pv 0) (pa_cons (pv 1) (pa_cons (pv 2) pa_nil)))) (pe_call G_told_number (hr.mono (by omega)) (by rfl) g_told_number F_told_number.kp b_told_number .nil pass0 (pa_cons (pv 0) (pa_cons (pe_op op_add (pv 1) pe_int) (pa_cons (pv 2) pa_nil)))))))), ?_⟩
    have w1 := hS.2.w1
    have e1 : eA n m a < n ∧ eA n m a - a < m := by
      unfold eA
      split <;> omega
    exact ⟨_, rfl, _, rfl, g, n, m, f, a, rfl, hS, h0, h1, _, rfl, _, rfl, _, rfl, g, n, m, f, a, eA n m a, rfl, hS, fun _ => ⟨h0, e1.1, e1.2⟩, _, rfl, _, rfl, _, _, rfl, rfl, _, rfl, g, n, m, f, a + 1, eA n m a, rfl, hS, fun _ => ⟨by omega, e1.1, by omega⟩, _, _, rfl, rfl, q⟩
theorem ok_stf {f : Addr} {fd : FuncData} {k : Nat} (F : Fun K "start_of_fresh" "start_of_fresh" s_start_of_fresh f fd) (m_len : mg "len" = none) (m_max : mg "max" = none) : FnOk P w K mg base CX0 (k + 1) f fd ["sheet", "day"] spStF := by
  refine F.ok sc_start_of_fresh (fun vs H Q E h => ?_) (fun cdv A outer s H vs Q E hr h => ?_)
  · obtain ⟨g, _, _, _, _, rfl, _⟩ := h
    rfl
  · obtain ⟨g, n, m, f, b, rfl, ⟨⟨rows, G⟩, hf⟩, h0, h1, q⟩ := h
    refine ⟨_, (pss_one (ps_ret (pe_callB (call_max2 rfl) (by rfl) m_max PyProof.Rows.boot_max (pa_cons pe_int (pa_cons (pe_op op_add (pe_op op_sub (pv 1) (pe_callB (Fa.lenQ K) (by rfl) m_len PySem.boot_len (pa_cons (pe_ix (Fa.ixL K) (pv 0) (pe_un un_neg pe_int) (fun _ _ => rfl)) pa_nil))) pe_int) pa_nil))))), ?_⟩
    obtain ⟨r, ea, er, hr'⟩ := G.last hf.n1
    refine ⟨_, rfl, _, rfl, 1, rfl, g, _, _, _, rfl, rfl, .inl (.inl G.top), ea, r, _, rfl, .inl (.inl (.inl hr')), _, _, rfl, rfl, _, _, rfl, rfl, 0, _, rfl, ?_⟩
    rw [List.length_map, hf.last]
    exact q
theorem ok_fro {f fE fT : Addr} {fd fdE fdT : FuncData} {k : Nat} (F : Fun K "fresh_on" "fresh_on" s_fresh_on f fd) (F_start_of_fresh : Fun K "start_of_fresh" "start_of_fresh" s_start_of_fresh fE fdE) (G_start_of_fresh : FnOk P w K mg base CX0 k fE fdE ["sheet", "day"] spStF) (b_start_of_fresh : Binds K fdE ["sheet", "day"] []) (g_start_of_fresh : mg "start_of_fresh" = some (.ref fE))
    (F_told_number : Fun K "told_number" "told_number" s_told_number fT fdT) (G_told_number : FnOk P w K mg base CX0 k fT fdT ["sheet", "first", "last"] spU) (b_told_number : Binds K fdT ["sheet", "first", "last"] [])
    (g_told_number : mg "told_number" = some (.ref fT)) : FnOk P w K mg base CX0 (k + 1) f fd ["sheet", "day"] spFrO := by
  refine F.ok sc_fresh_on (fun vs H Q E h => ?_) (fun cdv A outer s H vs Q E hr h => ?_)
  · obtain ⟨g, _, _, _, _, rfl, _⟩ := h
    rfl
  · obtain ⟨g, n, m, f, b, rfl, hS, h0, h1, q⟩ := h
    refine ⟨_, (pss_cons (ps_set (i := 2) sc_fresh_on.nd rfl (by first | exact Or.inl rfl | exact Or.inr rfl) (pe_call G_start_of_fresh (hr.mono (by omega)) (by rfl) g_start_of_fresh F_start_of_fresh.kp b_start_of_fresh .nil pass0 (pa_cons (pv 0) (pa_cons (pv 1) pa_nil))))
  (pss_one (ps_ret (pe_op op_sub (pe_call G_told_number (hr.mono (by omega)) (by rfl) g_told_number F_told_number.kp b_told_number .nil pass0 (pa_cons (pv 0) (pa_cons (pv 2) (pa_cons (pv 1) pa_nil)))) (pe_call G_told_number (hr.mono (by omega)) (by rfl) g_told_number F_told_number.kp b_told_number .nil pass0 (pa_cons (pv 0) (pa_cons (pv 2) (pa_cons (pe_op op_sub (pv 1) pe_int) pa_nil)))))))), ?_⟩
    have w1 := hS.2.w1
    have e1 : 0 ≤ sF m b ∧ b - sF m b < m := by
      unfold sF
      split <;> omega
    exact ⟨_, rfl, _, rfl, g, n, m, f, b, rfl, hS, h0, h1, _, rfl, _, rfl, _, rfl, g, n, m, f, sF m b, b, rfl, hS, fun _ => ⟨e1.1, h1, e1.2⟩, _, rfl, _, rfl, _, rfl, _, _, rfl, rfl, g, n, m, f, sF m b, b - 1, rfl, hS, fun _ => ⟨e1.1, by omega, by omega⟩, _, _, rfl, rfl, q⟩
def spPairs : Sp := fun vs H Q _ => ∃ (g : Addr) (n w : Nat) (f : Nat → List Int), vs = [.ref g] ∧ ShAt H g n w f ∧ ∀ H' l xs, Same H H' → H l = none → H' l = some (.lst xs) → Paired (DuoAt H') xs (prAll n w n) → Q (.ref l) H'
theorem ok_pairs {f : Addr} {fd : FuncData} {k : Nat} (F : Fun K "_told_pairs" "_told_pairs" s__told_pairs f fd) (m_len : mg "len" = none) (m_min : mg "min" = none) (m_range : mg "range" = none) : FnOk P w K mg base CX0 (k + 1) f fd ["sheet"] spPairs := by
  refine F.ok sc__told_pairs (fun vs H Q E h => ?_) (fun cdv A outer s H vs Q E hr h => ?_)
  · obtain ⟨g, _, _, _, rfl, _⟩ := h
    rfl
  · obtain ⟨g, n, m, f, rfl, ⟨⟨rows, G⟩, hf⟩, q⟩ := h
    refine ⟨_, (pss_cons (ps_set (i := 1) sc__told_pairs.nd rfl (by first | exact Or.inl rfl | exact Or.inr rfl) (pe_callB (Fa.lenQ K) (by rfl) m_len PySem.boot_len (pa_cons (pv 0) pa_nil)))
  (pss_cons (ps_set (i := 2) sc__told_pairs.nd rfl (by first | exact Or.inl rfl | exact Or.inr rfl) (pe_callB (Fa.lenQ K) (by rfl) m_len PySem.boot_len (pa_cons (pe_ix (Fa.ixL K) (pv 0) (pe_un un_neg pe_int) (fun _ _ => rfl)) pa_nil)))
  (pss_one (ps_ret (pe_lc2 (own := [("first", 3), ("second", 4)]) (vs1 := [4]) (g := (gName 3)) (g1 := (gName 4)) (tt := tYes) (tt1 := tYes) rfl sc__told_pairs.nd (pi_range1 (by rfl) m_range (pa_cons (pv 1) pa_nil)) (blkOk_by (N := N__told_pairs) (sc := defScope s__told_pairs) (by decide +kernel)) (by decide) (fun _ _ _ _ _ => (pg_name (i := 3) sc__told_pairs.nd rfl (by first | exact Or.inl rfl | exact Or.inr rfl))) (fun _ _ _ _ _ => pts_nil) (fun _ _ _ _ _ => (pi_range2 (by rfl) m_range (pa_cons (pe_op op_add (pv 3) pe_int) (pa_cons (pe_callB (call_min2 rfl) (by rfl) m_min PyProof.Rows.boot_min (pa_cons (pe_op op_add (pv 3) (pv 2)) (pa_cons (pv 1) pa_nil))) pa_nil)))) (fun _ _ _ _ _ => (pg_name (i := 4) sc__told_pairs.nd rfl (by first | exact Or.inl rfl | exact Or.inr rfl))) (fun _ _ _ _ _ => pts_nil) (fun _ _ _ _ _ => (pe_tup (pa_cons (pv 3) (pa_cons (pv 4) pa_nil))))))))), ?_⟩
    have n1 := hf.n1
    have n30 := hf.n30
    have w1 := hf.w1
    have rl : (rows.map V.ref).length = n := by rw [List.length_map, G.cnt]
    obtain ⟨r, ea, er, hr'⟩ := G.last n1
    have ll : ((f (n - 1)).map V.int).length = m := by rw [List.length_map, hf.last]
    refine ⟨_, rfl, g, _, rfl, .inl (.inl (.inl G.top)), _, rfl, 1, rfl, g, _, _, _, rfl, rfl, .inl (.inl G.top), ea, r, _, rfl, .inl (.inl (.inl hr')), ?_⟩
    rw [rl, ll]
    refine ⟨_, rfl, n, rfl, by omega, by omega, fun D nD => ?_⟩
    rw [Int.toNat_natCast]
    refine lc2_out walk_range (fun i H' => Same H H' ∧ ∃ xs, H' D = some (.lst xs) ∧ Paired (DuoAt H') xs (prAll n m i)) ⟨same_new nD, [], upd_same, .nil⟩ (fun _ _ _ _ => trivial) ?_ ?_
    · rintro i x H1 _ hi ⟨s1, xs, el, hP⟩ ⟨rfl, ex⟩
      have ex : x = .int (i : Int) := by
        rw [ex]
        show V.int (0 + (i : Int)) = V.int (i : Int)
        rw [Int.zero_add]
      subst ex
      have mn : (if (n : Int) < (i : Int) + (m : Int) then (n : Int) else (i : Int) + (m : Int)) = ((min (i + m) n : Nat) : Int) := by
        split <;> omega
      refine ⟨rfl, yes_if ⟨_, rfl, _, _, rfl, rfl, _, rfl, _, rfl, _, _, rfl, rfl, _, rfl, _, _, rfl, _, _, rfl, ⟨by omega, by omega, by rw [mn]; omega, by rw [mn]; omega⟩, ?_⟩⟩
      rw [mn, show (((min (i + m) n : Nat) : Int) - ((i : Int) + 1)).toNat = min (i + m) n - (i + 1) by omega]
      refine lc2_in walk_range (fun j H' => Same H H' ∧ ∃ xs, H' D = some (.lst xs) ∧ Paired (DuoAt H') xs (prAll n m i ++ prRow i j)) ⟨s1, xs, el, by rw [show prRow i 0 = [] from rfl, List.append_nil]; exact hP⟩ (fun _ _ _ _ => trivial) ?_ ?_
      · rintro j x H2 _ hj ⟨s2, ys, el2, hP2⟩ ⟨rfl, rfl⟩
        have len := hP2.length
        rw [List.length_append, prRow_len] at len
        have l1 := prAll_len (w := m) n30 i
        refine ⟨rfl, yes_if ⟨_, rfl, _, rfl, by show 2 ≤ sizeLine; decide, fun T nT => ⟨ys, (same_new nT) _ _ el2, small1000 (by omega), push_same s2 nD nT, _, upd_same, ?_⟩⟩⟩
        rw [prRow_succ, ← List.append_assoc]
        exact DuoAt.push (p := ((i : Int), (i : Int) + 1 + (j : Int))) el2 hP2 nT
      · rintro H2 ⟨s2, ys, el2, hP2⟩
        rw [← prAll_succ] at hP2
        exact ⟨s2, ys, el2, hP2⟩
    · rintro H1 ⟨s1, xs, el, hP⟩
      exact q H1 D xs s1 nD el hP
end
end K46

namespace K46
open PySem PySem.Spec PyProof.Rows L2 Fa
abbrev s_numbers_in : Stmt := topS 21
abbrev N_numbers_in : List Str := ["sheet", "numbers", "day", "first", "second"]
theorem sc_numbers_in : FnScope N_numbers_in ["sheet"] (defScope s_numbers_in) := ⟨rfl, rfl, rfl, by decide +kernel, rfl, by decide +kernel, by decide +kernel⟩
abbrev s_conflicts_in : Stmt := topS 23
abbrev N_conflicts_in : List Str := ["sheet", "numbers", "found", "word", "first", "second", "number"]
theorem sc_conflicts_in : FnScope N_conflicts_in ["sheet"] (defScope s_conflicts_in) := ⟨rfl, rfl, rfl, by decide +kernel, rfl, by decide +kernel, by decide +kernel⟩

/-- no number below 0 -/
structure NN (f : Nat → List Int) (n w : Nat) : Prop where
  g0 : ∀ a b : Int, 0 ≤ a → a < b → b < n → b - a < w → 0 ≤ gp f a b
  a0 : ∀ a : Int, 0 ≤ a → a < n → 0 ≤ aw f n w a
  f0 : ∀ b : Int, 0 ≤ b → b < n → 0 ≤ fr f w b
theorem gAll_mem {f : Nat → List Int} {n w i : Nat} {p : Tri} (h : p ∈ gAll f n w i) (hi : i ≤ n) : 0 ≤ p.1 ∧ p.1 < p.2.1 ∧ p.2.1 < n ∧ p.2.1 - p.1 < w ∧ p.2.2 = gp f p.1 p.2.1 := by
  obtain ⟨a, ha, h2⟩ := List.mem_flatMap.mp h
  have ha := List.mem_range.mp ha
  obtain ⟨j, hj, rfl⟩ := List.mem_map.mp (List.mem_filter.mp h2).1
  have hj := List.mem_range.mp hj
  refine ⟨?_, ?_, ?_, ?_, rfl⟩
  · show (0 : Int) ≤ (a : Int)
    omega
  · show (a : Int) < (a : Int) + 1 + (j : Int)
    omega
  · show (a : Int) + 1 + (j : Int) < n
    omega
  · show (a : Int) + 1 + (j : Int) - (a : Int) < w
    omega
/-- the numbers of a family's sheet -/
theorem uu_unl {fam : Fm} {n w : Nat} {a b : Int} (t : Told n w a b) : uu (fun s => shRow fam s w) a b = unl fam a b := by
  unfold uu
  by_cases ab : a ≤ b
  · obtain ⟨t1, t2, t3⟩ := t ab
    rw [if_pos ab, List.getD_eq_getElem?_getD, shRow_at (fam := fam) (d := b.toNat) (w := w) (k := (b - a).toNat) (by omega)]
    show unl fam _ _ = _
    rw [show ((b.toNat : Int) - ((b - a).toNat : Int)) = a by omega, show (b.toNat : Int) = b by omega]
  · rw [if_neg ab, unl_none fam (by omega)]
theorem nn_fam {fam : Fm} {n w : Nat} (h : ∀ p ∈ fam, 0 ≤ p.2) (w1 : 1 ≤ w) : NN (fun s => shRow fam s w) n w := by
  refine ⟨fun a b a0 ab bn bw => ?_, fun a a0 an => ?_, fun b b0 bn => ?_⟩
  · unfold gp
    rw [uu_unl (n := n) fun _ => ⟨by omega, by omega, by omega⟩, uu_unl (n := n) fun _ => ⟨by omega, by omega, by omega⟩, uu_unl (n := n) fun _ => ⟨by omega, by omega, by omega⟩, uu_unl (n := n) fun _ => ⟨by omega, by omega, by omega⟩]
    exact unl_gap h ab
  · unfold aw
    have e1 : eA n w a < n ∧ eA n w a - a < w := by
      unfold eA
      split <;> omega
    rw [uu_unl (n := n) fun _ => ⟨by omega, by omega, by omega⟩, uu_unl (n := n) fun _ => ⟨by omega, by omega, by omega⟩]
    have := unl_mono h (b := a + 1) (b' := a) (e := eA n w a) (e' := eA n w a) (by omega) (by omega)
    omega
  · unfold fr
    have e1 : 0 ≤ sF w b ∧ b - sF w b < w := by
      unfold sF
      split <;> omega
    rw [uu_unl (n := n) fun _ => ⟨by omega, by omega, by omega⟩, uu_unl (n := n) fun _ => ⟨by omega, by omega, by omega⟩]
    have := unl_mono h (b := sF w b) (b' := sF w b) (e := b - 1) (e' := b) (by omega) (by omega)
    omega
/-- all numbers of R1 and R2, by their tuples -/
abbrev kB (x : Str) (a b : Int) : List Key := [.inr x, .inl a, .inl b]
def ngaps (f : Nat → List Int) (n w : Nat) : List (List Key × V) := (prAll n w n).map fun p => (kB "gap" p.1 p.2, .int (gp f p.1 p.2))
def ndays (f : Nat → List Int) (n w m : Nat) : List (List Key × V) := (List.range m).flatMap fun d : Nat => [(kB "away" d (eA n w d), .int (aw f n w d)), (kB "fresh" (sF w d) d, .int (fr f w d))]
def numK (f : Nat → List Int) (n w : Nat) : List (List Key × V) := ngaps f n w ++ ndays f n w n
theorem ndays_succ (f : Nat → List Int) (n w m : Nat) : ndays f n w (m + 1) = ndays f n w m ++ [(kB "away" m (eA n w m), .int (aw f n w m)), (kB "fresh" (sF w m) m, .int (fr f w m))] := by
  unfold ndays
  rw [List.range_succ, List.flatMap_append]
  simp
theorem ndays_len (f : Nat → List Int) (n w : Nat) : ∀ m, (ndays f n w m).length = 2 * m
  | 0 => rfl
  | m + 1 => by
    rw [ndays_succ, List.length_append, ndays_len f n w m]
    show 2 * m + 2 = _
    omega
theorem kB_inj {x y : Str} {a b c d : Int} (h : kB x a b = kB y c d) : x = y ∧ a = c ∧ b = d := by
  have h1 := List.cons.inj h
  have h2 := List.cons.inj h1.2
  exact ⟨Sum.inr.inj h1.1, Sum.inl.inj h2.1, Sum.inl.inj (List.cons.inj h2.2).1⟩
theorem nodup_map_inj {α β : Type} {g : α → β} {l : List α} (h : ∀ x ∈ l, ∀ y ∈ l, g x = g y → x = y) (nd : l.Nodup) : (l.map g).Nodup := by
  refine List.pairwise_map.mpr (nd.imp_of_mem fun {a b} ha hb ne e => ne (h a ha b hb e))
theorem prRow_nd (a m : Nat) : (prRow a m).Nodup := by
  unfold prRow
  refine nodup_map_inj (fun i _ j _ e => ?_) List.nodup_range
  have := (Prod.ext_iff.mp e).2
  have : (a : Int) + 1 + (i : Int) = (a : Int) + 1 + (j : Int) := this
  omega
theorem prAll_nd (n w : Nat) : ∀ i, (prAll n w i).Nodup
  | 0 => List.nodup_nil
  | i + 1 => by
    rw [prAll_succ, List.nodup_append]
    refine ⟨prAll_nd n w i, prRow_nd _ _, fun p hp q hq e => ?_⟩
    subst e
    obtain ⟨a, ha, h2⟩ := List.mem_flatMap.mp hp
    have ha := List.mem_range.mp ha
    obtain ⟨j, _, rfl⟩ := List.mem_map.mp h2
    obtain ⟨j', _, e⟩ := List.mem_map.mp hq
    have : (i : Int) = (a : Int) := (Prod.ext_iff.mp e).1
    omega
theorem ngaps_nd (f : Nat → List Int) (n w : Nat) : ((ngaps f n w).map (·.1)).Nodup := by
  unfold ngaps
  rw [List.map_map]
  refine nodup_map_inj (fun p _ q _ e => ?_) (prAll_nd n w n)
  obtain ⟨_, e1, e2⟩ := kB_inj e
  exact Prod.ext e1 e2
theorem ndays_key {f : Nat → List Int} {n w m : Nat} {k : List Key} (h : k ∈ (ndays f n w m).map (·.1)) : ∃ d : Nat, d < m ∧ (k = kB "away" d (eA n w d) ∨ k = kB "fresh" (sF w d) d) := by
  obtain ⟨p, hp, rfl⟩ := List.mem_map.mp h
  obtain ⟨d, hd, h2⟩ := List.mem_flatMap.mp hp
  refine ⟨d, List.mem_range.mp hd, ?_⟩
  simp only [List.mem_cons, List.not_mem_nil, or_false] at h2
  rcases h2 with rfl | rfl
  · exact .inl rfl
  · exact .inr rfl
theorem ndays_nd (f : Nat → List Int) (n w : Nat) : ∀ m, ((ndays f n w m).map (·.1)).Nodup
  | 0 => List.nodup_nil
  | m + 1 => by
    rw [ndays_succ, List.map_append, List.nodup_append]
    refine ⟨ndays_nd f n w m, ?_, fun k hk k' hk' e => ?_⟩
    · refine List.pairwise_cons.mpr ⟨fun k hk e => ?_, List.pairwise_singleton _ _⟩
      rw [List.mem_singleton.mp hk] at e
      exact absurd (kB_inj e).1 (by decide)
    · subst e
      obtain ⟨d, hd, hk⟩ := ndays_key hk
      have hk' : k ∈ [kB "away" m (eA n w m), kB "fresh" (sF w m) m] := hk'
      simp only [List.mem_cons, List.not_mem_nil, or_false] at hk'
      rcases hk with rfl | rfl <;> rcases hk' with e | e
      · have := (kB_inj e).2.1
        omega
      · exact absurd (kB_inj e).1 (by decide)
      · exact absurd (kB_inj e).1 (by decide)
      · have := (kB_inj e).2.2
        omega
theorem numK_nd (f : Nat → List Int) (n w : Nat) : ((numK f n w).map (·.1)).Nodup := by
  unfold numK
  rw [List.map_append, List.nodup_append]
  refine ⟨ngaps_nd f n w, ndays_nd f n w n, fun k hk k' hk' e => ?_⟩
  subst e
  obtain ⟨p, hp, rfl⟩ := List.mem_map.mp hk
  obtain ⟨q, _, rfl⟩ := List.mem_map.mp hp
  obtain ⟨d, _, h⟩ := ndays_key hk'
  rcases h with e | e <;> exact absurd (kB_inj e).1 (by decide)
theorem numK_len {f : Nat → List Int} {n w : Nat} (hn : n ≤ 30) : (numK f n w).length ≤ 960 := by
  unfold numK ngaps
  rw [List.length_append, List.length_map, ndays_len]
  have := prAll_len (w := w) hn n
  have : 30 * n ≤ 900 := by omega
  omega
theorem ndays_split (f : Nat → List Int) {n w i : Nat} : ∀ {m : Nat}, i ≤ m → ∃ r, ndays f n w m = ndays f n w i ++ r
  | 0, h => by
    have : i = 0 := by omega
    subst this
    exact ⟨[], (List.append_nil _).symm⟩
  | m + 1, h => by
    by_cases e : i = m + 1
    · subst e
      exact ⟨[], (List.append_nil _).symm⟩
    · obtain ⟨r, hr⟩ := ndays_split f (n := n) (w := w) (i := i) (m := m) (by omega)
      rw [ndays_succ, hr, List.append_assoc]
      exact ⟨_, rfl⟩
theorem numK_take (f : Nat → List Int) {n w i : Nat} (h : i ≤ n) : (numK f n w).take (ngaps f n w ++ ndays f n w i).length = ngaps f n w ++ ndays f n w i := by
  obtain ⟨r, hr⟩ := ndays_split f (n := n) (w := w) h
  unfold numK
  rw [hr, ← List.append_assoc, List.take_left]
theorem numK_at1 (f : Nat → List Int) {n w i : Nat} (h : i < n) : (numK f n w)[(ngaps f n w ++ ndays f n w i).length]? = some (kB "away" i (eA n w i), .int (aw f n w i)) := by
  obtain ⟨r, hr⟩ := ndays_split f (n := n) (w := w) (Nat.succ_le_of_lt h)
  unfold numK
  rw [hr, ndays_succ, List.append_assoc, ← List.append_assoc, List.getElem?_append_right (Nat.le_refl _), Nat.sub_self]
  rfl
theorem numK_at2 (f : Nat → List Int) {n w i : Nat} (h : i < n) : (numK f n w)[(ngaps f n w ++ ndays f n w i).length + 1]? = some (kB "fresh" (sF w i) i, .int (fr f w i)) := by
  obtain ⟨r, hr⟩ := ndays_split f (n := n) (w := w) (Nat.succ_le_of_lt h)
  unfold numK
  rw [hr, ndays_succ, List.append_assoc, ← List.append_assoc, List.getElem?_append_right (Nat.le_succ _), show (ngaps f n w ++ ndays f n w i).length + 1 - (ngaps f n w ++ ndays f n w i).length = 1 by omega]
  rfl
/-- what stands in the dict of numbers -/
def Numb (f : Nat → List Int) (n w : Nat) (x : Str) (a b z : Int) : Prop :=
  (x = "gap" ∧ 0 ≤ a ∧ a < b ∧ b < n ∧ b - a < w ∧ z = gp f a b) ∨ (x = "away" ∧ 0 ≤ a ∧ a < n ∧ b = eA n w a ∧ z = aw f n w a) ∨ (x = "fresh" ∧ 0 ≤ b ∧ b < n ∧ a = sF w b ∧ z = fr f w b)
theorem numK_mem {f : Nat → List Int} {n w : Nat} {k : List Key} {v : V} (h : (k, v) ∈ numK f n w) : ∃ x a b z, k = kB x a b ∧ v = .int z ∧ Numb f n w x a b z := by
  rcases List.mem_append.mp h with h | h
  · obtain ⟨p, hp, e⟩ := List.mem_map.mp h
    obtain ⟨h1, h2, h3, h4, _⟩ := prAll_mem hp (Nat.le_refl _)
    cases e
    exact ⟨_, _, _, _, rfl, rfl, .inl ⟨rfl, h1, h2, h3, h4, rfl⟩⟩
  · obtain ⟨d, hd, h2⟩ := List.mem_flatMap.mp h
    have hd := List.mem_range.mp hd
    simp only [List.mem_cons, List.not_mem_nil, or_false] at h2
    rcases h2 with e | e <;> cases e
    · exact ⟨_, _, _, _, rfl, rfl, .inr (.inl ⟨rfl, by omega, by omega, rfl, rfl⟩)⟩
    · exact ⟨_, _, _, _, rfl, rfl, .inr (.inr ⟨rfl, by omega, by omega, rfl, rfl⟩)⟩
theorem numb_nn {f : Nat → List Int} {n w : Nat} {x : Str} {a b z : Int} (N : NN f n w) (h : Numb f n w x a b z) : 0 ≤ z := by
  rcases h with ⟨_, h1, h2, h3, h4, rfl⟩ | ⟨_, h1, h2, _, rfl⟩ | ⟨_, h1, h2, _, rfl⟩
  · exact N.g0 a b h1 h2 h3 h4
  · exact N.a0 a h1 h2
  · exact N.f0 b h1 h2
section
variable {P : Program} {w : World} {K : PySem.W.Frag} {mg : Str → Option Value} {base : Heap}
def spNums : Sp := fun vs H Q _ => ∃ (g : Addr) (n w : Nat) (f : Nat → List Int), vs = [.ref g] ∧ ShAt H g n w f ∧ ∀ H' l, Same H H' → H l = none → H' l = some (.dT (numK f n w)) → Q (.ref l) H'
def spConf : Sp := fun vs H Q _ => ∃ (g : Addr) (n w : Nat) (f : Nat → List Int), vs = [.ref g] ∧ ShAt H g n w f ∧ NN f n w ∧ ∀ H' l, Same H H' → H l = none → H' l = some (.lst []) → Q (.ref l) H'
def spPoss : Sp := fun vs H Q _ => ∃ (g : Addr) (n w : Nat) (f : Nat → List Int), vs = [.ref g] ∧ ShAt H g n w f ∧ NN f n w ∧ ∀ H', Same H H' → Q .non H'
theorem ok_nums {f fG fP fA fF fE fS : Addr} {fd dG dP dA dF dE dS : FuncData} {k : Nat} (F : Fun K "numbers_in" "numbers_in" s_numbers_in f fd)
    (F_gap_between : Fun K "gap_between" "gap_between" s_gap_between fG dG) (G_gap_between : FnOk P w K mg base CX0 k fG dG ["sheet", "first", "second"] spGapB) (b_gap_between : Binds K dG ["sheet", "first", "second"] []) (g_gap_between : mg "gap_between" = some (.ref fG))
    (F__told_pairs : Fun K "_told_pairs" "_told_pairs" s__told_pairs fP dP) (G__told_pairs : FnOk P w K mg base CX0 k fP dP ["sheet"] spPairs) (b__told_pairs : Binds K dP ["sheet"] []) (g__told_pairs : mg "_told_pairs" = some (.ref fP))
    (F_away_from : Fun K "away_from" "away_from" s_away_from fA dA) (G_away_from : FnOk P w K mg base CX0 k fA dA ["sheet", "day"] spAwF) (b_away_from : Binds K dA ["sheet", "day"] []) (g_away_from : mg "away_from" = some (.ref fA))
    (F_fresh_on : Fun K "fresh_on" "fresh_on" s_fresh_on fF dF) (G_fresh_on : FnOk P w K mg base CX0 k fF dF ["sheet", "day"] spFrO) (b_fresh_on : Binds K dF ["sheet", "day"] []) (g_fresh_on : mg "fresh_on" = some (.ref fF))
    (F_end_of_away : Fun K "end_of_away" "end_of_away" s_end_of_away fE dE) (G_end_of_away : FnOk P w K mg base CX0 k fE dE ["sheet", "day"] spEndA) (b_end_of_away : Binds K dE ["sheet", "day"] []) (g_end_of_away : mg "end_of_away" = some (.ref fE))
    (F_start_of_fresh : Fun K "start_of_fresh" "start_of_fresh" s_start_of_fresh fS dS) (G_start_of_fresh : FnOk P w K mg base CX0 k fS dS ["sheet", "day"] spStF) (b_start_of_fresh : Binds K dS ["sheet", "day"] []) (g_start_of_fresh : mg "start_of_fresh" = some (.ref fS))
    (m_len : mg "len" = none) (m_range : mg "range" = none) : FnOk P w K mg base CX0 (k + 1) f fd ["sheet"] spNums := by
  refine F.ok sc_numbers_in (fun vs H Q E h => ?_) (fun cdv A outer s H vs Q E hr h => ?_)
  · obtain ⟨g, _, _, _, rfl, _⟩ := h
    rfl
  · obtain ⟨g, n, m, f, rfl, hS, q⟩ := h
    refine ⟨_, (pss_cons (Fa.ps_setDcT (i := 1) (own := [("first", 3), ("second", 4)]) (g := (gTup K 2 (gCons (gName 3) (gCons (gName 4) gNil)))) (tt := tYes) hr.units0 rfl sc_numbers_in.nd rfl rfl (Fa.sw_trueD rfl rfl rfl (by decide +kernel)) (Fa.listQ K (pe_call G__told_pairs (hr.mono (by omega)) (by rfl) g__told_pairs F__told_pairs.kp b__told_pairs .nil pass0 (pa_cons (pv 0) pa_nil))) (blkOk_by (N := N_numbers_in) (sc := defScope s_numbers_in) (by decide +kernel)) (fun _ _ _ _ _ => (Fa.pgTQ K rfl (pgs_cons (pg_name (i := 3) sc_numbers_in.nd rfl (by first | exact Or.inl rfl | exact Or.inr rfl)) (pgs_cons (pg_name (i := 4) sc_numbers_in.nd rfl (by first | exact Or.inl rfl | exact Or.inr rfl)) pgs_nil)))) (fun _ _ _ _ _ => pts_nil) (fun _ _ _ _ _ => (pe_tup (pa_cons pe_str (pa_cons (pv 3) (pa_cons (pv 4) pa_nil))))) (fun _ _ _ _ _ => (pe_call G_gap_between (hr.mono (by omega)) (by rfl) g_gap_between F_gap_between.kp b_gap_between .nil pass0 (pa_cons (pv 0) (pa_cons (pv 3) (pa_cons (pv 4) pa_nil))))))
  (pss_cons (ps_for PassesOwn.never rfl (pi_range1 (by rfl) m_range (pa_cons (pe_callB (Fa.lenQ K) (by rfl) m_len PySem.boot_len (pa_cons (pv 0) pa_nil)) pa_nil)) (pg_name (i := 2) sc_numbers_in.nd rfl (by first | exact Or.inl rfl | exact Or.inr rfl)) (pss_cons (ps_dput (hu_of hr) (pv 1) (pe_tup (pa_cons pe_str (pa_cons (pv 2) (pa_cons (pe_call G_end_of_away (hr.mono (by omega)) (by rfl) g_end_of_away F_end_of_away.kp b_end_of_away .nil pass0 (pa_cons (pv 0) (pa_cons (pv 2) pa_nil))) pa_nil)))) (pe_call G_away_from (hr.mono (by omega)) (by rfl) g_away_from F_away_from.kp b_away_from .nil pass0 (pa_cons (pv 0) (pa_cons (pv 2) pa_nil))) rfl)
  (pss_one (ps_dput (hu_of hr) (pv 1) (pe_tup (pa_cons pe_str (pa_cons (pe_call G_start_of_fresh (hr.mono (by omega)) (by rfl) g_start_of_fresh F_start_of_fresh.kp b_start_of_fresh .nil pass0 (pa_cons (pv 0) (pa_cons (pv 2) pa_nil))) (pa_cons (pv 2) pa_nil)))) (pe_call G_fresh_on (hr.mono (by omega)) (by rfl) g_fresh_on F_fresh_on.kp b_fresh_on .nil pass0 (pa_cons (pv 0) (pa_cons (pv 2) pa_nil))) rfl))))
  (pss_one (ps_ret (pv 1))))), ?_⟩
    obtain ⟨⟨rows, G⟩, hf⟩ := id hS
    have n1 := hf.n1
    have n30 := hf.n30
    have rl : (rows.map V.ref).length = n := by rw [List.length_map, G.cnt]
    have nl := numK_len (f := f) (w := m) n30
    have gl : (ngaps f n m).length = (prAll n m n).length := List.length_map ..
    have lmt := prAll_len (w := m) n30 n
    have l900 : 30 * n ≤ 900 := by omega
    refine ⟨_, rfl, g, n, m, f, rfl, hS, fun H1 l xs s1 nL el hP => ⟨l, rfl, ⟨xs, .inl (.inl el)⟩, fun D nD => ?_⟩⟩
    have len := hP.length
    refine dcT_it (walk_list (xs := xs)) (fun j H2 => Same H1 H2 ∧ H2 D = some (.dT ((ngaps f n m).take j))) ⟨same_new nD, upd_same⟩ ?_ ?_ ?_
    · rintro j H2 _ ⟨s2, _⟩
      exact .inl (.inl (s2 _ _ el))
    · rintro j u _ H2 hj ⟨s2, eD⟩ ⟨rfl, eu⟩
      obtain ⟨p, ep, t, rfl, ht⟩ := paired_at hP eu
      have mem := prAll_mem (List.mem_of_getElem? ep) (Nat.le_refl _)
      have s3 : ∀ T o, H2 T = none → Same H2 (upd H2 T o) := fun T o nT => same_new nT
      refine ⟨t, _, rfl, .inl (.inl (s2 _ _ ht)), rfl, _, _, rfl, _, _, rfl, rfl, rfl, yes_if ⟨_, rfl, _, rfl, by show 3 ≤ sizeLine; decide, fun T nT => ?_⟩⟩
      refine ⟨_, rfl, _, rfl, _, rfl, g, n, m, f, p.1, p.2, rfl, hS.same ((s1.trans s2).trans (same_new nT)), mem.1, mem.2.1, mem.2.2.1, mem.2.2.2.1, T, _, kB "gap" p.1 p.2, rfl, upd_same, (same_new nT) _ _ eD, ?_, ?_⟩
      · rw [List.length_take]
        exact small1000 (by omega)
      · have eg : (ngaps f n m)[j]? = some (kB "gap" p.1 p.2, .int (gp f p.1 p.2)) := by
          unfold ngaps
          rw [List.getElem?_map, ep]
          rfl
        rw [putK_take (p := (kB "gap" p.1 p.2, V.int (gp f p.1 p.2))) (ngaps_nd f n m) eg]
        refine ⟨fun b o y => ?_, upd_same⟩
        rw [upd_ne (ne_of_none y nD)]
        exact same_new nT _ _ (s2 _ _ y)
    · rintro H2 ⟨s2, eD⟩
      rw [show xs.length = (ngaps f n m).length by rw [gl]; exact len, List.take_length] at eD
      have s02 : Same H H2 := s1.trans s2
      refine ⟨_, rfl, g, _, rfl, .inl (.inl (.inl (s02 _ _ G.top))), _, rfl, by rw [rl]; omega, by rw [rl]; omega, ?_⟩
      rw [rl, Int.toNat_natCast]
      have nD0 : H D = none := s1.free nD
      refine for_range (lo := 0) (fun i σ H' => Same H H' ∧ H' D = some (.dT (ngaps f n m ++ ndays f n m i)) ∧ ∃ x2, σ = [some (.ref g), some (.ref D), x2, none, none]) ?_ ?_ ?_
      · refine ⟨s02, ?_, none, rfl⟩
        show H2 D = some (.dT (ngaps f n m ++ []))
        rw [List.append_nil]
        exact eD
      · rintro i σ H3 hi ⟨s3, e3, x2, rfl⟩
        rw [Int.zero_add]
        have hS3 := hS.same s3
        have small : (ngaps f n m ++ ndays f n m i).length ≤ 958 := by
          rw [List.length_append, ndays_len, gl]
          have := prAll_len (w := m) n30 n
          have : 30 * n ≤ 900 := by omega
          omega
        have L1 : (numK f n m).take (ngaps f n m ++ ndays f n m i).length = ngaps f n m ++ ndays f n m i := numK_take f (Nat.le_of_lt hi)
        have at1 := numK_at1 f (w := m) hi
        have at2 := numK_at2 f (w := m) hi
        refine ⟨_, rfl, _, rfl, g, n, m, f, i, rfl, hS3, by omega, by omega, _, rfl, _, rfl, _, rfl, _, rfl, g, n, m, f, i, rfl, hS3, by omega, by omega, by show 3 ≤ sizeLine; decide, fun T nT => ?_⟩
        have e4 := (same_new (o := .tup [.str "away", .int i, .int (eA n m i)]) nT) _ _ e3
        refine ⟨D, _, rfl, DPut.t (k := kB "away" i (eA n m i)) e4 upd_same (small1000 (by omega)), ?_⟩
        rw [← L1, putK_take (p := (kB "away" i (eA n m i), V.int (aw f n m i))) (numK_nd f n m) at1]
        have nDT : ∀ b o, H b = some o → upd (upd H3 T (.tup [.str "away", .int i, .int (eA n m i)])) D (.dT ((numK f n m).take ((ngaps f n m ++ ndays f n m i).length + 1))) b = some o := fun b o y => by
          rw [upd_ne (ne_of_none y nD0)]
          exact same_new nT _ _ (s3 _ _ y)
        have hS4 := hS.same nDT
        refine ⟨_, rfl, _, rfl, g, n, m, f, i, rfl, hS4, by omega, by omega, _, rfl, _, rfl, _, rfl, g, n, m, f, i, rfl, hS4, by omega, by omega, _, rfl, by show 3 ≤ sizeLine; decide, fun T2 nT2 => ?_⟩
        have e5 := (same_new (o := .tup [.str "fresh", .int (sF m i), .int i]) nT2) _ _ (upd_same (H := upd H3 T (.tup [.str "away", .int i, .int (eA n m i)])) (a := D) (o := .dT ((numK f n m).take ((ngaps f n m ++ ndays f n m i).length + 1))))
        refine ⟨D, _, rfl, DPut.t (k := kB "fresh" (sF m i) i) e5 upd_same (small1000 (by rw [List.length_take]; omega)), ?_⟩
        rw [putK_take (p := (kB "fresh" (sF m i) i, V.int (fr f m i))) (numK_nd f n m) at2]
        refine ⟨fun b o y => ?_, ?_, _, rfl⟩
        · rw [upd_ne (ne_of_none y nD0)]
          exact same_new nT2 _ _ (nDT _ _ y)
        · rw [upd_same, ← numK_take f (w := m) (Nat.succ_le_of_lt hi), List.length_append, List.length_append, ndays_len, ndays_len]
          rfl
      · rintro σ H3 ⟨s3, e3, x2, rfl⟩
        exact ⟨_, rfl, q H3 D s3 nD0 e3⟩
theorem ok_conf {f fN : Addr} {fd dN : FuncData} {k : Nat} (F : Fun K "conflicts_in" "conflicts_in" s_conflicts_in f fd) (F_numbers_in : Fun K "numbers_in" "numbers_in" s_numbers_in fN dN) (G_numbers_in : FnOk P w K mg base CX0 k fN dN ["sheet"] spNums) (b_numbers_in : Binds K dN ["sheet"] []) (g_numbers_in : mg "numbers_in" = some (.ref fN))
    (m_sorted : mg "sorted" = none) : FnOk P w K mg base CX0 (k + 1) f fd ["sheet"] spConf := by
  refine F.ok sc_conflicts_in (fun vs H Q E h => ?_) (fun cdv A outer s H vs Q E hr h => ?_)
  · obtain ⟨g, _, _, _, rfl, _⟩ := h
    rfl
  · obtain ⟨g, n, m, f, rfl, hS, hN, q⟩ := h
    refine ⟨_, (pss_cons (ps_set (i := 1) sc_conflicts_in.nd rfl (by first | exact Or.inl rfl | exact Or.inr rfl) (pe_call G_numbers_in (hr.mono (by omega)) (by rfl) g_numbers_in F_numbers_in.kp b_numbers_in .nil pass0 (pa_cons (pv 0) pa_nil)))
  (pss_cons (ps_lock (ps_setLc (i := 2) (own := [("word", 3), ("first", 4), ("second", 5), ("number", 6)]) (g := (gTup K 2 (gCons (gTup K 3 (gCons (gName 3) (gCons (gName 4) (gCons (gName 5) gNil)))) (gCons (gName 6) gNil)))) rfl sc_conflicts_in.nd rfl rfl (sw_true rfl rfl rfl (by decide +kernel)) (Fa.pi_itemsT (pv 1)) (blkOk_by (N := N_conflicts_in) (sc := defScope s_conflicts_in) (by decide +kernel)) (fun _ _ _ _ _ => (Fa.pgTQ K rfl (pgs_cons (Fa.pgTQ K rfl (pgs_cons (pg_name (i := 3) sc_conflicts_in.nd rfl (by first | exact Or.inl rfl | exact Or.inr rfl)) (pgs_cons (pg_name (i := 4) sc_conflicts_in.nd rfl (by first | exact Or.inl rfl | exact Or.inr rfl)) (pgs_cons (pg_name (i := 5) sc_conflicts_in.nd rfl (by first | exact Or.inl rfl | exact Or.inr rfl)) pgs_nil)))) (pgs_cons (pg_name (i := 6) sc_conflicts_in.nd rfl (by first | exact Or.inl rfl | exact Or.inr rfl)) pgs_nil)))) (fun _ _ _ _ _ => (pts_one (pt_cmpR op_lt (pv 6) pe_int (nomark _)))) (fun _ _ _ _ _ => (pe_tup (pa_cons (pv 5) (pa_cons (pv 4) (pa_cons (pv 3) pa_nil)))))))
  (pss_one (ps_ret (pe_lc (own := [("second", 5), ("first", 4), ("word", 3)]) (g := (gTup K 3 (gCons (gName 5) (gCons (gName 4) (gCons (gName 3) gNil))))) (tt := tYes) rfl sc_conflicts_in.nd (Fa.listQ K (pe_callB (Fa.sortIQ K) (by rfl) m_sorted Fa.b_sorted (pa_cons (pv 2) pa_nil))) (blkOk_by (N := N_conflicts_in) (sc := defScope s_conflicts_in) (by decide +kernel)) (fun _ _ _ _ _ => (Fa.pgTQ K rfl (pgs_cons (pg_name (i := 5) sc_conflicts_in.nd rfl (by first | exact Or.inl rfl | exact Or.inr rfl)) (pgs_cons (pg_name (i := 4) sc_conflicts_in.nd rfl (by first | exact Or.inl rfl | exact Or.inr rfl)) (pgs_cons (pg_name (i := 3) sc_conflicts_in.nd rfl (by first | exact Or.inl rfl | exact Or.inr rfl)) pgs_nil))))) (fun _ _ _ _ _ => pts_nil) (fun _ _ _ _ _ => (pe_tup (pa_cons (pv 3) (pa_cons (pv 4) (pa_cons (pv 5) pa_nil)))))))))), ?_⟩
    refine ⟨_, rfl, g, n, m, f, rfl, hS, fun H1 l s1 nl el => ⟨l, _, el, trivial, fun od => ?_⟩⟩
    refine ⟨_, rfl, l, od, _, rfl, upd_same, fun D nD => ?_⟩
    have s1n : ∀ b o, H b = some o → b ≠ l := fun b o y => ne_of_none y nl
    refine lc_it walk_itemsT (fun j H2 => (∀ b o, H b = some o → H2 b = some o) ∧ H2 l = some (.frz od (.dT (numK f n m))) ∧ H2 D = some (.lst [])) ?_ ?_ ?_ ?_
    · refine ⟨fun b o y => ?_, ?_, upd_same⟩
      · rw [upd_ne (ne_of_none (H := upd H1 l _) (by rw [upd_ne (s1n b o y)]; exact s1 _ _ y) nD), upd_ne (s1n b o y)]
        exact s1 _ _ y
      · rw [upd_ne (ne_of_none (H := upd H1 l _) upd_same nD), upd_same]
    · rintro j H2 _ ⟨_, e2, _⟩
      exact e2
    · rintro j u H2 _ hj ⟨s2, e2, eD⟩ ⟨T, t, kk, v, ek, ht, rfl, nT, rfl⟩
      obtain ⟨x, a, b, z, rfl, rfl, nb⟩ := numK_mem (List.mem_of_getElem? ek)
      have z0 := numb_nn hN nb
      have tT : t ≠ T := ne_of_none ht nT
      have ht' : upd H2 T (.tup [.ref t, .int z]) t = some (.tup [.str x, .int a, .int b]) := by
        rw [upd_ne tT]
        exact ht
      refine ⟨T, _, rfl, .inl (.inl upd_same), rfl, _, _, rfl, ⟨t, _, rfl, .inl (.inl ht'), rfl, _, _, rfl, _, _, rfl, _, _, rfl, rfl, _, _, rfl, rfl, rfl, _, rfl, _, _, rfl, rfl, _, rfl, iteDF (by omega) ⟨fun b o y => ?_, ?_, ?_⟩⟩⟩
      · exact same_new nT _ _ (s2 _ _ y)
      · exact same_new nT _ _ e2
      · exact same_new nT _ _ eD
    · rintro H2 ⟨s2, e2, eD⟩
      have Dl : D ≠ l := ne_of eD e2 (fun z => by cases z)
      have s3 : Same H (upd H2 l (.dT (numK f n m))) := fun b o y => by
        rw [upd_ne (s1n b o y)]
        exact s2 _ _ y
      have eD3 : upd H2 l (.dT (numK f n m)) D = some (.lst []) := by
        rw [upd_ne Dl]
        exact eD
      refine ⟨e2, _, rfl, D, [], rfl, .inl (.inl eD3), by decide, fun ns' p pm _ np => ⟨p, rfl, ?_⟩⟩
      have e0 : ns' = [] := List.Perm.eq_nil pm
      subst e0
      refine ⟨⟨[], .inl (.inl upd_same)⟩, fun D2 nD2 => ?_⟩
      refine lc_it (walk_list (xs := [])) (fun j H4 => Same (upd H2 l (.dT (numK f n m))) H4 ∧ H4 p = some (.lst []) ∧ H4 D2 = some (.lst [])) ?_ ?_ ?_ ?_
      · exact ⟨(same_new np).trans (same_new nD2), (same_new nD2) _ _ upd_same, upd_same⟩
      · rintro j H4 _ ⟨_, e4, _⟩
        exact .inl (.inl e4)
      · rintro j u _ H4 hj _ _
        exact absurd hj (Nat.not_lt_zero _)
      · rintro H4 ⟨s4, _, e4⟩
        exact q H4 D2 (s3.trans s4) (s3.free ((same_new np).free nD2)) e4
end
end K46

/-! a range that a name holds -/
namespace Fa
open PySem PySem.Spec PyProof.Rows L2
def RgO (p : Addr) (lo hi : Int) : HO := .ext fun h => ∃ t u v, IsRange h p lo hi 1 t u v
theorem rgO_ok {P : Program} {w : World} {H : Hp} {h : Heap} {p : Addr} {lo hi : Int} {t u v : Tok} (e : IsRange h p lo hi 1 t u v) : ObjOk P w H h p (RgO p lo hi) :=
  ⟨⟨t, u, v, e⟩, ⟨_, e⟩, fun _ _ ⟨t, u, v, a⟩ k => ⟨t, u, v, k _ a⟩⟩
section
variable {X : Cx}
def tRgO (ta : TA) : TE := fun σ H Q => ta σ H fun vs H1 => ∃ i j : Int, vs = [.int i, .int j] ∧ ∀ p, H1 p = none → Q (.ref p) (upd H1 p (RgO p i j))
theorem pe_rg2 {a b : Expr} {ta : TA} {p pos : Pos} (hg : Gl X "range") (hm : X.mg "range" = none) (ha : PA X [a, b] ta) (n2 : starEach [a, b] X.env = [(false, eval a X.env), (false, eval b X.env)] := by rfl) (n1 : starEach [b] X.env = [(false, eval b X.env)] := by rfl) :
    PE X (.Call (.Name "range" p) [a, b] [] pos) (tRgO ta) := by
  refine ⟨fun pins s σ H Q I ask => Call_ (ld_blt I hg hm boot_range (PyProof.Rows.callWith_type1 (thn (ha.run pos pins s σ H _ I ask) fun us s1 ⟨vs, H1, I1, r1, i, j, e, q⟩ => ?_) (by rw [n2, n1]) (by rw [n1]; rfl)))⟩
  subst e
  cases r1 with
  | cons x y =>
    cases y with
    | cons y z =>
      cases z
      obtain ⟨t1, rfl⟩ := x
      obtain ⟨t2, rfl⟩ := y
      exact call_range_2 ⟨.ref s1.heap.objs.size, upd H1 s1.heap.objs.size (RgO s1.heap.objs.size i j), I1.laid (o := RgO _ i j) (fun _ _ k => Heap.get?_push_of_some _ k) (Nat.le_refl _) (rgO_ok (IsRange.new _ _ _ _ _ _ _)), rfl, q _ (I1.hok.fresh (Nat.le_refl _))⟩
def iRgO (te : TE) : TI := fun σ H R => te σ H fun x H1 => ∃ (p : Addr) (lo hi : Int), x = .ref p ∧ H1 p = some (RgO p lo hi) ∧ (-(2 ^ 62) ≤ lo ∧ lo < 2 ^ 62 ∧ -(2 ^ 62) ≤ hi ∧ hi < 2 ^ 62) ∧ R (Itr lo (hi - lo).toNat) H1
theorem pi_rgO {tg e : Expr} {te : TE} (he : PE X e te) : PI X tg e (iRgO te) := by
  refine ⟨fun pins s σ H R I ask => thn (he.run pins s σ H _ I ask) fun u s1 ⟨x, H1, I1, r1, p, lo, hi, ex, ep, ⟨b1, b2, b3, b4⟩, q⟩ => ?_⟩
  subst ex
  cases (show u = Value.ref p from r1)
  obtain ⟨⟨t, v, z, isr⟩, _⟩ := I1.hok p _ ep
  refine wpAny_pyIter_range isr (small_one b1 b2 b3 b4) ⟨s1.heap.objs.size, [s1.heap.objs.size], _, _, H1, rfl, I1.kept (t' := s1.toks) fun _ _ k => Heap.get?_push_of_some _ k, turn_range _ lo (hi - lo).toNat, ?_, fun b hb => ?_, q⟩
  · have z1 : lo + ((0 : Nat) : Int) * 1 = lo := by simp
    have z2 : (((hi - lo).toNat : Nat) : Int) - ((0 : Nat) : Int) = Builtin.Range.rangeSize lo hi 1 := by
      rw [rangeSize_one]
      split <;> omega
    show IsRangeIter _ _ (lo + ((0 : Nat) : Int) * 1) ((((hi - lo).toNat : Nat) : Int) - ((0 : Nat) : Int)) 1
    rw [z1, z2]
    exact Heap.get?_push_size _ rfl
  · obtain rfl := List.mem_singleton.mp hb
    exact I1.fpOk (Nat.le_refl _) (I1.hok.fresh (Nat.le_refl _))
theorem revLQ (K : PySem.W.Frag) {e : Expr} {te : TE} {k : Nat} {p1 p2 p3 pos : Pos} (he : PE X e te) (h : X.K = K := by rfl) : PE X (.Subscript e (.Slice none none (some (.UnaryOp .USub (.Constant (.int 1) k p1) p2)) p3) pos) (tRevL K te) := h ▸ pe_revL he
theorem notInDQ (K : PySem.W.Frag) (hu : X.A.units + 66 < cLine) (h : X.K = K := by rfl) : OpR X (compareOp .NotIn) (rNotInD K) := h ▸ op_notInD (Nat.lt_of_succ_lt hu)
end
end Fa

namespace K46
open PySem PySem.Spec PyProof.Rows L2 Fa
abbrev s__values_at : Stmt := topS 26
abbrev N__values_at : List Str := ["sheet", "numbers", "day", "back", "first", "told", "rising", "falling", "thing", "number", "least", "most"]
theorem sc__values_at : FnScope N__values_at ["sheet", "numbers", "day", "back"] (defScope s__values_at) := ⟨rfl, rfl, rfl, by decide +kernel, rfl, by decide +kernel, by decide +kernel⟩
theorem mxQ (K : PySem.W.Frag) {X : Cx} (hc : X.calm = true) (h : X.K = K := by rfl) : CallR X (.builtin "max") (rMax K) := h ▸ cr_max hc
theorem mnQ (K : PySem.W.Frag) {X : Cx} (hc : X.calm = true) (h : X.K = K := by rfl) : CallR X (.builtin "min") (rMin K) := h ▸ cr_min hc
/-- the numbers that grow, that fall with the number of day d whose stretch begins on a -/
def rise (a d : Int) : List (List Key) := [kB "gap" a (d + 1), kB "gap" (a - 1) d, kB "away" a d, kB "fresh" a d]
def fall (a d : Int) : List (List Key) := [kB "gap" a d, kB "gap" (a - 1) (d + 1), kB "away" (a - 1) d, kB "fresh" a (d + 1)]
def numV : V → Int
  | .int z => z
  | _ => 0
abbrev NumL := List (List Key × V)
def badN (L : NumL) (a d : Int) : Bool := L.any fun p => decide (numV p.2 < 0) && (!(rise a d).any (fun k => decide (k = p.1)) && !(fall a d).any (fun k => decide (k = p.1)))
def lows (L : NumL) (t a d : Int) : List Int := (rise a d).filterMap fun k => (valV L k).map fun v => t - numV v
def highs (L : NumL) (t a d : Int) : List Int := (fall a d).filterMap fun k => (valV L k).map fun v => t + numV v
/-- a list of tuples of keys -/
def KeysAt (H : Hp) (l : Addr) (ks : List (List Key)) : Prop := ∃ ts : List Addr, H l = some (.lst (ts.map V.ref)) ∧ Paired (fun (t : Addr) (k : List Key) => H t = some (.tup (k.map kV))) ts ks
theorem KeysAt.same {H H' : Hp} {l : Addr} {ks : List (List Key)} (h : KeysAt H l ks) (s : Same H H') : KeysAt H' l ks := by
  obtain ⟨ts, e, p⟩ := h
  exact ⟨ts, s _ _ e, L2.Paired.mapP p fun _ _ z => s _ _ z⟩
def keyD : Key → PyData
  | .inl i => .int i
  | .inr x => .str x
theorem eqv_key (a b : Key) : PyData.eqv (keyD a) (keyD b) = decide (a = b) := by
  cases a with
  | inl i =>
    cases b with
    | inl j =>
      show (i == j) = _
      rw [Bool.eq_iff_iff, beq_iff_eq, decide_eq_true_iff]
      exact ⟨fun z => by rw [z], fun z => Sum.inl.inj z⟩
    | inr y => exact (decide_eq_false (fun z => by cases z)).symm
  | inr x =>
    cases b with
    | inl j => exact (decide_eq_false (fun z => by cases z)).symm
    | inr y =>
      show (x == y) = _
      rw [Bool.eq_iff_iff, beq_iff_eq, decide_eq_true_iff]
      exact ⟨fun z => by rw [z], fun z => Sum.inr.inj z⟩
theorem eqv_keys : ∀ a b : List Key, PyData.eqvAll (a.map keyD) (b.map keyD) = decide (a = b)
  | [], [] => rfl
  | [], _ :: _ => rfl
  | _ :: _, [] => rfl
  | x :: a, y :: b => by
    show (PyData.eqv (keyD x) (keyD y) && PyData.eqvAll (a.map keyD) (b.map keyD)) = _
    rw [eqv_key, eqv_keys a b, Bool.eq_iff_iff, Bool.and_eq_true, decide_eq_true_iff, decide_eq_true_iff, decide_eq_true_iff]
    constructor
    · rintro ⟨rfl, rfl⟩
      rfl
    · intro z
      exact List.cons.inj z
def tupD (k : List Key) : PyData := .tuple (k.map keyD)
theorem any_keys (ks : List (List Key)) (k : List Key) : ((ks.map tupD).any fun z => PyData.eqv z (tupD k)) = ks.any fun z => decide (z = k) := by
  rw [List.any_map]
  congr 1
  funext z
  exact eqv_keys z k
def KOk (k : List Key) : Prop := ∀ x, Sum.inr x ∈ k → PyData.canLay0 (.str x) = true
theorem kB_ok {x : Str} {a b : Int} (h : x = "gap" ∨ x = "away" ∨ x = "fresh") : KOk (kB x a b) := fun y hy => by
  have e : y = x := by
    simp only [kB, List.mem_cons, List.not_mem_nil, or_false] at hy
    rcases hy with z | z | z
    · exact Sum.inr.inj z
    · cases z
    · cases z
  subst e
  rcases h with rfl | rfl | rfl <;> decide +kernel
theorem shp_key (n : Nat) {k : Key} (h : ∀ x, Sum.inr x = k → PyData.canLay0 (.str x) = true) : Shp n (keyD k) := by
  cases k with
  | inl i => exact shp_int n i
  | inr x => exact ⟨h x rfl, Nat.zero_le _⟩
theorem shp_tupD {k : List Key} (h : KOk k) : Shp 1 (tupD k) := shp_tuple fun d hd => by
  obtain ⟨x, hx, rfl⟩ := List.mem_map.mp hd
  exact shp_key 0 fun y e => h y (by rw [e]; exact hx)
theorem shp_tupsD {ks : List (List Key)} (h : ∀ k ∈ ks, KOk k) : Shp 2 (.list (ks.map tupD)) := shp_list fun d hd => by
  obtain ⟨x, hx, rfl⟩ := List.mem_map.mp hd
  exact shp_tupD (h x hx)
theorem rise_ok (a d : Int) : ∀ k ∈ rise a d, KOk k := fun k hk => by
  simp only [rise, List.mem_cons, List.not_mem_nil, or_false] at hk
  rcases hk with rfl | rfl | rfl | rfl
  · exact kB_ok (.inl rfl)
  · exact kB_ok (.inl rfl)
  · exact kB_ok (.inr (.inl rfl))
  · exact kB_ok (.inr (.inr rfl))
theorem fall_ok (a d : Int) : ∀ k ∈ fall a d, KOk k := fun k hk => by
  simp only [fall, List.mem_cons, List.not_mem_nil, or_false] at hk
  rcases hk with rfl | rfl | rfl | rfl
  · exact kB_ok (.inl rfl)
  · exact kB_ok (.inl rfl)
  · exact kB_ok (.inr (.inl rfl))
  · exact kB_ok (.inr (.inr rfl))
theorem dp_keys {K : PySem.W.Frag} {H : Hp} : ∀ k : List Key, DpAll K H (k.map kV) (k.map keyD)
  | [] => .nil
  | .inl i :: r => .cons (.int i) (dp_keys r)
  | .inr x :: r => .cons (.str x) (dp_keys r)
theorem dp_tup {K : PySem.W.Frag} {H : Hp} {t : Addr} {k : List Key} (h : H t = some (.tup (k.map kV))) : Dp K H (.ref t) (tupD k) := .tup (.inl (.inl h)) (dp_keys k)
theorem KeysAt.dp {K : PySem.W.Frag} {H : Hp} {l : Addr} {ks : List (List Key)} (h : KeysAt H l ks) : Dp K H (.ref l) (.list (ks.map tupD)) := by
  obtain ⟨ts, e, p⟩ := h
  refine .lst (.inl (.inl e)) ?_
  clear e
  induction p with
  | nil => exact .nil
  | cons h _ ih => exact .cons (dp_tup h) ih
theorem bad_take {L : NumL} {a d : Int} {i : Nat} {p : List Key × V} (h : L[i]? = some p) (b : badN (L.take i) a d = false) (c : (decide (numV p.2 < 0) && (!(rise a d).any (fun k => decide (k = p.1)) && !(fall a d).any (fun k => decide (k = p.1)))) = false) : badN (L.take (i + 1)) a d = false := by
  unfold badN at b ⊢
  rw [List.take_add_one, h, List.any_append, b]
  show (false || ([p].any _)) = false
  rw [Bool.false_or, List.any_cons, List.any_nil, Bool.or_false]
  exact c
theorem bad_of {L : NumL} {a d : Int} {i : Nat} {p : List Key × V} (h : L[i]? = some p) (c : (decide (numV p.2 < 0) && (!(rise a d).any (fun k => decide (k = p.1)) && !(fall a d).any (fun k => decide (k = p.1)))) = true) : badN L a d = true := by
  unfold badN
  exact List.any_eq_true.mpr ⟨p, List.mem_of_getElem? h, c⟩
theorem four {H : Hp} {t1 t2 t3 t4 l : Addr} (k1 k2 k3 k4 : List Key) (n1 : H t1 = none) (n2 : upd H t1 (.tup (k1.map kV)) t2 = none) (n3 : upd (upd H t1 (.tup (k1.map kV))) t2 (.tup (k2.map kV)) t3 = none)
    (n4 : upd (upd (upd H t1 (.tup (k1.map kV))) t2 (.tup (k2.map kV))) t3 (.tup (k3.map kV)) t4 = none) (nl : upd (upd (upd (upd H t1 (.tup (k1.map kV))) t2 (.tup (k2.map kV))) t3 (.tup (k3.map kV))) t4 (.tup (k4.map kV)) l = none) :
    Same H (upd (upd (upd (upd (upd H t1 (.tup (k1.map kV))) t2 (.tup (k2.map kV))) t3 (.tup (k3.map kV))) t4 (.tup (k4.map kV))) l (.lst [.ref t1, .ref t2, .ref t3, .ref t4])) ∧
      KeysAt (upd (upd (upd (upd (upd H t1 (.tup (k1.map kV))) t2 (.tup (k2.map kV))) t3 (.tup (k3.map kV))) t4 (.tup (k4.map kV))) l (.lst [.ref t1, .ref t2, .ref t3, .ref t4])) l [k1, k2, k3, k4] := by
  have a1 := same_new (o := .tup (k1.map kV)) n1
  have a2 := same_new (o := .tup (k2.map kV)) n2
  have a3 := same_new (o := .tup (k3.map kV)) n3
  have a4 := same_new (o := .tup (k4.map kV)) n4
  have a5 := same_new (o := .lst [.ref t1, .ref t2, .ref t3, .ref t4]) nl
  exact ⟨(((a1.trans a2).trans a3).trans a4).trans a5, [t1, t2, t3, t4], upd_same, .cons (a5 _ _ (a4 _ _ (a3 _ _ (a2 _ _ upd_same)))) (.cons (a5 _ _ (a4 _ _ (a3 _ _ upd_same))) (.cons (a5 _ _ (a4 _ _ upd_same)) (.cons (a5 _ _ upd_same) .nil)))⟩
section
variable {P : Program} {w : World} {K : PySem.W.Frag} {mg : Str → Option Value} {base : Heap}
def spVals : Sp := fun vs H Q _ => ∃ (g D : Addr) (n w : Nat) (f : Nat → List Int) (d b : Nat) (t : Int), vs = [.ref g, .ref D, .int d, .int b] ∧ ShAt H g n w f ∧ H D = some (.dT (numK f n w)) ∧ d < n ∧ b < (f d).length ∧ (f d)[b]? = some t ∧
  (badN (numK f n w) ((d : Int) - (b : Int)) d = true → ∀ H', Same H H' → Q .non H') ∧
  (badN (numK f n w) ((d : Int) - (b : Int)) d = false → ∀ m, m ∈ 0 :: lows (numK f n w) t ((d : Int) - (b : Int)) d → (∀ x ∈ 0 :: lows (numK f n w) t ((d : Int) - (b : Int)) d, x ≤ m) →
    (highs (numK f n w) t ((d : Int) - (b : Int)) d = [] → ∀ H' T, Same H H' → H' T = some (.tup [.int m, .non]) → Q (.ref T) H') ∧
    ∀ l, l ∈ highs (numK f n w) t ((d : Int) - (b : Int)) d → (∀ x ∈ highs (numK f n w) t ((d : Int) - (b : Int)) d, l ≤ x) → (l < m → ∀ H', Same H H' → Q .non H') ∧ (m ≤ l → ∀ H' T, Same H H' → H' T = some (.tup [.int m, .int l]) → Q (.ref T) H'))
theorem ok_vals {f : Addr} {fd : FuncData} {k : Nat} (F : Fun K "_values_at" "_values_at" s__values_at f fd) (m_max : mg "max" = none) (m_min : mg "min" = none) : FnOk P w K mg base CX0 (k + 1) f fd ["sheet", "numbers", "day", "back"] spVals := by
  refine F.ok sc__values_at (fun vs H Q E h => ?_) (fun cdv A outer s H vs Q E hr h => ?_)
  · obtain ⟨g, _, _, _, _, _, _, _, rfl, _⟩ := h
    rfl
  · obtain ⟨g, D, n, m, f, d, b, t, rfl, hS, eD, dn, bl, et, q1, q2⟩ := h
    refine ⟨_, (pss_cons (ps_set (i := 4) sc__values_at.nd rfl (by first | exact Or.inl rfl | exact Or.inr rfl) (pe_op op_sub (pv 2) (pv 3)))
  (pss_cons (ps_set (i := 5) sc__values_at.nd rfl (by first | exact Or.inl rfl | exact Or.inr rfl) (pe_ix (Fa.ixL K) (pe_ix (Fa.ixL K) (pv 0) (pv 2) (fun _ _ => rfl)) (pv 3) (fun _ _ => rfl)))
  (pss_cons (ps_set (i := 6) sc__values_at.nd rfl (by first | exact Or.inl rfl | exact Or.inr rfl) (pe_lst (pa_cons (pe_tup (pa_cons pe_str (pa_cons (pv 4) (pa_cons (pe_op op_add (pv 2) pe_int) pa_nil)))) (pa_cons (pe_tup (pa_cons pe_str (pa_cons (pe_op op_sub (pv 4) pe_int) (pa_cons (pv 2) pa_nil)))) (pa_cons (pe_tup (pa_cons pe_str (pa_cons (pv 4) (pa_cons (pv 2) pa_nil)))) (pa_cons (pe_tup (pa_cons pe_str (pa_cons (pv 4) (pa_cons (pv 2) pa_nil)))) pa_nil))))))
  (pss_cons (ps_set (i := 7) sc__values_at.nd rfl (by first | exact Or.inl rfl | exact Or.inr rfl) (pe_lst (pa_cons (pe_tup (pa_cons pe_str (pa_cons (pv 4) (pa_cons (pv 2) pa_nil)))) (pa_cons (pe_tup (pa_cons pe_str (pa_cons (pe_op op_sub (pv 4) pe_int) (pa_cons (pe_op op_add (pv 2) pe_int) pa_nil)))) (pa_cons (pe_tup (pa_cons pe_str (pa_cons (pe_op op_sub (pv 4) pe_int) (pa_cons (pv 2) pa_nil)))) (pa_cons (pe_tup (pa_cons pe_str (pa_cons (pv 4) (pa_cons (pe_op op_add (pv 2) pe_int) pa_nil)))) pa_nil))))))
  (pss_cons (ps_lock (ps_for PassesOwn.never rfl (Fa.pi_itemsT (pv 1)) (pg_tup rfl (pgs_cons (pg_name (i := 8) sc__values_at.nd rfl (by first | exact Or.inl rfl | exact Or.inr rfl)) (pgs_cons (pg_name (i := 9) sc__values_at.nd rfl (by first | exact Or.inl rfl | exact Or.inr rfl)) pgs_nil))) (pss_one (ps_if (PW.pt (pw_and (pt_cmpR op_lt (pv 9) pe_int (nomark _)) (pw_and (pt_cmpR (Fa.notInDQ K (Fa.un66 hr)) (pv 8) (pv 6) rfl) (pw_and1 (pt_cmpR (Fa.notInDQ K (Fa.un66 hr)) (pv 8) (pv 7) rfl))))) (pss_one (ps_ret pe_non)) pss_nil))))
  (pss_cons (ps_set (i := 10) sc__values_at.nd rfl (by first | exact Or.inl rfl | exact Or.inr rfl) (pe_callB (mxQ K rfl) (by rfl) m_max PyProof.Rows.boot_max (pa_cons (pe_op op_cat (pe_lst (pa_cons pe_int pa_nil)) (pe_lc (own := [("thing", 8)]) (g := (gName 8)) rfl sc__values_at.nd (Fa.listQ K (pv 6)) (blkOk_by (N := N__values_at) (sc := defScope s__values_at) (by decide +kernel)) (fun _ _ _ _ _ => (pg_name (i := 8) sc__values_at.nd rfl (by first | exact Or.inl rfl | exact Or.inr rfl))) (fun _ _ _ _ _ => (pts_one (pt_cmp (pc_din (hu_of hr) (pv 8) (pv 1))))) (fun _ _ _ _ _ => (pe_op op_sub (pv 5) (pe_dget (hu_of hr) (pv 1) (pv 8) (fun _ _ => rfl)))))) pa_nil)))
  (pss_cons (ps_setLc (i := 11) (own := [("thing", 8)]) (g := (gName 8)) rfl sc__values_at.nd rfl rfl (sw_true rfl rfl rfl (by decide +kernel)) (Fa.listQ K (pv 7)) (blkOk_by (N := N__values_at) (sc := defScope s__values_at) (by decide +kernel)) (fun _ _ _ _ _ => (pg_name (i := 8) sc__values_at.nd rfl (by first | exact Or.inl rfl | exact Or.inr rfl))) (fun _ _ _ _ _ => (pts_one (pt_cmp (pc_din (hu_of hr) (pv 8) (pv 1))))) (fun _ _ _ _ _ => (pe_op op_add (pv 5) (pe_dget (hu_of hr) (pv 1) (pv 8) (fun _ _ => rfl)))))
  (pss_cons (ps_if (pt_cmpR (Fa.eqQ K hr.units) (pv 11) (pe_lst pa_nil) (nomark _)) (pss_one (ps_ret (pe_tup (pa_cons (pv 10) (pa_cons pe_non pa_nil))))) pss_nil)
  (pss_cons (ps_if (pt_cmpR op_lt (pe_callB (mnQ K rfl) (by rfl) m_min PyProof.Rows.boot_min (pa_cons (pv 11) pa_nil)) (pv 10) (nomark _)) (pss_one (ps_ret pe_non)) pss_nil)
  (pss_one (ps_ret (pe_tup (pa_cons (pv 10) (pa_cons (pe_callB (mnQ K rfl) (by rfl) m_min PyProof.Rows.boot_min (pa_cons (pv 11) pa_nil)) pa_nil)))))))))))))), ?_⟩
    obtain ⟨⟨rows, G⟩, hf⟩ := id hS
    obtain ⟨r, er, _, hrow⟩ := G.get (s := d) dn
    have at1 : atI (rows.map V.ref) (d : Int) = some (.ref r) := atI_nat (by rw [List.getElem?_map, er]; rfl)
    have at2 : atI ((f d).map V.int) (b : Int) = some (.int t) := atI_nat (by rw [List.getElem?_map, et]; rfl)
    refine ⟨_, rfl, _, rfl, _, _, rfl, rfl, ?_⟩
    refine ⟨_, rfl, _, rfl, g, _, _, _, rfl, rfl, .inl (.inl G.top), at1, _, rfl, r, _, _, _, rfl, rfl, .inl (.inl hrow), at2, ?_⟩
    obtain ⟨a, ea⟩ : ∃ a : Int, a = (d : Int) - (b : Int) := ⟨_, rfl⟩
    show tSeq _ _ _ _ _
    refine ⟨_, rfl, _, rfl, _, _, rfl, rfl, by show 3 ≤ sizeLine; decide, fun t1 n1 => ?_⟩
    refine ⟨_, rfl, _, _, rfl, rfl, _, rfl, by show 3 ≤ sizeLine; decide, fun t2 n2 => ?_⟩
    refine ⟨_, rfl, _, rfl, by show 3 ≤ sizeLine; decide, fun t3 n3 => ?_⟩
    refine ⟨_, rfl, _, rfl, by show 3 ≤ sizeLine; decide, fun t4 n4 => ?_⟩
    refine ⟨by show 4 ≤ sizeLine; decide, fun l1 nl1 => ?_⟩
    have X1 := four (kB "gap" ((d : Int) - (b : Int)) ((d : Int) + 1)) (kB "gap" ((d : Int) - (b : Int) - 1) d) (kB "away" ((d : Int) - (b : Int)) d) (kB "fresh" ((d : Int) - (b : Int)) d) n1 n2 n3 n4 nl1
    obtain ⟨s1, K1⟩ := X1
    show gName 6 (V.ref l1) _ (upd (upd (upd (upd (upd H t1 (.tup ((kB "gap" ((d : Int) - (b : Int)) ((d : Int) + 1)).map kV))) t2 (.tup ((kB "gap" ((d : Int) - (b : Int) - 1) d).map kV))) t3 (.tup ((kB "away" ((d : Int) - (b : Int)) d).map kV))) t4 (.tup ((kB "fresh" ((d : Int) - (b : Int)) d).map kV))) l1 (.lst [.ref t1, .ref t2, .ref t3, .ref t4])) _
    generalize upd (upd (upd (upd (upd H t1 (.tup ((kB "gap" ((d : Int) - (b : Int)) ((d : Int) + 1)).map kV))) t2 (.tup ((kB "gap" ((d : Int) - (b : Int) - 1) d).map kV))) t3 (.tup ((kB "away" ((d : Int) - (b : Int)) d).map kV))) t4 (.tup ((kB "fresh" ((d : Int) - (b : Int)) d).map kV))) l1 (.lst [.ref t1, .ref t2, .ref t3, .ref t4]) = H1 at s1 K1 ⊢
    clear n1 n2 n3 n4 nl1 t1 t2 t3 t4
    refine ⟨_, rfl, _, rfl, by show 3 ≤ sizeLine; decide, fun t1 n1 => ?_⟩
    refine ⟨_, rfl, _, _, rfl, rfl, _, rfl, _, _, rfl, rfl, by show 3 ≤ sizeLine; decide, fun t2 n2 => ?_⟩
    refine ⟨_, rfl, _, _, rfl, rfl, _, rfl, by show 3 ≤ sizeLine; decide, fun t3 n3 => ?_⟩
    refine ⟨_, rfl, _, rfl, _, _, rfl, rfl, by show 3 ≤ sizeLine; decide, fun t4 n4 => ?_⟩
    refine ⟨by show 4 ≤ sizeLine; decide, fun l2 nl2 => ?_⟩
    have X2 := four (kB "gap" ((d : Int) - (b : Int)) d) (kB "gap" ((d : Int) - (b : Int) - 1) ((d : Int) + 1)) (kB "away" ((d : Int) - (b : Int) - 1) d) (kB "fresh" ((d : Int) - (b : Int)) ((d : Int) + 1)) n1 n2 n3 n4 nl2
    obtain ⟨s2, K2⟩ := X2
    show gName 7 (V.ref l2) _ (upd (upd (upd (upd (upd H1 t1 (.tup ((kB "gap" ((d : Int) - (b : Int)) d).map kV))) t2 (.tup ((kB "gap" ((d : Int) - (b : Int) - 1) ((d : Int) + 1)).map kV))) t3 (.tup ((kB "away" ((d : Int) - (b : Int) - 1) d).map kV))) t4 (.tup ((kB "fresh" ((d : Int) - (b : Int)) ((d : Int) + 1)).map kV))) l2 (.lst [.ref t1, .ref t2, .ref t3, .ref t4])) _
    generalize upd (upd (upd (upd (upd H1 t1 (.tup ((kB "gap" ((d : Int) - (b : Int)) d).map kV))) t2 (.tup ((kB "gap" ((d : Int) - (b : Int) - 1) ((d : Int) + 1)).map kV))) t3 (.tup ((kB "away" ((d : Int) - (b : Int) - 1) d).map kV))) t4 (.tup ((kB "fresh" ((d : Int) - (b : Int)) ((d : Int) + 1)).map kV))) l2 (.lst [.ref t1, .ref t2, .ref t3, .ref t4]) = H2 at s2 K2 ⊢
    clear n1 n2 n3 n4 nl2 t1 t2 t3 t4
    have K1 : KeysAt H2 l1 (rise ((d : Int) - (b : Int)) d) := K1.same s2
    have K2 : KeysAt H2 l2 (fall ((d : Int) - (b : Int)) d) := K2
    have s02 := s1.trans s2
    have eD2 := s02 _ _ eD
    rw [← ea] at q1 q2 K1 K2
    refine ⟨D, .dT (numK f n m), eD2, trivial, fun od => ?_⟩
    refine ⟨_, rfl, D, od, _, rfl, upd_same, ?_⟩
    have valn : ∀ (k : List Key) (v : V), valV (numK f n m) k = some v → ∃ z : Int, v = V.int z := fun k v h => by
      unfold valV at h
      cases e : (numK f n m).find? fun kv => decide (kv.1 = k) with
      | none =>
        rw [e] at h
        cases h
      | some kv =>
        rw [e] at h
        cases h
        obtain ⟨_, _, _, z, _, e2, _⟩ := numK_mem (k := kv.1) (v := kv.2) (List.mem_of_find?_eq_some e)
        exact ⟨z, e2⟩
    have nn : ∀ q, q ∈ numK f n m → (∃ z : Int, q.2 = V.int z) ∧ KOk q.1 := fun q hq => by
      obtain ⟨x, a', b', z, e1, e, hx⟩ := numK_mem (k := q.1) (v := q.2) hq
      refine ⟨⟨z, e⟩, ?_⟩
      rw [e1]
      refine kB_ok ?_
      rcases hx with ⟨h, _⟩ | ⟨h, _⟩ | ⟨h, _⟩
      · exact .inl h
      · exact .inr (.inl h)
      · exact .inr (.inr h)
    generalize hL : numK f n m = L at *
    have lD : D ≠ l1 := fun z => by
      obtain ⟨ts, e, _⟩ := K1
      rw [← z, eD2] at e
      cases e
    have lD2 : D ≠ l2 := fun z => by
      obtain ⟨ts, e, _⟩ := K2
      rw [← z, eD2] at e
      cases e
    have kk : ∀ {l : Addr} {ks : List (List Key)}, KeysAt H2 l ks → D ≠ l → KeysAt (upd H2 D (.frz od (.dT L))) l ks := fun {l ks} h ne => by
      obtain ⟨ts, e, p⟩ := h
      refine ⟨ts, by rw [upd_ne ne.symm]; exact e, L2.Paired.mapP p fun t k z => ?_⟩
      rw [upd_ne (ne_of z eD2 (fun z => by cases z))]
      exact z
    have KF1 := kk K1 lD
    have KF2 := kk K2 lD2
    have eF : upd H2 D (.frz od (.dT L)) D = some (.frz od (.dT L)) := upd_same
    have back2 : ∀ H', Same (upd H2 D (.frz od (.dT L))) H' → Same H2 (upd H' D (.dT L)) := fun H' s' c o z => by
      by_cases e : c = D
      · subst e
        rw [eD2] at z
        cases z
        exact upd_same
      · rw [upd_ne e]
        exact s' _ _ (by rw [upd_ne e]; exact z)
    have back : ∀ H', Same (upd H2 D (.frz od (.dT L))) H' → Same H (upd H' D (.dT L)) := fun H' s' => s02.trans (back2 H' s')
    refine for_it (walk_itemsT (d := D) (o := od) (kvs := L)) (fun i σ H' => H' D = some (.frz od (.dT L)) ∧ Same (upd H2 D (.frz od (.dT L))) H' ∧ badN (L.take i) a d = false ∧ ∃ x8 x9, σ = [some (.ref g), some (.ref D), some (.int d), some (.int b), some (.int ((d : Int) - (b : Int))), some (.int t), some (.ref l1), some (.ref l2), x8, x9, none, none]) ?_ ?_ ?_ ?_
    · exact ⟨eF, Same.refl _, rfl, none, none, rfl⟩
    · rintro i σ H' _ ⟨h, _⟩
      exact h
    · rintro i v σ H3' H3 hi ⟨e3, s3, b3, x8, x9, rfl⟩ ⟨T, t', k, v, ek, ht, rfl, nT, rfl⟩
      obtain ⟨⟨z, ez⟩, hk⟩ := nn (k, v) (List.mem_of_getElem? ek)
      obtain rfl : v = V.int z := ez
      have sT := same_new (o := .tup [.ref t', .int z]) nT
      have s4 := s3.trans sT
      have e4 := sT _ _ e3
      have ht4 := sT _ _ ht
      have eT : upd H3' T (.tup [.ref t', .int z]) T = some (.tup [.ref t', .int z]) := upd_same
      generalize upd H3' T (.tup [.ref t', .int z]) = H4 at s4 e4 ht4 eT ⊢
      refine ⟨T, _, rfl, .inl (.inl eT), rfl, _, _, rfl, _, _, rfl, rfl, ?_⟩
      have R1 := (KF1.same s4).dp (K := K)
      have R2 := (KF2.same s4).dp (K := K)
      have okc : ∀ c : Bool, (decide (numV (V.int z) < 0) && (!(rise a d).any (fun q => decide (q = k)) && !(fall a d).any (fun q => decide (q = k)))) = c → c = false → badN (L.take (i + 1)) a d = false := fun c h1 h2 => bad_take ek b3 (by rw [← h2, ← h1])
      by_cases z0 : z < 0
      · refine ⟨_, rfl, _, _, rfl, rfl, _, rfl, iteDS z0 ⟨_, rfl, _, rfl, _, _, dp_tup ht4, R1, (shp_tupD hk).shaped (by decide), (shp_tupsD (rise_ok a d)).shaped (by decide), _, rfl, ?_⟩⟩
        rw [any_keys]
        cases c1 : (rise a d).any fun q => decide (q = k) with
        | true => exact iteN0 rfl ⟨e4, s4, okc _ rfl (by rw [c1]; simp), _, _, rfl⟩
        | false =>
          refine iteN1 rfl ⟨_, rfl, _, rfl, _, _, dp_tup ht4, R2, (shp_tupD hk).shaped (by decide), (shp_tupsD (fall_ok a d)).shaped (by decide), _, rfl, ?_⟩
          rw [any_keys]
          cases c2 : (fall a d).any fun q => decide (q = k) with
          | true => exact iteN0 rfl ⟨e4, s4, okc _ rfl (by rw [c2]; simp), _, _, rfl⟩
          | false =>
            refine iteN1 rfl ⟨e4, ?_⟩
            refine q1 (bad_of ek ?_) _ (back _ s4)
            show (decide (z < 0) && _) = true
            rw [c1, c2, decide_eq_true z0]
            rfl
      · refine ⟨_, rfl, _, _, rfl, rfl, _, rfl, iteDF z0 ⟨e4, s4, okc _ rfl ?_, _, _, rfl⟩⟩
        show (decide (z < 0) && _) = false
        rw [decide_eq_false z0]
        rfl
    · rintro σ H3 ⟨e3, s3, b3, x8, x9, rfl⟩
      rw [List.take_length] at b3
      refine ⟨e3, ?_⟩
      have s25 := back2 _ s3
      have eD5 : upd H3 D (.dT L) D = some (.dT L) := upd_same
      generalize upd H3 D (.dT L) = H5 at s25 eD5 ⊢
      have K15 := K1.same s25
      have K25 := K2.same s25
      have s05 := s02.trans s25
      refine ⟨by show 1 ≤ sizeLine; decide, fun z nz => ?_⟩
      have sz := same_new (o := .lst [.int 0]) nz
      have ez : upd H5 z (.lst [.int 0]) z = some (.lst [.int 0]) := upd_same
      generalize upd H5 z (.lst [.int 0]) = H6 at sz ez ⊢
      obtain ⟨ts, el, pr⟩ := K15.same sz
      have eD6 := sz _ _ eD5
      refine ⟨_, rfl, l1, rfl, ⟨_, .inl (.inl el)⟩, fun Dc nDc => ?_⟩
      refine lc_it (walk_list (xs := ts.map V.ref)) (fun j H' => Same H6 H' ∧ H' Dc = some (.lst ((((rise a d).take j).filterMap fun k => (valV L k).map fun v => t - numV v).map V.int))) ?_ ?_ ?_ ?_
      · exact ⟨same_new nDc, upd_same⟩
      · rintro j H' _ ⟨s', _⟩
        exact .inl (.inl (s' _ _ el))
      · rintro j u _ H7 hj ⟨s7, e7⟩ ⟨rfl, eu⟩
        rw [List.getElem?_map] at eu
        cases et : ts[j]? with
        | none =>
          rw [et] at eu
          cases eu
        | some tk =>
          rw [et] at eu
          cases eu
          obtain ⟨k, ek, hk⟩ := paired_at pr et
          have tk1 : ((rise a d).take (j + 1)).filterMap (fun k => (valV L k).map fun v => t - numV v) = ((rise a d).take j).filterMap (fun k => (valV L k).map fun v => t - numV v) ++ ((valV L k).map fun v => t - numV v).toList := by
            rw [List.take_add_one, ek, List.filterMap_append]
            cases h : valV L k with
            | none => simp [h]
            | some v => simp [h]
          have dg : DGet H7 D (.ref tk) (valV L k) := DGet.t (s7 _ _ eD6) (s7 _ _ hk)
          refine ⟨rfl, _, rfl, _, rfl, D, _, rfl, dg, _, rfl, ?_⟩
          cases ev : valV L k with
          | none =>
            rw [ev] at tk1
            refine ite2 (fun z => by cases z) fun _ => ⟨s7, ?_⟩
            rw [tk1]
            simpa using e7
          | some v =>
            rw [ev] at tk1 dg
            obtain ⟨z1, ez1⟩ := valn k v ev
            subst ez1
            refine ite2 (fun _ => ?_) fun z => absurd rfl z
            refine ⟨_, rfl, _, rfl, _, rfl, D, _, rfl, dg, _, _, rfl, rfl, _, e7, ?_, fun c o y => ?_, ?_⟩
            · rw [List.length_map]
              refine small1000 (Nat.le_trans (List.length_filterMap_le _ _) ?_)
              rw [List.length_take]
              have : (rise a d).length = 4 := rfl
              omega
            · rw [upd_ne (ne_of_none y nDc)]
              exact s7 _ _ y
            · rw [upd_same, tk1, List.map_append]
              rfl
      · rintro H7 ⟨s7, e7⟩
        rw [List.take_of_length_le (by rw [List.length_map, ← paired_len pr]; exact Nat.le_refl _)] at e7
        have len4 : ∀ (ks : List (List Key)) (g : List Key → Option Int), ks.length = 4 → (ks.filterMap g).length ≤ 4 := fun ks g h => by
          rw [← h]
          exact List.length_filterMap_le _ _
        have ll := len4 (rise a d) (fun k => (valV L k).map fun v => t - numV v) rfl
        have lh := len4 (fall a d) (fun k => (valV L k).map fun v => t + numV v) rfl
        refine ⟨z, Dc, _, _, rfl, rfl, s7 _ _ ez, e7, ?_, fun C nC => ?_⟩
        · rw [List.length_map]
          exact Nat.le_of_lt (small1000 (by show 1 + _ ≤ 1000; omega))
        have sC := same_new (o := .lst ([V.int 0] ++ (((rise a d).filterMap fun k => (valV L k).map fun v => t - numV v).map V.int))) nC
        have eC : upd H7 C (.lst ([V.int 0] ++ (((rise a d).filterMap fun k => (valV L k).map fun v => t - numV v).map V.int))) C = some (.lst ((0 :: lows L t a d).map V.int)) := upd_same
        have s07 := (s05.trans sz).trans s7
        refine ⟨C, 0 :: lows L t a d, rfl, .inl (.inl eC), Nat.succ_pos _, fun mm hm hle => ?_⟩
        show gName 10 (V.int mm) _ (upd H7 C (.lst ([V.int 0] ++ (((rise a d).filterMap fun k => (valV L k).map fun v => t - numV v).map V.int)))) _
        have q3 := q2 b3 mm hm hle
        have s08 := s07.trans sC
        obtain ⟨ts2, el2, pr2⟩ := ((K25.same sz).same s7).same sC
        have eD8 := sC _ _ (s7 _ _ eD6)
        generalize upd H7 C (.lst ([V.int 0] ++ (((rise a d).filterMap fun k => (valV L k).map fun v => t - numV v).map V.int))) = H8 at s08 el2 pr2 eD8 ⊢
        refine ⟨_, rfl, l2, rfl, ⟨_, .inl (.inl el2)⟩, fun Dm nDm => ?_⟩
        refine lc_it (walk_list (xs := ts2.map V.ref)) (fun j H' => Same H8 H' ∧ H' Dm = some (.lst ((((fall a d).take j).filterMap fun k => (valV L k).map fun v => t + numV v).map V.int))) ?_ ?_ ?_ ?_
        · exact ⟨same_new nDm, upd_same⟩
        · rintro j H' _ ⟨s', _⟩
          exact .inl (.inl (s' _ _ el2))
        · rintro j u _ H9 hj ⟨s9, e9⟩ ⟨rfl, eu⟩
          rw [List.getElem?_map] at eu
          cases et : ts2[j]? with
          | none =>
            rw [et] at eu
            cases eu
          | some tk =>
            rw [et] at eu
            cases eu
            obtain ⟨k, ek, hk⟩ := paired_at pr2 et
            have tk1 : ((fall a d).take (j + 1)).filterMap (fun k => (valV L k).map fun v => t + numV v) = ((fall a d).take j).filterMap (fun k => (valV L k).map fun v => t + numV v) ++ ((valV L k).map fun v => t + numV v).toList := by
              rw [List.take_add_one, ek, List.filterMap_append]
              cases h : valV L k with
              | none => simp [h]
              | some v => simp [h]
            have dg : DGet H9 D (.ref tk) (valV L k) := DGet.t (s9 _ _ eD8) (s9 _ _ hk)
            refine ⟨rfl, _, rfl, _, rfl, D, _, rfl, dg, _, rfl, ?_⟩
            cases ev : valV L k with
            | none =>
              rw [ev] at tk1
              refine ite2 (fun z => by cases z) fun _ => ⟨s9, ?_⟩
              rw [tk1]
              simpa using e9
            | some v =>
              rw [ev] at tk1 dg
              obtain ⟨z1, ez1⟩ := valn k v ev
              subst ez1
              refine ite2 (fun _ => ?_) fun z => absurd rfl z
              refine ⟨_, rfl, _, rfl, _, rfl, D, _, rfl, dg, _, _, rfl, rfl, _, e9, ?_, fun c o y => ?_, ?_⟩
              · rw [List.length_map]
                refine small1000 (Nat.le_trans (List.length_filterMap_le _ _) ?_)
                rw [List.length_take]
                have : (fall a d).length = 4 := rfl
                omega
              · rw [upd_ne (ne_of_none y nDm)]
                exact s9 _ _ y
              · rw [upd_same, tk1, List.map_append]
                rfl
        · rintro H9 ⟨s9, e9⟩
          rw [List.take_of_length_le (by rw [List.length_map, ← paired_len pr2]; exact Nat.le_refl _)] at e9
          have e9 : H9 Dm = some (.lst ((highs L t a d).map V.int)) := e9
          have s09 := s08.trans s9
          obtain ⟨q4, q5⟩ := q3
          have lh' : (highs L t a d).length ≤ 4 := lh
          generalize highs L t a d = hs at q4 q5 e9 lh'
          refine ⟨_, rfl, Nat.zero_le _, fun z2 nz2 => ?_⟩
          have sz2 := same_new (o := .lst []) nz2
          have ez2 : upd H9 z2 (.lst []) z2 = some (.lst []) := upd_same
          have e10 := sz2 _ _ e9
          have s10 := s09.trans sz2
          generalize upd H9 z2 (.lst []) = H10 at ez2 e10 s10 ⊢
          refine ⟨.list (hs.map PyData.int), .list [], lst_dp e10, .lst (.inl (.inl ez2)) .nil, (shp_ints 0 _).shaped (by decide), rfl, _, rfl, ?_⟩
          cases hs with
          | nil =>
            refine iteT ⟨_, rfl, by show 2 ≤ sizeLine; decide, fun T nT => ?_⟩
            exact q4 rfl _ T (s10.trans (same_new nT)) upd_same
          | cons h0 hr =>
            refine iteF ?_
            refine ⟨_, rfl, Dm, h0 :: hr, rfl, .inl (.inl e10), Nat.succ_pos _, fun lo hlo hmin => ?_⟩
            obtain ⟨q6, q7⟩ := q5 lo hlo hmin
            refine ⟨_, rfl, _, _, rfl, rfl, _, rfl, ite2 (fun e => ?_) (fun e => ?_)⟩
            · exact q6 (of_decide_eq_true e) _ s10
            · have e : ¬ lo < mm := fun z => e (decide_eq_true z)
              refine ⟨_, rfl, _, rfl, Dm, h0 :: hr, rfl, .inl (.inl e10), Nat.succ_pos _, fun lo2 hlo2 hmin2 => ⟨by show 2 ≤ sizeLine; decide, fun T nT => ?_⟩⟩
              obtain rfl : lo = lo2 := by
                have := hmin lo2 hlo2
                have := hmin2 lo hlo
                omega
              exact q7 (by omega) _ T (s10.trans (same_new nT)) upd_same
end
end K46

namespace K46
open PySem PySem.Spec PyProof.Rows L2 Fa
abbrev s_is_between : Stmt := topS 7
abbrev N_is_between : List Str := ["thing", "least", "most"]
theorem sc_is_between : FnScope N_is_between ["thing", "least", "most"] (defScope s_is_between) := ⟨rfl, rfl, rfl, by decide +kernel, rfl, by decide +kernel, by decide +kernel⟩
section
variable {P : Program} {w : World} {K : PySem.W.Frag} {mg : Str → Option Value} {base : Heap}
def spBetw : Sp := fun vs H Q _ => ∃ i a b : Int, vs = [.int i, .int a, .int b] ∧ a ≤ i ∧ i ≤ b ∧ Q (.bl true) H
theorem ok_betw {f fI : Addr} {fd fdI : FuncData} {k : Nat} (F : Fun K "is_between" "is_between" s_is_between f fd) (F_is_integer : Fun K "is_integer" "is_integer" s_is_integer fI fdI) (G_is_integer : FnOk P w K mg base CX0 k fI fdI ["thing"] spIsInt) (b_is_integer : Binds K fdI ["thing"] [])
    (g_is_integer : mg "is_integer" = some (.ref fI)) : FnOk P w K mg base CX0 (k + 1) f fd ["thing", "least", "most"] spBetw := by
  refine F.ok sc_is_between (fun vs H Q E h => ?_) (fun cdv A outer s H vs Q E hr h => ?_)
  · obtain ⟨i, a, b, rfl, _⟩ := h
    rfl
  · obtain ⟨i, a, b, rfl, h1, h2, q⟩ := h
    refine ⟨_, (pss_one (ps_ret (pe_and (pe_call G_is_integer (hr.mono (by omega)) (by rfl) g_is_integer F_is_integer.kp b_is_integer .nil pass0 (pa_cons (pv 0) pa_nil)) (pe_one (pe_chain op_le op_le (pv 1) (pv 0) (pv 2)))))), ?_⟩
    exact ⟨_, rfl, i, rfl, _, rfl, iteT ⟨_, rfl, _, rfl, _, _, rfl, rfl, _, rfl, iteDS h1 ⟨_, rfl, _, _, rfl, rfl, by
      show Q (V.bl (decide (i ≤ b))) H
      rw [decide_eq_true h2]
      exact q⟩⟩⟩
end
end K46

namespace K46
open PySem PySem.Spec PyProof.Rows L2 Fa
abbrev s_check_day : Stmt := topS 11
abbrev N_check_day : List Str := ["sheet", "day"]
theorem sc_check_day : FnScope N_check_day ["sheet", "day"] (defScope s_check_day) := ⟨rfl, rfl, rfl, by decide +kernel, rfl, by decide +kernel, by decide +kernel⟩

section
variable {P : Program} {w : World} {K : PySem.W.Frag} {mg : Str → Option Value} {base : Heap}
def spCkDay : Sp := fun vs H Q _ => ∃ (g : Addr) (n w : Nat) (f : Nat → List Int) (d : Int), vs = [.ref g, .int d] ∧ ShAt H g n w f ∧ 0 ≤ d ∧ d < n ∧ Q .non H
def spCkAp : Sp := fun vs H Q _ => ∃ (g : Addr) (n w : Nat) (f : Nat → List Int) (a b c : Int), vs = [.ref g, .int a, .int b, .int c] ∧ ShAt H g n w f ∧ 0 ≤ a ∧ a < n ∧ 0 ≤ b ∧ b < n ∧ c ≤ b - a ∧ Q .non H
theorem ok_ckday {f fG : Addr} {fd fdG : FuncData} {k : Nat} (F : Fun K "check_day" "check_day" s_check_day f fd) (F_is_between : Fun K "is_between" "is_between" s_is_between fG fdG) (G_is_between : FnOk P w K mg base CX0 k fG fdG ["thing", "least", "most"] spBetw) (b_is_between : Binds K fdG ["thing", "least", "most"] [])
    (g_is_between : mg "is_between" = some (.ref fG)) (m_len : mg "len" = none) : FnOk P w K mg base CX0 (k + 1) f fd ["sheet", "day"] spCkDay := by
  refine F.ok sc_check_day (fun vs H Q E h => ?_) (fun cdv A outer s H vs Q E hr h => ?_)
  · obtain ⟨g, _, _, _, _, rfl, _⟩ := h
    rfl
  · obtain ⟨g, n, m, f, d, rfl, ⟨⟨rows, G⟩, hS⟩, h1, h2, q⟩ := h
    refine ⟨_, (pss_one (ps_if (pt_not (pt_val (pe_call G_is_between (hr.mono (by omega)) (by rfl) g_is_between F_is_between.kp b_is_between .nil pass0 (pa_cons (pv 1) (pa_cons pe_int (pa_cons (pe_op op_sub (pe_callB (Fa.lenQ K) (by rfl) m_len PySem.boot_len (pa_cons (pv 0) pa_nil)) pe_int) pa_nil)))))) Fa.pss_never pss_nil)), ?_⟩
    exact ⟨_, rfl, _, rfl, g, _, rfl, .inl (.inl (.inl G.top)), _, _, rfl, rfl, d, 0, _, rfl, h1, by rw [List.length_map, G.cnt]; omega, _, rfl, iteN0 rfl q⟩
end
end K46

namespace K46
open PySem PySem.Spec PyProof.Rows L2 Fa
abbrev s_value_range : Stmt := topS 25
abbrev N_value_range : List Str := ["sheet", "day", "back"]
theorem sc_value_range : FnScope N_value_range ["sheet", "day", "back"] (defScope s_value_range) := ⟨rfl, rfl, rfl, by decide +kernel, rfl, by decide +kernel, by decide +kernel⟩
section
variable {P : Program} {w : World} {K : PySem.W.Frag} {mg : Str → Option Value} {base : Heap}
def spVR : Sp := fun vs H Q _ => ∃ (g : Addr) (n w : Nat) (f : Nat → List Int) (d b : Nat) (t : Int), vs = [.ref g, .int d, .int b] ∧ ShAt H g n w f ∧ d < n ∧ b < (f d).length ∧ (f d)[b]? = some t ∧
  (badN (numK f n w) ((d : Int) - (b : Int)) d = true → ∀ H', Same H H' → Q .non H') ∧
  (badN (numK f n w) ((d : Int) - (b : Int)) d = false → ∀ m, m ∈ 0 :: lows (numK f n w) t ((d : Int) - (b : Int)) d → (∀ x ∈ 0 :: lows (numK f n w) t ((d : Int) - (b : Int)) d, x ≤ m) →
    (highs (numK f n w) t ((d : Int) - (b : Int)) d = [] → ∀ H' T, Same H H' → H' T = some (.tup [.int m, .non]) → Q (.ref T) H') ∧
    ∀ l, l ∈ highs (numK f n w) t ((d : Int) - (b : Int)) d → (∀ x ∈ highs (numK f n w) t ((d : Int) - (b : Int)) d, l ≤ x) → (l < m → ∀ H', Same H H' → Q .non H') ∧ (m ≤ l → ∀ H' T, Same H H' → H' T = some (.tup [.int m, .int l]) → Q (.ref T) H'))
theorem ok_vr {f : Addr} {fd : FuncData} {k : Nat} (F : Fun K "value_range" "value_range" s_value_range f fd) {f_check_sheet : Addr} {d_check_sheet : FuncData} (F_check_sheet : Fun K "check_sheet" "check_sheet" s_check_sheet f_check_sheet d_check_sheet) (G_check_sheet : FnOk P w K mg base CX0 k f_check_sheet d_check_sheet ["sheet"] spCkSh) (b_check_sheet : Binds K d_check_sheet ["sheet"] []) (g_check_sheet : mg "check_sheet" = some (.ref f_check_sheet)) {f_check_day : Addr} {d_check_day : FuncData} (F_check_day : Fun K "check_day" "check_day" s_check_day f_check_day d_check_day) (G_check_day : FnOk P w K mg base CX0 k f_check_day d_check_day ["sheet", "day"] spCkDay) (b_check_day : Binds K d_check_day ["sheet", "day"] []) (g_check_day : mg "check_day" = some (.ref f_check_day)) {f_is_between : Addr} {d_is_between : FuncData} (F_is_between : Fun K "is_between" "is_between" s_is_between f_is_between d_is_between) (G_is_between : FnOk P w K mg base CX0 k f_is_between d_is_between ["thing", "least", "most"] spBetw) (b_is_between : Binds K d_is_between ["thing", "least", "most"] []) (g_is_between : mg "is_between" = some (.ref f_is_between)) {f_numbers_in : Addr} {d_numbers_in : FuncData} (F_numbers_in : Fun K "numbers_in" "numbers_in" s_numbers_in f_numbers_in d_numbers_in) (G_numbers_in : FnOk P w K mg base CX0 k f_numbers_in d_numbers_in ["sheet"] spNums) (b_numbers_in : Binds K d_numbers_in ["sheet"] []) (g_numbers_in : mg "numbers_in" = some (.ref f_numbers_in)) {f__values_at : Addr} {d__values_at : FuncData} (F__values_at : Fun K "_values_at" "_values_at" s__values_at f__values_at d__values_at) (G__values_at : FnOk P w K mg base CX0 k f__values_at d__values_at ["sheet", "numbers", "day", "back"] spVals) (b__values_at : Binds K d__values_at ["sheet", "numbers", "day", "back"] []) (g__values_at : mg "_values_at" = some (.ref f__values_at)) (m_len : mg "len" = none) : FnOk P w K mg base CX0 (k + 1) f fd ["sheet", "day", "back"] spVR := by
  refine F.ok sc_value_range (fun vs H Q E h => ?_) (fun cdv A outer s H vs Q E hr h => ?_)
  · obtain ⟨g, _, _, _, _, _, _, rfl, _⟩ := h
    rfl
  · obtain ⟨g, n, m, f, d, b, t, rfl, hS, dn, bl, et, q1, q2⟩ := h
    refine ⟨_, (pss_cons (ps_expr (pe_call G_check_sheet (hr.mono (by omega)) (by rfl) g_check_sheet F_check_sheet.kp b_check_sheet .nil pass0 (pa_cons (pv 0) pa_nil)))
  (pss_cons (ps_expr (pe_call G_check_day (hr.mono (by omega)) (by rfl) g_check_day F_check_day.kp b_check_day .nil pass0 (pa_cons (pv 0) (pa_cons (pv 1) pa_nil))))
  (pss_cons (ps_if (pt_not (pt_val (pe_call G_is_between (hr.mono (by omega)) (by rfl) g_is_between F_is_between.kp b_is_between .nil pass0 (pa_cons (pv 2) (pa_cons pe_int (pa_cons (pe_op op_sub (pe_callB (Fa.lenQ K) (by rfl) m_len PySem.boot_len (pa_cons (pe_ix (Fa.ixL K) (pv 0) (pv 1) (fun _ _ => rfl)) pa_nil)) pe_int) pa_nil)))))) Fa.pss_never pss_nil)
  (pss_one (ps_ret (pe_call G__values_at (hr.mono (by omega)) (by rfl) g__values_at F__values_at.kp b__values_at .nil pass0 (pa_cons (pv 0) (pa_cons (pe_call G_numbers_in (hr.mono (by omega)) (by rfl) g_numbers_in F_numbers_in.kp b_numbers_in .nil pass0 (pa_cons (pv 0) pa_nil)) (pa_cons (pv 1) (pa_cons (pv 2) pa_nil)))))))))), ?_⟩
    refine ⟨_, rfl, g, n, m, f, rfl, hS, fun H1 s1 => ?_⟩
    have hS1 := hS.same s1
    refine ⟨_, rfl, _, rfl, g, n, m, f, d, rfl, hS1, by omega, by omega, ?_⟩
    obtain ⟨⟨rows, G⟩, hf⟩ := id hS1
    obtain ⟨r, er, _, hrow⟩ := G.get (s := d) dn
    have at1 : atI (rows.map V.ref) (d : Int) = some (.ref r) := atI_nat (by rw [List.getElem?_map, er]; rfl)
    refine ⟨_, rfl, _, rfl, _, rfl, g, _, _, _, rfl, rfl, .inl (.inl G.top), at1, r, _, rfl, .inl (.inl (.inl hrow)), _, _, rfl, rfl, b, 0, _, rfl, by omega, by rw [List.length_map]; omega, _, rfl, iteN0 rfl ?_⟩
    refine ⟨_, rfl, _, rfl, g, n, m, f, rfl, hS1, fun H2 D s2 nD eD => ?_⟩
    have s02 := s1.trans s2
    refine ⟨_, rfl, _, rfl, g, D, n, m, f, d, b, t, rfl, hS1.same s2, eD, dn, bl, et, fun h H' s' => q1 h H' (s02.trans s'), fun h mm h1 h2 => ?_⟩
    obtain ⟨q3, q4⟩ := q2 h mm h1 h2
    refine ⟨fun e H' T s' => q3 e H' T (s02.trans s'), fun l hl hm => ?_⟩
    obtain ⟨q5, q6⟩ := q4 l hl hm
    exact ⟨fun e H' s' => q5 e H' (s02.trans s'), fun e H' T s' => q6 e H' T (s02.trans s')⟩
end
end K46

namespace K46
open PySem PySem.Spec PyProof.Rows L2 Fa
/-! how the numbers follow one told number -/
def put (f : Nat → List Int) (d b : Nat) (x : Int) : Nat → List Int := fun s => if s = d then (f d).set b x else f s
section
variable {f : Nat → List Int} {n w d b : Nat} {x t : Int}
theorem uu_put (bl : b < (f d).length) (et : (f d)[b]? = some t) (p q : Int) (h : p ≤ q → 0 ≤ p) : uu (put f d b x) p q = uu f p q + if p = (d : Int) - (b : Int) ∧ q = (d : Int) then x - t else 0 := by
  unfold uu
  by_cases pq : p ≤ q
  · have p0 := h pq
    rw [if_pos pq, if_pos pq]
    unfold put
    by_cases e : q.toNat = d
    · rw [if_pos e]
      have eq' : q = (d : Int) := by omega
      by_cases e2 : (q - p).toNat = b
      · rw [e2, if_pos ⟨by omega, eq'⟩, List.getD_eq_getElem?_getD, List.getElem?_set_self bl, e, List.getD_eq_getElem?_getD, et]
        show x = t + (x - t)
        omega
      · rw [if_neg (by omega), List.getD_eq_getElem?_getD, List.getElem?_set_ne (fun z => e2 z.symm), e, List.getD_eq_getElem?_getD]
        omega
    · rw [if_neg e, if_neg (by omega)]
      omega
  · rw [if_neg pq, if_neg pq, if_neg (by omega)]
    rfl
/-- how a number follows: 1, -1 or 0 -/
def cf (a d : Int) (k : List Key) : Int := if (rise a d).any (fun q => decide (q = k)) then 1 else if (fall a d).any (fun q => decide (q = k)) then -1 else 0
theorem kB_iff {x y : Str} {a b c d : Int} : (kB x a b = kB y c d) ↔ x = y ∧ a = c ∧ b = d := by
  constructor
  · intro h
    obtain ⟨h1, h2⟩ := List.cons.inj h
    obtain ⟨h2, h3⟩ := List.cons.inj h2
    obtain ⟨h3, _⟩ := List.cons.inj h3
    exact ⟨Sum.inr.inj h1, Sum.inl.inj h2, Sum.inl.inj h3⟩
  · rintro ⟨rfl, rfl, rfl⟩
    rfl
theorem any_rise (a d : Int) (y : Str) (p q : Int) : (rise a d).any (fun k => decide (k = kB y p q)) = decide ((y = "gap" ∧ p = a ∧ q = d + 1) ∨ (y = "gap" ∧ p = a - 1 ∧ q = d) ∨ (y = "away" ∧ p = a ∧ q = d) ∨ (y = "fresh" ∧ p = a ∧ q = d)) := by
  rw [Bool.eq_iff_iff, decide_eq_true_iff]
  simp only [rise, List.any_cons, List.any_nil, Bool.or_false, Bool.or_eq_true, decide_eq_true_iff, kB_iff]
  constructor
  · rintro (⟨h, h2, h3⟩ | ⟨h, h2, h3⟩ | ⟨h, h2, h3⟩ | ⟨h, h2, h3⟩)
    · exact .inl ⟨h.symm, h2.symm, h3.symm⟩
    · exact .inr (.inl ⟨h.symm, h2.symm, h3.symm⟩)
    · exact .inr (.inr (.inl ⟨h.symm, h2.symm, h3.symm⟩))
    · exact .inr (.inr (.inr ⟨h.symm, h2.symm, h3.symm⟩))
  · rintro (⟨h, h2, h3⟩ | ⟨h, h2, h3⟩ | ⟨h, h2, h3⟩ | ⟨h, h2, h3⟩)
    · exact .inl ⟨h.symm, h2.symm, h3.symm⟩
    · exact .inr (.inl ⟨h.symm, h2.symm, h3.symm⟩)
    · exact .inr (.inr (.inl ⟨h.symm, h2.symm, h3.symm⟩))
    · exact .inr (.inr (.inr ⟨h.symm, h2.symm, h3.symm⟩))
theorem any_fall (a d : Int) (y : Str) (p q : Int) : (fall a d).any (fun k => decide (k = kB y p q)) = decide ((y = "gap" ∧ p = a ∧ q = d) ∨ (y = "gap" ∧ p = a - 1 ∧ q = d + 1) ∨ (y = "away" ∧ p = a - 1 ∧ q = d) ∨ (y = "fresh" ∧ p = a ∧ q = d + 1)) := by
  rw [Bool.eq_iff_iff, decide_eq_true_iff]
  simp only [fall, List.any_cons, List.any_nil, Bool.or_false, Bool.or_eq_true, decide_eq_true_iff, kB_iff]
  constructor
  · rintro (⟨h, h2, h3⟩ | ⟨h, h2, h3⟩ | ⟨h, h2, h3⟩ | ⟨h, h2, h3⟩)
    · exact .inl ⟨h.symm, h2.symm, h3.symm⟩
    · exact .inr (.inl ⟨h.symm, h2.symm, h3.symm⟩)
    · exact .inr (.inr (.inl ⟨h.symm, h2.symm, h3.symm⟩))
    · exact .inr (.inr (.inr ⟨h.symm, h2.symm, h3.symm⟩))
  · rintro (⟨h, h2, h3⟩ | ⟨h, h2, h3⟩ | ⟨h, h2, h3⟩ | ⟨h, h2, h3⟩)
    · exact .inl ⟨h.symm, h2.symm, h3.symm⟩
    · exact .inr (.inl ⟨h.symm, h2.symm, h3.symm⟩)
    · exact .inr (.inr (.inl ⟨h.symm, h2.symm, h3.symm⟩))
    · exact .inr (.inr (.inr ⟨h.symm, h2.symm, h3.symm⟩))
theorem cf_val (a d : Int) (y : Str) (p q : Int) : cf a d (kB y p q) = (if (y = "gap" ∧ p = a ∧ q = d + 1) ∨ (y = "gap" ∧ p = a - 1 ∧ q = d) ∨ (y = "away" ∧ p = a ∧ q = d) ∨ (y = "fresh" ∧ p = a ∧ q = d) then 1 else
    if (y = "gap" ∧ p = a ∧ q = d) ∨ (y = "gap" ∧ p = a - 1 ∧ q = d + 1) ∨ (y = "away" ∧ p = a - 1 ∧ q = d) ∨ (y = "fresh" ∧ p = a ∧ q = d + 1) then -1 else 0) := by
  unfold cf
  rw [any_rise, any_fall]
  simp only [decide_eq_true_iff]
theorem cf_gap (a d p q : Int) : cf a d (kB "gap" p q) = if (p = a ∧ q = d + 1) ∨ (p = a - 1 ∧ q = d) then 1 else if (p = a ∧ q = d) ∨ (p = a - 1 ∧ q = d + 1) then -1 else 0 := by
  have e1 : ("gap" : Str) ≠ "away" := by decide +kernel
  have e2 : ("gap" : Str) ≠ "fresh" := by decide +kernel
  rw [cf_val]
  simp [e1, e2]
theorem cf_away (a d p q : Int) : cf a d (kB "away" p q) = if p = a ∧ q = d then 1 else if p = a - 1 ∧ q = d then -1 else 0 := by
  have e1 : ("away" : Str) ≠ "gap" := by decide +kernel
  have e2 : ("away" : Str) ≠ "fresh" := by decide +kernel
  rw [cf_val]
  simp [e1, e2]
theorem cf_fresh (a d p q : Int) : cf a d (kB "fresh" p q) = if p = a ∧ q = d then 1 else if p = a ∧ q = d + 1 then -1 else 0 := by
  have e1 : ("fresh" : Str) ≠ "gap" := by decide +kernel
  have e2 : ("fresh" : Str) ≠ "away" := by decide +kernel
  rw [cf_val]
  simp [e1, e2]
theorem gp_put (bl : b < (f d).length) (et : (f d)[b]? = some t) {p q : Int} (p0 : 0 ≤ p) (pq : p < q) : gp (put f d b x) p q = gp f p q + cf ((d : Int) - (b : Int)) d (kB "gap" p q) * (x - t) := by
  unfold gp
  rw [uu_put bl et p (q - 1) (fun _ => p0), uu_put bl et (p + 1) q (fun _ => by omega), uu_put bl et (p + 1) (q - 1) (fun _ => by omega), uu_put bl et p q (fun _ => p0), cf_gap]
  generalize (d : Int) - (b : Int) = a
  generalize uu f p (q - 1) = u1
  generalize uu f (p + 1) q = u2
  generalize uu f (p + 1) (q - 1) = u3
  generalize uu f p q = u4
  generalize x - t = z
  by_cases c1 : p = a ∧ q - 1 = (d : Int)
  · rw [if_pos c1, if_neg (show ¬ (p + 1 = a ∧ q = (d : Int)) by omega), if_neg (show ¬ (p + 1 = a ∧ q - 1 = (d : Int)) by omega), if_neg (show ¬ (p = a ∧ q = (d : Int)) by omega), if_pos (show (p = a ∧ q = (d : Int) + 1) ∨ (p = a - 1 ∧ q = (d : Int)) by omega)]
    omega
  · rw [if_neg c1]
    by_cases c2 : p + 1 = a ∧ q = (d : Int)
    · rw [if_pos c2, if_neg (show ¬ (p + 1 = a ∧ q - 1 = (d : Int)) by omega), if_neg (show ¬ (p = a ∧ q = (d : Int)) by omega), if_pos (show (p = a ∧ q = (d : Int) + 1) ∨ (p = a - 1 ∧ q = (d : Int)) by omega)]
      omega
    · rw [if_neg c2, if_neg (show ¬ ((p = a ∧ q = (d : Int) + 1) ∨ (p = a - 1 ∧ q = (d : Int))) by omega)]
      by_cases c3 : p + 1 = a ∧ q - 1 = (d : Int)
      · rw [if_pos c3, if_neg (show ¬ (p = a ∧ q = (d : Int)) by omega), if_pos (show (p = a ∧ q = (d : Int)) ∨ (p = a - 1 ∧ q = (d : Int) + 1) by omega)]
        omega
      · rw [if_neg c3]
        by_cases c4 : p = a ∧ q = (d : Int)
        · rw [if_pos c4, if_pos (show (p = a ∧ q = (d : Int)) ∨ (p = a - 1 ∧ q = (d : Int) + 1) by omega)]
          omega
        · rw [if_neg c4, if_neg (show ¬ ((p = a ∧ q = (d : Int)) ∨ (p = a - 1 ∧ q = (d : Int) + 1)) by omega)]
          omega
theorem aw_put (bl : b < (f d).length) (et : (f d)[b]? = some t) {p : Int} (p0 : 0 ≤ p) : aw (put f d b x) n w p = aw f n w p + cf ((d : Int) - (b : Int)) d (kB "away" p (eA n w p)) * (x - t) := by
  unfold aw
  rw [uu_put bl et p (eA n w p) (fun _ => p0), uu_put bl et (p + 1) (eA n w p) (fun _ => by omega), cf_away]
  generalize (d : Int) - (b : Int) = a
  generalize eA n w p = q
  generalize uu f p q = u1
  generalize uu f (p + 1) q = u2
  generalize x - t = z
  by_cases c1 : p = a ∧ q = (d : Int)
  · rw [if_pos c1, if_pos c1, if_neg (show ¬ (p + 1 = a ∧ q = (d : Int)) by omega)]
    omega
  · rw [if_neg c1, if_neg c1]
    by_cases c2 : p + 1 = a ∧ q = (d : Int)
    · rw [if_pos c2, if_pos (show p = a - 1 ∧ q = (d : Int) by omega)]
      omega
    · rw [if_neg c2, if_neg (show ¬ (p = a - 1 ∧ q = (d : Int)) by omega)]
      omega
theorem fr_put (bl : b < (f d).length) (et : (f d)[b]? = some t) {q : Int} (s0 : 0 ≤ sF w q) : fr (put f d b x) w q = fr f w q + cf ((d : Int) - (b : Int)) d (kB "fresh" (sF w q) q) * (x - t) := by
  unfold fr
  rw [uu_put bl et (sF w q) q (fun _ => s0), uu_put bl et (sF w q) (q - 1) (fun _ => s0), cf_fresh]
  generalize (d : Int) - (b : Int) = a
  generalize sF w q = p
  generalize uu f p q = u1
  generalize uu f p (q - 1) = u2
  generalize x - t = z
  by_cases c1 : p = a ∧ q = (d : Int)
  · rw [if_pos c1, if_pos c1, if_neg (show ¬ (p = a ∧ q - 1 = (d : Int)) by omega)]
    omega
  · rw [if_neg c1, if_neg c1]
    by_cases c2 : p = a ∧ q - 1 = (d : Int)
    · rw [if_pos c2, if_pos (show p = a ∧ q = (d : Int) + 1 by omega)]
      omega
    · rw [if_neg c2, if_neg (show ¬ (p = a ∧ q = (d : Int) + 1) by omega)]
      omega
theorem numK_put (bl : b < (f d).length) (et : (f d)[b]? = some t) : numK (put f d b x) n w = (numK f n w).map fun q => (q.1, V.int (numV q.2 + cf ((d : Int) - (b : Int)) d q.1 * (x - t))) := by
  unfold numK
  rw [List.map_append]
  congr 1
  · unfold ngaps
    rw [List.map_map]
    refine List.map_congr_left fun p hp => ?_
    obtain ⟨h1, h2, _⟩ := prAll_mem hp (Nat.le_refl _)
    show (_, V.int _) = (_, V.int _)
    rw [gp_put bl et h1 h2]
    rfl
  · unfold ndays
    rw [List.map_flatMap]
    congr 1
    funext i
    have s0 : 0 ≤ sF w (i : Int) := by
      unfold sF
      split <;> omega
    show [(_, V.int _), (_, V.int _)] = [(_, V.int _), (_, V.int _)]
    rw [aw_put bl et (by omega), fr_put bl et s0]
    rfl
def AllNN (f : Nat → List Int) (n w : Nat) : Prop := ∀ q ∈ numK f n w, 0 ≤ numV q.2
theorem valV_mem {L : NumL} {k : List Key} {v : V} (h : valV L k = some v) : (k, v) ∈ L := by
  unfold valV at h
  cases e : L.find? fun kv => decide (kv.1 = k) with
  | none =>
    rw [e] at h
    cases h
  | some kv =>
    rw [e] at h
    cases h
    have h1 := List.find?_some e
    have h1 : kv.1 = k := of_decide_eq_true h1
    rw [← h1]
    exact List.mem_of_find?_eq_some e
theorem vals_iff (bl : b < (f d).length) (et : (f d)[b]? = some t) : AllNN (put f d b x) n w ↔ badN (numK f n w) ((d : Int) - (b : Int)) d = false ∧ (∀ l ∈ lows (numK f n w) t ((d : Int) - (b : Int)) d, l ≤ x) ∧ ∀ h ∈ highs (numK f n w) t ((d : Int) - (b : Int)) d, x ≤ h := by
  unfold AllNN
  rw [numK_put bl et]
  generalize (d : Int) - (b : Int) = a
  have nd := numK_nd f n w
  generalize numK f n w = L at nd
  constructor
  · intro h
    have h' : ∀ q ∈ L, 0 ≤ numV q.2 + cf a d q.1 * (x - t) := fun q hq => h _ (List.mem_map.mpr ⟨q, hq, rfl⟩)
    refine ⟨?_, fun l hl => ?_, fun l hl => ?_⟩
    · unfold badN
      rw [List.any_eq_false]
      intro q hq z
      obtain ⟨z1, z2⟩ := He.ba z
      obtain ⟨z2, z3⟩ := He.ba z2
      have z1 := of_decide_eq_true z1
      have := h' q hq
      unfold cf at this
      rw [Bool.not_eq_true'] at z2 z3
      rw [z2, z3, if_neg Bool.false_ne_true, if_neg Bool.false_ne_true] at this
      omega
    · obtain ⟨k, hk, e⟩ := List.mem_filterMap.mp hl
      obtain ⟨v, ev, e⟩ := Option.map_eq_some_iff.mp e
      have := h' _ (valV_mem ev)
      have c : (rise a d).any (fun q => decide (q = k)) = true := List.any_eq_true.mpr ⟨k, hk, decide_eq_true rfl⟩
      unfold cf at this
      dsimp only at this
      rw [c, if_pos rfl] at this
      omega
    · obtain ⟨k, hk, e⟩ := List.mem_filterMap.mp hl
      obtain ⟨v, ev, e⟩ := Option.map_eq_some_iff.mp e
      have := h' _ (valV_mem ev)
      have c : (fall a d).any (fun q => decide (q = k)) = true := List.any_eq_true.mpr ⟨k, hk, decide_eq_true rfl⟩
      have c2 : (rise a d).any (fun q => decide (q = k)) = false := by
        simp only [fall, List.mem_cons, List.not_mem_nil, or_false] at hk
        have e1 : ("gap" : Str) ≠ "away" := by decide +kernel
        have e2 : ("gap" : Str) ≠ "fresh" := by decide +kernel
        have e3 : ("away" : Str) ≠ "fresh" := by decide +kernel
        rcases hk with rfl | rfl | rfl | rfl
        all_goals
          rw [any_rise]
          refine decide_eq_false fun z => ?_
          rcases z with ⟨z1, z2, z3⟩ | ⟨z1, z2, z3⟩ | ⟨z1, z2, z3⟩ | ⟨z1, z2, z3⟩
          all_goals first
            | omega
            | exact e1 z1
            | exact e2 z1
            | exact e3 z1
            | exact e1 z1.symm
            | exact e2 z1.symm
            | exact e3 z1.symm
      unfold cf at this
      dsimp only at this
      rw [c, c2, if_neg Bool.false_ne_true, if_pos rfl] at this
      omega
  · rintro ⟨h1, h2, h3⟩ p hp
    obtain ⟨q, hq, rfl⟩ := List.mem_map.mp hp
    show 0 ≤ numV q.2 + cf a d q.1 * (x - t)
    obtain ⟨j, hj⟩ := List.mem_iff_getElem?.mp hq
    have ev : valV L q.1 = some q.2 := valV_at nd hj
    unfold cf
    cases c1 : (rise a d).any fun k => decide (k = q.1) with
    | true =>
      obtain ⟨k, hk, e⟩ := List.any_eq_true.mp c1
      have e := of_decide_eq_true e
      subst e
      have := h2 (t - numV q.2) (List.mem_filterMap.mpr ⟨_, hk, by rw [ev]; rfl⟩)
      rw [if_pos rfl]
      omega
    | false =>
      rw [if_neg Bool.false_ne_true]
      cases c2 : (fall a d).any fun k => decide (k = q.1) with
      | true =>
        obtain ⟨k, hk, e⟩ := List.any_eq_true.mp c2
        have e := of_decide_eq_true e
        subst e
        have := h3 (t + numV q.2) (List.mem_filterMap.mpr ⟨_, hk, by rw [ev]; rfl⟩)
        rw [if_pos rfl]
        omega
      | false =>
        rw [if_neg Bool.false_ne_true]
        unfold badN at h1
        rw [List.any_eq_false] at h1
        have := h1 q hq
        rw [c1, c2] at this
        have n0 : ¬ numV q.2 < 0 := fun z => this (by rw [decide_eq_true z]; rfl)
        omega
end
end K46

namespace K46
open PySem PySem.Spec PyProof.Rows L2 Fa
abbrev s__law_number : Stmt := topS 35
abbrev N__law_number : List Str := ["told", "begin", "end_here"]
theorem sc__law_number : FnScope N__law_number ["told", "begin", "end_here"] (defScope s__law_number) := ⟨rfl, rfl, rfl, by decide +kernel, rfl, by decide +kernel, by decide +kernel⟩
abbrev s__law_gap : Stmt := topS 36
abbrev N__law_gap : List Str := ["told", "a", "b", "found"]
theorem sc__law_gap : FnScope N__law_gap ["told", "a", "b"] (defScope s__law_gap) := ⟨rfl, rfl, rfl, by decide +kernel, rfl, by decide +kernel, by decide +kernel⟩
abbrev s__law_away : Stmt := topS 37
abbrev N__law_away : List Str := ["told", "a", "end_here"]
theorem sc__law_away : FnScope N__law_away ["told", "a"] (defScope s__law_away) := ⟨rfl, rfl, rfl, by decide +kernel, rfl, by decide +kernel, by decide +kernel⟩
abbrev s__law_fresh : Stmt := topS 38
abbrev N__law_fresh : List Str := ["told", "b", "begin"]
theorem sc__law_fresh : FnScope N__law_fresh ["told", "b"] (defScope s__law_fresh) := ⟨rfl, rfl, rfl, by decide +kernel, rfl, by decide +kernel, by decide +kernel⟩
section
variable {P : Program} {w : World} {K : PySem.W.Frag} {mg : Str → Option Value} {base : Heap}
theorem ok_bnum {f : Addr} {fd : FuncData} {k : Nat} (F : Fun K "_law_number" "_law_number" s__law_number f fd) : FnOk P w K mg base CX0 (k + 1) f fd ["told", "begin", "end_here"] spU := by
  refine F.ok sc__law_number (fun vs H Q E h => ?_) (fun cdv A outer s H vs Q E hr h => ?_)
  · obtain ⟨g, _, _, _, _, _, rfl, _⟩ := h
    rfl
  · obtain ⟨g, n, m, f, a, b, rfl, ⟨⟨rows, G⟩, hS⟩, ht, q⟩ := h
    refine ⟨_, (pss_one (ps_ret (pe_ifExp (pt_cmpR op_le (pv 1) (pv 2) (nomark _)) (pe_ix (Fa.ixL K) (pe_ix (Fa.ixL K) (pv 0) (pv 2) (fun _ _ => rfl)) (pe_op op_sub (pv 2) (pv 1)) (fun _ _ => rfl)) pe_int))), ?_⟩
    by_cases ab : a ≤ b
    · obtain ⟨t1, t2, t3⟩ := ht ab
      obtain ⟨r, er, _, hrow⟩ := G.get (s := b.toNat) (by omega)
      have at1 : atI (rows.map V.ref) b = some (.ref r) := atI_int (by omega) (by rw [List.getElem?_map, er]; rfl)
      have at2 : atI ((f b.toNat).map V.int) (b - a) = some (.int (uu f a b)) := atI_int (by omega) (by rw [List.getElem?_map, uu_get hS ab ht]; rfl)
      exact ⟨_, rfl, _, rfl, _, _, rfl, rfl, _, rfl, iteDS ab ⟨_, rfl, _, rfl, g, _, _, _, rfl, rfl, .inl (.inl G.top), at1, _, rfl, _, rfl, _, _, rfl, rfl, r, _, _, _, rfl, rfl, .inl (.inl hrow), at2, q⟩⟩
    · refine ⟨_, rfl, _, rfl, _, _, rfl, rfl, _, rfl, iteDF ab ?_⟩
      unfold uu at q
      rw [if_neg ab] at q
      exact q
theorem ok_bgap {f : Addr} {fd : FuncData} {k : Nat} (F : Fun K "_law_gap" "_law_gap" s__law_gap f fd) {f__law_number : Addr} {d__law_number : FuncData} (F__law_number : Fun K "_law_number" "_law_number" s__law_number f__law_number d__law_number) (G__law_number : FnOk P w K mg base CX0 k f__law_number d__law_number ["told", "begin", "end_here"] spU) (b__law_number : Binds K d__law_number ["told", "begin", "end_here"] []) (g__law_number : mg "_law_number" = some (.ref f__law_number)) : FnOk P w K mg base CX0 (k + 1) f fd ["told", "a", "b"] spGapB := by
  refine F.ok sc__law_gap (fun vs H Q E h => ?_) (fun cdv A outer s H vs Q E hr h => ?_)
  · obtain ⟨g, _, _, _, _, _, rfl, _⟩ := h
    rfl
  · obtain ⟨g, n, m, f, a, b, rfl, hS, h0, h1, h2, h3, q⟩ := h
    refine ⟨_, (pss_cons (ps_set (i := 3) sc__law_gap.nd rfl (by first | exact Or.inl rfl | exact Or.inr rfl) (pe_op op_add (pe_call G__law_number (hr.mono (by omega)) (by rfl) g__law_number F__law_number.kp b__law_number .nil pass0 (pa_cons (pv 0) (pa_cons (pv 1) (pa_cons (pe_op op_sub (pv 2) pe_int) pa_nil)))) (pe_call G__law_number (hr.mono (by omega)) (by rfl) g__law_number F__law_number.kp b__law_number .nil pass0 (pa_cons (pv 0) (pa_cons (pe_op op_add (pv 1) pe_int) (pa_cons (pv 2) pa_nil))))))
  (pss_one (ps_ret (pe_op op_sub (pe_op op_sub (pv 3) (pe_call G__law_number (hr.mono (by omega)) (by rfl) g__law_number F__law_number.kp b__law_number .nil pass0 (pa_cons (pv 0) (pa_cons (pe_op op_add (pv 1) pe_int) (pa_cons (pe_op op_sub (pv 2) pe_int) pa_nil))))) (pe_call G__law_number (hr.mono (by omega)) (by rfl) g__law_number F__law_number.kp b__law_number .nil pass0 (pa_cons (pv 0) (pa_cons (pv 1) (pa_cons (pv 2) pa_nil)))))))), ?_⟩
    refine ⟨_, rfl, _, rfl, _, rfl, _, _, rfl, rfl, g, n, m, f, a, b - 1, rfl, hS, fun _ => ⟨by omega, by omega, by omega⟩, _, rfl, _, rfl, _, _, rfl, rfl, _, rfl, g, n, m, f, a + 1, b, rfl, hS, fun _ => ⟨by omega, by omega, by omega⟩, _, _, rfl, rfl, ?_⟩
    refine ⟨_, rfl, _, rfl, _, rfl, _, _, rfl, rfl, _, rfl, _, _, rfl, rfl, g, n, m, f, a + 1, b - 1, rfl, hS, fun _ => ⟨by omega, by omega, by omega⟩, _, _, rfl, rfl, _, rfl, _, rfl, _, rfl, g, n, m, f, a, b, rfl, hS, fun _ => ⟨by omega, by omega, by omega⟩, _, _, rfl, rfl, q⟩
theorem ok_baway {f : Addr} {fd : FuncData} {k : Nat} (F : Fun K "_law_away" "_law_away" s__law_away f fd) {f__law_number : Addr} {d__law_number : FuncData} (F__law_number : Fun K "_law_number" "_law_number" s__law_number f__law_number d__law_number) (G__law_number : FnOk P w K mg base CX0 k f__law_number d__law_number ["told", "begin", "end_here"] spU) (b__law_number : Binds K d__law_number ["told", "begin", "end_here"] []) (g__law_number : mg "_law_number" = some (.ref f__law_number)) (m_len : mg "len" = none) (m_min : mg "min" = none) : FnOk P w K mg base CX0 (k + 1) f fd ["told", "a"] spAwF := by
  refine F.ok sc__law_away (fun vs H Q E h => ?_) (fun cdv A outer s H vs Q E hr h => ?_)
  · obtain ⟨g, _, _, _, _, rfl, _⟩ := h
    rfl
  · obtain ⟨g, n, m, f, a, rfl, hS, h0, h1, q⟩ := h
    refine ⟨_, (pss_cons (ps_set (i := 2) sc__law_away.nd rfl (by first | exact Or.inl rfl | exact Or.inr rfl) (pe_op op_sub (pe_callB (call_min2 rfl) (by rfl) m_min PyProof.Rows.boot_min (pa_cons (pe_op op_add (pv 1) (pe_callB (Fa.lenQ K) (by rfl) m_len PySem.boot_len (pa_cons (pe_ix (Fa.ixL K) (pv 0) (pe_un un_neg pe_int) (fun _ _ => rfl)) pa_nil))) (pa_cons (pe_callB (Fa.lenQ K) (by rfl) m_len PySem.boot_len (pa_cons (pv 0) pa_nil)) pa_nil))) pe_int))
  (pss_one (ps_ret (pe_op op_sub (pe_call G__law_number (hr.mono (by omega)) (by rfl) g__law_number F__law_number.kp b__law_number .nil pass0 (pa_cons (pv 0) (pa_cons (pv 1) (pa_cons (pv 2) pa_nil)))) (pe_call G__law_number (hr.mono (by omega)) (by rfl) g__law_number F__law_number.kp b__law_number .nil pass0 (pa_cons (pv 0) (pa_cons (pe_op op_add (pv 1) pe_int) (pa_cons (pv 2) pa_nil)))))))), ?_⟩
    obtain ⟨⟨rows, G⟩, hf⟩ := id hS
    have w1 := hf.w1
    obtain ⟨r, ea, er, hr'⟩ := G.last hf.n1
    have e1 : eA n m a < n ∧ eA n m a - a < m := by
      unfold eA
      split <;> omega
    have e2 : (if ((rows.map V.ref).length : Int) < a + (((f (n - 1)).map V.int).length : Int) then ((rows.map V.ref).length : Int) else a + (((f (n - 1)).map V.int).length : Int)) - 1 = eA n m a := by
      rw [List.length_map, List.length_map, G.cnt, hf.last]
      unfold eA
      split <;> split <;> omega
    refine ⟨_, rfl, _, rfl, 1, rfl, g, _, _, _, rfl, rfl, .inl (.inl G.top), ea, r, _, rfl, .inl (.inl (.inl hr')), _, _, rfl, rfl, _, rfl, g, _, rfl, .inl (.inl (.inl G.top)), _, _, rfl, _, _, rfl, rfl, ?_⟩
    show gName 2 (V.int ((if ((rows.map V.ref).length : Int) < a + (((f (n - 1)).map V.int).length : Int) then ((rows.map V.ref).length : Int) else a + (((f (n - 1)).map V.int).length : Int)) - 1)) _ _ _
    rw [e2]
    exact ⟨_, rfl, _, rfl, _, rfl, g, n, m, f, a, eA n m a, rfl, hS, fun _ => ⟨by omega, by omega, by omega⟩, _, rfl, _, rfl, _, _, rfl, rfl, _, rfl, g, n, m, f, a + 1, eA n m a, rfl, hS, fun _ => ⟨by omega, by omega, by omega⟩, _, _, rfl, rfl, q⟩
theorem ok_bfresh {f : Addr} {fd : FuncData} {k : Nat} (F : Fun K "_law_fresh" "_law_fresh" s__law_fresh f fd) {f__law_number : Addr} {d__law_number : FuncData} (F__law_number : Fun K "_law_number" "_law_number" s__law_number f__law_number d__law_number) (G__law_number : FnOk P w K mg base CX0 k f__law_number d__law_number ["told", "begin", "end_here"] spU) (b__law_number : Binds K d__law_number ["told", "begin", "end_here"] []) (g__law_number : mg "_law_number" = some (.ref f__law_number)) (m_len : mg "len" = none) (m_max : mg "max" = none) : FnOk P w K mg base CX0 (k + 1) f fd ["told", "b"] spFrO := by
  refine F.ok sc__law_fresh (fun vs H Q E h => ?_) (fun cdv A outer s H vs Q E hr h => ?_)
  · obtain ⟨g, _, _, _, _, rfl, _⟩ := h
    rfl
  · obtain ⟨g, n, m, f, b, rfl, hS, h0, h1, q⟩ := h
    refine ⟨_, (pss_cons (ps_set (i := 2) sc__law_fresh.nd rfl (by first | exact Or.inl rfl | exact Or.inr rfl) (pe_callB (call_max2 rfl) (by rfl) m_max PyProof.Rows.boot_max (pa_cons pe_int (pa_cons (pe_op op_sub (pe_op op_add (pv 1) pe_int) (pe_callB (Fa.lenQ K) (by rfl) m_len PySem.boot_len (pa_cons (pe_ix (Fa.ixL K) (pv 0) (pe_un un_neg pe_int) (fun _ _ => rfl)) pa_nil))) pa_nil))))
  (pss_one (ps_ret (pe_op op_sub (pe_call G__law_number (hr.mono (by omega)) (by rfl) g__law_number F__law_number.kp b__law_number .nil pass0 (pa_cons (pv 0) (pa_cons (pv 2) (pa_cons (pv 1) pa_nil)))) (pe_call G__law_number (hr.mono (by omega)) (by rfl) g__law_number F__law_number.kp b__law_number .nil pass0 (pa_cons (pv 0) (pa_cons (pv 2) (pa_cons (pe_op op_sub (pv 1) pe_int) pa_nil)))))))), ?_⟩
    obtain ⟨⟨rows, G⟩, hf⟩ := id hS
    have w1 := hf.w1
    obtain ⟨r, ea, er, hr'⟩ := G.last hf.n1
    have e1 : 0 ≤ sF m b ∧ b - sF m b < m ∧ sF m b ≤ b := by
      unfold sF
      split <;> omega
    have e2 : (if b + 1 - (((f (n - 1)).map V.int).length : Int) > 0 then b + 1 - (((f (n - 1)).map V.int).length : Int) else 0) = sF m b := by
      rw [List.length_map, hf.last]
      unfold sF
      split <;> split <;> omega
    refine ⟨_, rfl, _, _, rfl, rfl, _, rfl, 1, rfl, g, _, _, _, rfl, rfl, .inl (.inl G.top), ea, r, _, rfl, .inl (.inl (.inl hr')), _, _, rfl, rfl, 0, _, rfl, ?_⟩
    show gName 2 (V.int (if b + 1 - (((f (n - 1)).map V.int).length : Int) > 0 then b + 1 - (((f (n - 1)).map V.int).length : Int) else 0)) _ _ _
    rw [e2]
    exact ⟨_, rfl, _, rfl, _, rfl, g, n, m, f, sF m b, b, rfl, hS, fun _ => ⟨by omega, by omega, by omega⟩, _, rfl, _, rfl, _, rfl, _, _, rfl, rfl, g, n, m, f, sF m b, b - 1, rfl, hS, fun _ => ⟨by omega, by omega, by omega⟩, _, _, rfl, rfl, q⟩
end
end K46

/-! joins of two dicts of days, as great as can be, so many together; sorted of a dict of days -/
namespace Fa
open PySem PySem.Spec PyProof.Rows L2
theorem ints_at : ∀ {us : List Value} {ks : List Int}, us.length = ks.length → (∀ (j : Nat) (v : Value), us[j]? = some v → ∃ (x : Int) (t : Tok), ks[j]? = some x ∧ v = Value.int x t) → IntsAre us ks
  | [], [], _, _ => .nil
  | u :: us, k :: ks, hl, h => by
    obtain ⟨x, t, e1, e2⟩ := h 0 u rfl
    cases Option.some.inj e1
    subst e2
    exact .cons _ _ (ints_at (Nat.succ.inj hl) fun j v e => h (j + 1) v e)
  | [], _ :: _, hl, _ => by cases hl
  | _ :: _, [], hl, _ => by cases hl
/-- sorted(d) of a dict whose keys are numbers -/
def rSortDK : List V → Hp → VK → Prop := fun xs H Q => ∃ (a : Addr) (kvs : List (Key × V)) (ks : List Int), xs = [.ref a] ∧ Rd H a (.dK kvs) ∧ kvs.map (·.1) = ks.map Sum.inl ∧ ∀ (ns : List Int) (p : Addr), ns.Perm ks → ns.Pairwise (· ≤ ·) → H p = none → Q (.ref p) (upd H p (.lst (ns.map V.int)))
theorem cr_sortDK {X : Cx} (calm : X.calm = true) : CallR X (.builtin "sorted") rSortDK := by
  intro pins s σ H xs us Q I r q
  obtain ⟨a, kvs, ks, rfl, hd, hks, q⟩ := q
  obtain ⟨u, rfl, rx⟩ := vals1 r
  cases rx
  obtain ⟨z, lo, vs, rel, dd⟩ := dk_rd I.hok hd
  obtain ⟨ep, hat⟩ := dd.dictAt
  have keys : vs.map (·.1) = ks.map Sum.inl := rel.keys.symm.trans hks
  have len : vs.length = ks.length := by
    have e := congrArg List.length keys
    rw [List.length_map, List.length_map] at e
    exact e
  have small : vs.length ≤ sizeLine := by
    rw [← rel.length]
    exact z
  refine Calls.call_function_entry PyProof.Rows.kind_sorted PyProof.Rows.plain_sorted PyProof.Rows.entry_sorted (PyProof.Rows.args_sorted1 _) ?_
  unfold Builtin.«sorted»
  refine wpAny_bind (m := checkCount "sorted" 1 1 _) (wpAny_pure ?_)
  refine wpAny_bind (PySem.W.kdu_collect (A := X.A.in1) (PySem.W.kdl_dict (knd := mixKind X.prog X.w) (kvs := vs) (ep := ep) lo) (I.ok.hd calm) hat small fun h' tk acc keep got => ?_)
  have al : acc.toList.length = ks.length := by rw [Array.length_toList, got.1, len]
  have are : IntsAre acc.toList ks := ints_at al fun j v e => by
    obtain ⟨k, x, e1, e2⟩ := got.2 j v (by rw [← Array.getElem?_toList]; exact e)
    have e3 : (vs.map (·.1))[j]? = some k := by
      rw [List.getElem?_map, e1]
      rfl
    rw [keys, List.getElem?_map] at e3
    cases e4 : ks[j]? with
    | none =>
      rw [e4] at e3
      cases e3
    | some y =>
      rw [e4] at e3
      cases (show Sum.inl y = k from Option.some.inj e3)
      rcases keyIs_shape (k := Sum.inl y) (show keyIs (Sum.inl y) v = true from e2) with ⟨i, t, ek, ev⟩ | ⟨z, t, ek, ev⟩
      · cases (show y = i from Sum.inl.inj ek)
        exact ⟨y, t, rfl, ev⟩
      · exact nomatch ek
  have I1 : Inv X pins σ H { s with heap := h', toks := tk } := I.kept keep
  have al2 : acc.toList.length ≤ sizeLine := by
    rw [al, ← len]
    exact small
  refine wpAny_bind (wpAny_newList ?_ al2)
  have hoL : (h'.push (seqObj "list" acc.toList.toArray 0)).get? h'.objs.size = some (seqObj "list" acc.toList.toArray 0) := Heap.get?_push_size _ rfl
  show wpAny _ _ _ _ _ { s with heap := h'.push (seqObj "list" acc.toList.toArray 0), toks := tk }
  refine wpAny_bind (wpAny_holding (wpAny_call_entry PyProof.Rows.slot_list_sort ⟨_, hoL, rfl⟩ PyProof.Rows.entry_list_sort
    (SrtO.list_sort_ord (s := { s with heap := h'.push (seqObj "list" acc.toList.toArray 0), toks := tk }) SrtO.swo_int hoL al2 (fun h2 => SrtO.ints_sortable are h2) fun out h1 h2 => ⟨_, rfl, ?_⟩) (PyProof.Rows.args_list_sort _)))
  obtain ⟨k1, k2, k3⟩ := SrtO.ints_out are h1 h2
  obtain ⟨e', he'⟩ := PyProof.Rows.sortedHeap_at (vs := acc.toList) (out := out.toArray) hoL
  have hlen : ((out.map SrtO.iv).map V.int).length ≤ sizeLine := by
    rw [List.length_map, k2.length_eq, ← al]
    exact al2
  refine wpAny_pure ⟨_, rfl, .ref h'.objs.size, upd H h'.objs.size (.lst ((out.map SrtO.iv).map V.int)), I1.laid (t' := tk) (fun b u e => ?_) (Nat.le_refl _)
    (show ObjOk X.prog X.w _ _ _ (.lst ((out.map SrtO.iv).map V.int)) from ⟨hlen, out, e', vals_of_ints k1, he'⟩), rfl, q _ _ k2 k3 (I1.hok.fresh (Nat.le_refl _))⟩
  have hb : b < h'.objs.size := Heap.lt_size e
  rw [PyProof.Rows.sortedHeap_old (Nat.ne_of_lt hb) (by rw [size_push']; exact Nat.lt_succ_of_lt hb)]
  exact Heap.get?_push_of_some _ e
theorem b_dict : bootBuiltins "dict" = some (.type "dict") := by decide +kernel
/-! ### dicts of the numbers of days a, a + 1 .. -/
def dayL (a : Int) (g : Nat → Int) (m : Nat) : List (Key × V) := (List.range m).map fun i : Nat => (Sum.inl (a + (i : Int)), V.int (g i))
theorem dayL_len (a : Int) (g : Nat → Int) (m : Nat) : (dayL a g m).length = m := by
  unfold dayL
  rw [List.length_map, List.length_range]
theorem dayL_keys (a : Int) (g : Nat → Int) (m : Nat) : (dayL a g m).map (·.1) = ((List.range m).map fun i : Nat => a + (i : Int)).map Sum.inl := by
  unfold dayL
  rw [List.map_map, List.map_map]
  rfl
theorem dayL_succ (a : Int) (g : Nat → Int) (m : Nat) : dayL a g (m + 1) = dayL a g m ++ [(Sum.inl (a + (m : Int)), V.int (g m))] := by
  unfold dayL
  rw [List.range_succ, List.map_append]
  rfl
theorem dayL_ext {a : Int} {g g' : Nat → Int} {m : Nat} (h : ∀ i, i < m → g i = g' i) : dayL a g m = dayL a g' m := List.map_congr_left fun i hi => by rw [h i (List.mem_range.mp hi)]
theorem dayL_val {a : Int} {g : Nat → Int} {i : Nat} : ∀ {m : Nat}, i < m → valV (dayL a g m) (.inl (a + (i : Int))) = some (.int (g i)) := by
  intro m hi
  have nd : ((dayL a g m).map (·.1)).Nodup := by
    rw [dayL_keys, List.map_map]
    refine List.pairwise_map.mpr (List.nodup_range.imp fun {x y} ne z => ne ?_)
    have : a + (x : Int) = a + (y : Int) := Sum.inl.inj z
    omega
  refine valV_at nd (j := i) ?_
  unfold dayL
  rw [List.getElem?_map, List.getElem?_range hi]
  rfl
theorem dayL_grow {a : Int} {g : Nat → Int} {m : Nat} : putK (dayL a g m) (.inl (a + (m : Int))) (.int (g m)) = dayL a g (m + 1) := by
  unfold putK
  rw [if_neg, dayL_succ]
  intro z
  obtain ⟨p, hp, e⟩ := List.any_eq_true.mp z
  obtain ⟨i, hi, rfl⟩ := List.mem_map.mp hp
  have := List.mem_range.mp hi
  have : a + (i : Int) = a + (m : Int) := Sum.inl.inj (of_decide_eq_true e)
  omega
theorem dayL_put {a : Int} {g : Nat → Int} {m i : Nat} (hi : i < m) (z : Int) : putK (dayL a g m) (.inl (a + (i : Int))) (.int z) = dayL a (fun x => if x = i then z else g x) m := by
  unfold putK
  rw [if_pos]
  · unfold dayL
    rw [List.map_map]
    refine List.map_congr_left fun x _ => ?_
    show (if (Sum.inl (a + (x : Int)) : Key) = Sum.inl (a + (i : Int)) then ((Sum.inl (a + (x : Int)) : Key), V.int z) else (Sum.inl (a + (x : Int)), V.int (g x))) = _
    by_cases c : x = i
    · subst c
      rw [if_pos rfl]
      show _ = (_, V.int (if x = x then z else g x))
      rw [if_pos rfl]
    · rw [if_neg (fun y => c (by have := Sum.inl.inj y; omega))]
      show _ = (_, V.int (if x = i then z else g x))
      rw [if_neg c]
  · refine List.any_eq_true.mpr ⟨(.inl (a + (i : Int)), .int (g i)), List.mem_map.mpr ⟨i, List.mem_range.mpr hi, rfl⟩, decide_eq_true rfl⟩
theorem rg_asc (a : Int) (m : Nat) : ((List.range m).map fun i : Nat => a + (i : Int)).Pairwise (· ≤ ·) := by
  refine List.pairwise_map.mpr ((List.pairwise_lt_range (n := m)).imp fun {x y} h => ?_)
  omega
theorem asc_perm : ∀ {l m : List Int}, l.Pairwise (· ≤ ·) → m.Pairwise (· ≤ ·) → l.Perm m → l = m
  | [], m, _, _, h => h.nil_eq
  | x :: l, [], _, _, h => absurd h.length_eq (by simp)
  | x :: l, y :: m, h1, h2, h => by
    obtain ⟨a1, b1⟩ := List.pairwise_cons.mp h1
    obtain ⟨a2, b2⟩ := List.pairwise_cons.mp h2
    have e : x = y := by
      rcases List.mem_cons.mp (h.mem_iff.mp List.mem_cons_self) with e | hx
      · exact e
      · rcases List.mem_cons.mp (h.mem_iff.mpr (List.mem_cons_self (a := y))) with e | hy
        · exact e.symm
        · have := a2 _ hx
          have := a1 _ hy
          omega
    subst e
    rw [asc_perm b1 b2 ((List.perm_cons x).mp h)]
/-! ### the joins -/
/-- numbers away, room on the day, how many may be joined, joins -/
def kstep (a b w : Int) (j i : Nat) (s : JSt) : JSt := if mn2 (s.1 i) s.2.1 > 0 ∧ a + (i : Int) + w ≤ b + (j : Int) then (fun x => if x = i then s.1 i - mn2 (s.1 i) s.2.1 else s.1 x, s.2.1 - mn2 (s.1 i) s.2.1, s.2.2.1 - mn2 (s.1 i) s.2.1, s.2.2.2 ++ [(a + (i : Int), b + (j : Int), mn2 (s.1 i) s.2.1)]) else s
def kin (a b w : Int) (j : Nat) (s : JSt) : Nat → JSt
  | 0 => s
  | i + 1 => kstep a b w j i (kin a b w j s i)
def kout (a b w : Int) (m : Nat) (f : Nat → Int) (A : Nat → Int) (t : Int) : Nat → (Nat → Int) × Int × List Tri
  | 0 => (A, t, [])
  | j + 1 => ((kin a b w j ((kout a b w m f A t j).1, mn2 (f j) (kout a b w m f A t j).2.1, (kout a b w m f A t j).2.1, (kout a b w m f A t j).2.2) m).1,
      (kin a b w j ((kout a b w m f A t j).1, mn2 (f j) (kout a b w m f A t j).2.1, (kout a b w m f A t j).2.1, (kout a b w m f A t j).2.2) m).2.2.1,
      (kin a b w j ((kout a b w m f A t j).1, mn2 (f j) (kout a b w m f A t j).2.1, (kout a b w m f A t j).2.1, (kout a b w m f A t j).2.2) m).2.2.2)
theorem kstep_j (a0 w j i : Nat) (hi : i ≤ j) (s : JSt) : kstep a0 (a0 + w : Nat) w j i (s.1, mn2 s.2.1 s.2.2.1, s.2.2.1, s.2.2.2) = ((jstep a0 w j i s).1, mn2 (jstep a0 w j i s).2.1 (jstep a0 w j i s).2.2.1, (jstep a0 w j i s).2.2.1, (jstep a0 w j i s).2.2.2) := by
  obtain ⟨A, fr, lf, J⟩ := s
  unfold kstep jstep
  dsimp only
  have e : mn2 (A i) (mn2 fr lf) = mn3 (A i) fr lf := by
    unfold mn3 mn2
    by_cases h1 : lf < fr <;> by_cases h2 : fr < A i <;> by_cases h3 : lf < A i <;> simp [h1, h2, h3] <;> (try split) <;> omega
  have c2 : (a0 : Int) + (i : Int) + (w : Int) ≤ ((a0 + w : Nat) : Int) + (j : Int) := by omega
  rw [e]
  by_cases c : mn3 (A i) fr lf > 0
  · rw [if_pos ⟨c, c2⟩, if_pos c]
    dsimp only
    have e1 : mn2 fr lf - mn3 (A i) fr lf = mn2 (fr - mn3 (A i) fr lf) (lf - mn3 (A i) fr lf) := by
      unfold mn2
      split <;> split <;> omega
    have e2 : (a0 : Int) + (i : Int) = ((a0 + i : Nat) : Int) := by omega
    have e3 : ((a0 + w : Nat) : Int) + (j : Int) = ((a0 + w + j : Nat) : Int) := by omega
    rw [e1, e2, e3]
  · rw [if_neg (fun z => c z.1), if_neg c]
theorem kin_j (a0 w j : Nat) (s : JSt) : ∀ i, i ≤ j + 1 → kin a0 (a0 + w : Nat) w j (s.1, mn2 s.2.1 s.2.2.1, s.2.2.1, s.2.2.2) i = ((jin a0 w j s i).1, mn2 (jin a0 w j s i).2.1 (jin a0 w j s i).2.2.1, (jin a0 w j s i).2.2.1, (jin a0 w j s i).2.2.2)
  | 0, _ => rfl
  | i + 1, h => by
    show kstep _ _ _ j i (kin a0 (a0 + w : Nat) w j _ i) = _
    rw [kin_j a0 w j s i (by omega), kstep_j a0 w j i (by omega)]
    rfl
theorem kin_rest (a0 w j : Nat) (s : JSt) : ∀ k, kin a0 (a0 + w : Nat) w j s (j + 1 + k) = kin a0 (a0 + w : Nat) w j s (j + 1)
  | 0 => rfl
  | k + 1 => by
    show kstep _ _ _ j (j + 1 + k) (kin a0 (a0 + w : Nat) w j s (j + 1 + k)) = _
    rw [kin_rest a0 w j s k]
    unfold kstep
    rw [if_neg]
    intro z
    have := z.2
    omega
theorem kout_j (a0 w m : Nat) (f A : Nat → Int) (t : Int) : ∀ j, j ≤ m → kout a0 (a0 + w : Nat) w m f A t j = jout a0 w f A t j
  | 0, _ => rfl
  | j + 1, h => by
    have ih := kout_j a0 w m f A t j (by omega)
    show (_, _, _) = (_, _, _)
    rw [ih]
    obtain ⟨k, rfl⟩ : ∃ k, m = j + 1 + k := ⟨m - (j + 1), by omega⟩
    have e := kin_j a0 w j ((jout a0 w f A t j).1, f j, (jout a0 w f A t j).2.1, (jout a0 w f A t j).2.2) (j + 1) (Nat.le_refl _)
    dsimp only at e
    rw [kin_rest, e]
end Fa

namespace K46
open PySem PySem.Spec PyProof.Rows L2 Fa
abbrev s__law_possible : Stmt := topS 39
abbrev N__law_possible : List Str := ["told", "many", "a", "b"]
theorem sc__law_possible : FnScope N__law_possible ["told"] (defScope s__law_possible) := ⟨rfl, rfl, rfl, by decide +kernel, rfl, by decide +kernel, by decide +kernel⟩
theorem allNN_iff {f : Nat → List Int} {n w : Nat} : AllNN f n w ↔ NN f n w := by
  constructor
  · intro h
    refine ⟨fun a b a0 ab bn bw => ?_, fun a a0 an => ?_, fun b b0 bn => ?_⟩
    · obtain ⟨a, rfl⟩ := Int.eq_ofNat_of_zero_le a0
      obtain ⟨j, rfl⟩ : ∃ j : Nat, b = (a : Int) + 1 + (j : Int) := ⟨(b - (a : Int) - 1).toNat, by omega⟩
      refine h (kB "gap" (a : Int) ((a : Int) + 1 + (j : Int)), .int (gp f a ((a : Int) + 1 + (j : Int)))) (List.mem_append_left _ (List.mem_map.mpr ⟨((a : Int), (a : Int) + 1 + (j : Int)), ?_, rfl⟩))
      exact List.mem_flatMap.mpr ⟨a, List.mem_range.mpr (by omega), List.mem_map.mpr ⟨j, List.mem_range.mpr (by omega), rfl⟩⟩
    · obtain ⟨a, rfl⟩ := Int.eq_ofNat_of_zero_le a0
      exact h (kB "away" a (eA n w a), .int (aw f n w a)) (List.mem_append_right _ (List.mem_flatMap.mpr ⟨a, List.mem_range.mpr (by omega), List.mem_cons_self⟩))
    · obtain ⟨b, rfl⟩ := Int.eq_ofNat_of_zero_le b0
      exact h (kB "fresh" (sF w b) b, .int (fr f w b)) (List.mem_append_right _ (List.mem_flatMap.mpr ⟨b, List.mem_range.mpr (by omega), List.mem_cons_of_mem _ List.mem_cons_self⟩))
  · rintro ⟨h1, h2, h3⟩ q hq
    obtain ⟨x, a, b, z, _, e, hx⟩ := numK_mem (k := q.1) (v := q.2) hq
    rw [e]
    show 0 ≤ z
    rcases hx with ⟨_, a0, ab, bn, bw, rfl⟩ | ⟨_, a0, an, _, rfl⟩ | ⟨_, b0, bn, _, rfl⟩
    · exact h1 a b a0 ab bn bw
    · exact h2 a a0 an
    · exact h3 b b0 bn
section
variable {P : Program} {w : World} {K : PySem.W.Frag} {mg : Str → Option Value} {base : Heap}
def spPos : Sp := fun vs H Q _ => ∃ (g : Addr) (n w : Nat) (f : Nat → List Int), vs = [.ref g] ∧ ShAt H g n w f ∧ (NN f n w → ∀ H', Same H H' → Q (.bl true) H') ∧ (¬ NN f n w → ∀ H', Same H H' → Q (.bl false) H')
theorem ok_pos {f : Addr} {fd : FuncData} {k : Nat} (F : Fun K "_law_possible" "_law_possible" s__law_possible f fd) {f__law_gap : Addr} {d__law_gap : FuncData} (F__law_gap : Fun K "_law_gap" "_law_gap" s__law_gap f__law_gap d__law_gap) (G__law_gap : FnOk P w K mg base CX0 k f__law_gap d__law_gap ["told", "a", "b"] spGapB) (b__law_gap : Binds K d__law_gap ["told", "a", "b"] []) (g__law_gap : mg "_law_gap" = some (.ref f__law_gap)) {f__law_away : Addr} {d__law_away : FuncData} (F__law_away : Fun K "_law_away" "_law_away" s__law_away f__law_away d__law_away) (G__law_away : FnOk P w K mg base CX0 k f__law_away d__law_away ["told", "a"] spAwF) (b__law_away : Binds K d__law_away ["told", "a"] []) (g__law_away : mg "_law_away" = some (.ref f__law_away)) {f__law_fresh : Addr} {d__law_fresh : FuncData} (F__law_fresh : Fun K "_law_fresh" "_law_fresh" s__law_fresh f__law_fresh d__law_fresh) (G__law_fresh : FnOk P w K mg base CX0 k f__law_fresh d__law_fresh ["told", "b"] spFrO) (b__law_fresh : Binds K d__law_fresh ["told", "b"] []) (g__law_fresh : mg "_law_fresh" = some (.ref f__law_fresh)) (m_len : mg "len" = none) (m_range : mg "range" = none) (m_min : mg "min" = none) : FnOk P w K mg base CX0 (k + 1) f fd ["told"] spPos := by
  refine F.ok sc__law_possible (fun vs H Q E h => ?_) (fun cdv A outer s H vs Q E hr h => ?_)
  · obtain ⟨g, _, _, _, rfl, _⟩ := h
    rfl
  · obtain ⟨g, n, m, f, rfl, hS, q1, q2⟩ := h
    refine ⟨_, (pss_cons (ps_set (i := 1) sc__law_possible.nd rfl (by first | exact Or.inl rfl | exact Or.inr rfl) (pe_callB (Fa.lenQ K) (by rfl) m_len PySem.boot_len (pa_cons (pv 0) pa_nil)))
  (pss_cons (ps_for PassesOwn.never rfl (pi_range1 (by rfl) m_range (pa_cons (pv 1) pa_nil)) (pg_name (i := 2) sc__law_possible.nd rfl (by first | exact Or.inl rfl | exact Or.inr rfl)) (pss_cons (ps_if (PW.pt (pw_or (pt_cmpR op_lt (pe_call G__law_away (hr.mono (by omega)) (by rfl) g__law_away F__law_away.kp b__law_away .nil pass0 (pa_cons (pv 0) (pa_cons (pv 2) pa_nil))) pe_int (nomark _)) (pw_or1 (pt_cmpR op_lt (pe_call G__law_fresh (hr.mono (by omega)) (by rfl) g__law_fresh F__law_fresh.kp b__law_fresh .nil pass0 (pa_cons (pv 0) (pa_cons (pv 2) pa_nil))) pe_int (nomark _))))) (pss_one (ps_ret pe_bl)) pss_nil)
  (pss_one (ps_if (pt_cmpR (Fa.neQ K hr.units) (pe_lc (own := [("b", 3)]) (g := (gName 3)) rfl sc__law_possible.nd (pi_range2 (by rfl) m_range (pa_cons (pe_op op_add (pv 2) pe_int) (pa_cons (pe_callB (call_min2 rfl) (by rfl) m_min PyProof.Rows.boot_min (pa_cons (pe_op op_add (pv 2) (pe_callB (Fa.lenQ K) (by rfl) m_len PySem.boot_len (pa_cons (pe_ix (Fa.ixL K) (pv 0) (pe_un un_neg pe_int) (fun _ _ => rfl)) pa_nil))) (pa_cons (pv 1) pa_nil))) pa_nil))) (blkOk_by (N := N__law_possible) (sc := defScope s__law_possible) (by decide +kernel)) (fun _ _ _ _ _ => (pg_name (i := 3) sc__law_possible.nd rfl (by first | exact Or.inl rfl | exact Or.inr rfl))) (fun _ _ _ _ _ => (pts_one (pt_cmpR op_lt (pe_call G__law_gap (hr.mono (by omega)) (by rfl) g__law_gap F__law_gap.kp b__law_gap .nil pass0 (pa_cons (pv 0) (pa_cons (pv 2) (pa_cons (pv 3) pa_nil)))) pe_int (nomark _)))) (fun _ _ _ _ _ => (pv 3))) (pe_lst pa_nil) (nomark _)) (pss_one (ps_ret pe_bl)) pss_nil))))
  (pss_one (ps_ret pe_bl)))), ?_⟩
    have n30 := hS.2.n30
    have w1 := hS.2.w1
    obtain ⟨⟨rows, G⟩, hf⟩ := id hS
    have rl : (rows.map V.ref).length = n := by rw [List.length_map, G.cnt]
    refine ⟨_, rfl, g, _, rfl, .inl (.inl (.inl G.top)), ?_⟩
    rw [rl]
    refine ⟨_, rfl, (n : Int), rfl, by omega, by omega, ?_⟩
    rw [Int.toNat_natCast]
    refine for_range (lo := 0) (fun i σ H' => Same H H' ∧ (∀ a : Nat, a < i → 0 ≤ aw f n m a ∧ 0 ≤ fr f m a ∧ ∀ b : Int, (a : Int) < b → b < n → b - a < m → 0 ≤ gp f a b) ∧ ∃ x2, σ = [some (.ref g), some (.int n), x2, none]) ?_ ?_ ?_
    · exact ⟨Same.refl _, fun a h => absurd h (Nat.not_lt_zero a), none, rfl⟩
    · rintro i σ H1 hi ⟨s1, ok, x2, rfl⟩
      rw [Int.zero_add]
      have hS1 := hS.same s1
      obtain ⟨⟨rows1, G1⟩, hf1⟩ := id hS1
      obtain ⟨r, ea, er, hr'⟩ := G1.last hf1.n1
      have ll : ((f (n - 1)).map V.int).length = m := by rw [List.length_map, hf1.last]
      have cnt : (((if (n : Int) < (i : Int) + (m : Int) then (n : Int) else (i : Int) + (m : Int)) - ((i : Int) + 1)).toNat : Int) = (if (n : Int) < (i : Int) + (m : Int) then (n : Int) else (i : Int) + (m : Int)) - ((i : Int) + 1) := by split <;> omega
      have eb : (0 : Int) ≤ (if (n : Int) < (i : Int) + (m : Int) then (n : Int) else (i : Int) + (m : Int)) ∧ (if (n : Int) < (i : Int) + (m : Int) then (n : Int) else (i : Int) + (m : Int)) ≤ 30 ∧ (if (n : Int) < (i : Int) + (m : Int) then (n : Int) else (i : Int) + (m : Int)) ≤ n ∧ (if (n : Int) < (i : Int) + (m : Int) then (n : Int) else (i : Int) + (m : Int)) ≤ (i : Int) + (m : Int) := by split <;> omega
      refine ⟨_, rfl, _, rfl, g, n, m, f, i, rfl, hS1, by omega, by omega, _, _, rfl, rfl, _, rfl, ite2 (fun e => ?_) (fun e => ?_)⟩
      · exact q2 (fun z => by have := z.a0 (i : Int) (by omega) (by omega); have := of_decide_eq_true e; omega) _ s1
      · have a0 : 0 ≤ aw f n m i := by
          have : ¬ aw f n m i < 0 := fun z => e (decide_eq_true z)
          omega
        refine ⟨_, rfl, _, rfl, g, n, m, f, i, rfl, hS1, by omega, by omega, _, _, rfl, rfl, _, rfl, ite2 (fun e => ?_) (fun e => ?_)⟩
        · exact q2 (fun z => by have := z.f0 (i : Int) (by omega) (by omega); have := of_decide_eq_true e; omega) _ s1
        · have f0 : 0 ≤ fr f m i := by
            have : ¬ fr f m i < 0 := fun z => e (decide_eq_true z)
            omega
          refine ⟨_, rfl, _, _, rfl, rfl, _, rfl, _, rfl, 1, rfl, g, _, _, _, rfl, rfl, .inl (.inl G1.top), ea, r, _, rfl, .inl (.inl (.inl hr')), _, _, rfl, rfl, _, rfl, _, _, rfl, ?_⟩
          rw [ll]
          refine ⟨_, _, rfl, ⟨by omega, by omega, by omega, by omega⟩, fun D nD => ?_⟩
          obtain ⟨c, ec⟩ : ∃ c : Nat, c = ((if (n : Int) < (i : Int) + (m : Int) then (n : Int) else (i : Int) + (m : Int)) - ((i : Int) + 1)).toNat := ⟨_, rfl⟩
          rw [← ec]
          rw [← ec] at cnt
          refine lc_range (lo := (i : Int) + 1) (fun j H' => Same H1 H' ∧ ∃ ds : List Int, H' D = some (.lst (ds.map V.int)) ∧ ds.length ≤ j ∧ (ds = [] ↔ ∀ e : Nat, e < j → 0 ≤ gp f i ((i : Int) + 1 + (e : Int)))) ?_ ?_ ?_
          · exact ⟨same_new nD, [], upd_same, Nat.le_refl _, ⟨fun _ e h => absurd h (Nat.not_lt_zero e), fun _ => rfl⟩⟩
          · rintro j H2 hj ⟨s2, ds, eD, ld, iff⟩
            refine ⟨rfl, _, rfl, _, rfl, _, rfl, g, n, m, f, i, (i : Int) + 1 + (j : Int), rfl, hS1.same s2, by omega, by omega, by omega, by omega, _, _, rfl, rfl, _, rfl, ite2 (fun e => ?_) (fun e => ?_)⟩
            · have neg := of_decide_eq_true e
              refine ⟨_, rfl, ds.map V.int, eD, ?_, fun b o z => ?_, ds ++ [(i : Int) + 1 + (j : Int)], ?_, ?_, ?_⟩
              · rw [List.length_map]
                exact small1000 (by omega)
              · rw [upd_ne (ne_of_none z nD)]
                exact s2 _ _ z
              · rw [upd_same, List.map_append]
                rfl
              · rw [List.length_append, List.length_singleton]
                omega
              · constructor
                · intro z
                  simp at z
                · intro z
                  have := z j (Nat.lt_succ_self j)
                  omega
            · have pos : ¬ gp f i ((i : Int) + 1 + (j : Int)) < 0 := fun z => e (decide_eq_true z)
              refine ⟨s2, ds, eD, by omega, ?_⟩
              rw [iff]
              constructor
              · intro h e2 he2
                by_cases z : e2 = j
                · subst z
                  omega
                · exact h e2 (by omega)
              · exact fun h e2 he2 => h e2 (by omega)
          · rintro H2 ⟨s2, ds, eD, ld, iff⟩
            refine ⟨Nat.zero_le _, fun z nz => ?_⟩
            have s3 := s2.trans (same_new (o := .lst []) nz)
            refine ⟨.list (ds.map PyData.int), .list [], lst_dp (same_new nz _ _ eD), .lst (.inl (.inl upd_same)) .nil, (shp_ints 0 _).shaped (by decide), rfl, _, rfl, ?_⟩
            show ite _ _ _
            generalize upd H2 z (.lst []) = H3 at s3 ⊢
            cases ds with
            | nil =>
              have all := iff.mp rfl
              refine iteN0 rfl ⟨s1.trans s3, fun a ha => ?_, _, rfl⟩
              by_cases z : a = i
              · subst z
                refine ⟨a0, f0, fun b ab bn bw => ?_⟩
                have := all (b - (a : Int) - 1).toNat (by split at cnt <;> omega)
                rwa [show (a : Int) + 1 + (((b - (a : Int) - 1).toNat : Nat) : Int) = b by omega] at this
              · exact ok a (by omega)
            | cons x xs =>
              refine iteN1 rfl (q2 (fun N => ?_) _ (s1.trans s3))
              have : (x :: xs) = [] := iff.mpr fun e he => N.g0 (i : Int) ((i : Int) + 1 + (e : Int)) (by omega) (by omega) (by split at cnt <;> omega) (by split at cnt <;> omega)
              cases this
    · rintro σ H1 ⟨s1, ok, x2, rfl⟩
      refine q1 ⟨fun a b a0 ab bn bw => ?_, fun a a0 an => ?_, fun b b0 bn => ?_⟩ _ s1
      · obtain ⟨a, rfl⟩ := Int.eq_ofNat_of_zero_le a0
        exact (ok a (by omega)).2.2 b ab bn bw
      · obtain ⟨a, rfl⟩ := Int.eq_ofNat_of_zero_le a0
        exact (ok a (by omega)).1
      · obtain ⟨b, rfl⟩ := Int.eq_ofNat_of_zero_le b0
        exact (ok b (by omega)).2.1
end
end K46

namespace K46
open PySem PySem.Spec PyProof.Rows L2 Fa
abbrev s__law_with : Stmt := topS 40
abbrev N__law_with : List Str := ["told", "spot", "ago", "number", "found", "row"]
theorem sc__law_with : FnScope N__law_with ["told", "spot", "ago", "number"] (defScope s__law_with) := ⟨rfl, rfl, rfl, by decide +kernel, rfl, by decide +kernel, by decide +kernel⟩
section
variable {P : Program} {w : World} {K : PySem.W.Frag} {mg : Str → Option Value} {base : Heap}
def spWith : Sp := fun vs H Q _ => ∃ (g : Addr) (n w : Nat) (f : Nat → List Int) (d b : Nat) (x : Int), vs = [.ref g, .int d, .int b, .int x] ∧ ShAt H g n w f ∧ d < n ∧ b < (f d).length ∧ 0 ≤ x ∧
  ∀ H' g' rows', Same H H' → H g' = none → (∀ r ∈ rows', H r = none) → GridAt H' g' rows' n (put f d b x) → Shf n w (put f d b x) → Q (.ref g') H'
theorem put_shf {f : Nat → List Int} {n w d b : Nat} {x : Int} (h : Shf n w f) (dn : d < n) (x0 : 0 ≤ x) : Shf n w (put f d b x) := by
  refine ⟨h.n1, h.n30, h.w1, h.wn, fun s hs => ?_, fun s hs y hy => ?_⟩
  · unfold put
    by_cases e : s = d
    · rw [if_pos e, List.length_set, ← e]
      exact h.len s hs
    · rw [if_neg e]
      exact h.len s hs
  · unfold put at hy
    by_cases e : s = d
    · rw [if_pos e] at hy
      rcases List.mem_or_eq_of_mem_set hy with z | z
      · exact h.nn d dn y z
      · rw [z]
        exact x0
    · rw [if_neg e] at hy
      exact h.nn s hs y hy
theorem ok_with {f : Addr} {fd : FuncData} {k : Nat} (F : Fun K "_law_with" "_law_with" s__law_with f fd) (m_list : mg "list" = none) : FnOk P w K mg base CX0 (k + 1) f fd ["told", "spot", "ago", "number"] spWith := by
  refine F.ok sc__law_with (fun vs H Q E h => ?_) (fun cdv A outer s H vs Q E hr h => ?_)
  · obtain ⟨g, _, _, _, _, _, _, rfl, _⟩ := h
    rfl
  · obtain ⟨g, n, m, f, d, b, x, rfl, hS, dn, bl, x0, q⟩ := h
    refine ⟨_, (pss_cons (ps_setLc (i := 4) (own := [("row", 5)]) (g := (gName 5)) (tt := tYes) rfl sc__law_with.nd rfl rfl (sw_true rfl rfl rfl (by decide +kernel)) (Fa.listQ K (pv 0)) (blkOk_by (N := N__law_with) (sc := defScope s__law_with) (by decide +kernel)) (fun _ _ _ _ _ => (pg_name (i := 5) sc__law_with.nd rfl (by first | exact Or.inl rfl | exact Or.inr rfl))) (fun _ _ _ _ _ => pts_nil) (fun _ _ _ _ _ => (pe_callTy (Fa.lstQ K) (by rfl) m_list PyProof.Rows.boot_list (pa_cons (pv 5) pa_nil))))
  (pss_cons (ps_asg (pv 3) (pg_sub (pe_ix (Fa.ixL K) (pv 4) (pv 1) (fun _ _ => rfl)) (pv 2) set_list))
  (pss_one (ps_ret (pv 4))))), ?_⟩
    have n30 := hS.2.n30
    obtain ⟨⟨rows, G⟩, hf⟩ := id hS
    refine ⟨_, rfl, g, rfl, ⟨_, .inl (.inl G.top)⟩, fun D nD => ?_⟩
    refine lc_it (walk_list (xs := rows.map V.ref)) (fun i H2 => Same H H2 ∧ ∃ rs, GridAt H2 D rs i f ∧ ∀ r ∈ rs, H r = none) ?_ ?_ ?_ ?_
    · exact ⟨same_new nD, [], gridAt_nil upd_same, fun r z => (List.not_mem_nil z).elim⟩
    · rintro i H2 _ ⟨s2, _⟩
      exact .inl (.inl (s2 _ _ G.top))
    · rintro i v _ H2 hi ⟨s2, rs, G2, fr⟩ ⟨rfl, ev⟩
      rw [List.length_map, G.cnt] at hi
      obtain ⟨r, er, hr', hrow⟩ := G.get (s := i) hi
      rw [List.getElem?_map, er] at ev
      cases ev
      refine ⟨rfl, yes_if ⟨_, rfl, r, _, rfl, .inl (.inl (.inl (s2 _ _ hrow))), fun z nz => ?_⟩⟩
      obtain ⟨a1, a2, a3, a4⟩ := grow_step s2 nD G2 nz rfl (by omega)
      refine ⟨_, a1, a2, a3, _, a4, fun q hq => ?_⟩
      rcases List.mem_append.mp hq with z | z
      · exact fr q z
      · rw [List.mem_singleton.mp z]
        exact s2.free nz
    · rintro H2 ⟨s2, rs, G2, fr⟩
      rw [List.length_map, G.cnt] at G2
      obtain ⟨r, er, hr', hrow⟩ := G2.get (s := d) dn
      have at1 : atI (rs.map V.ref) (d : Int) = some (.ref r) := atI_nat (by rw [List.getElem?_map, er]; rfl)
      have nr := fr r hr'
      refine ⟨_, rfl, _, rfl, _, rfl, D, _, _, _, rfl, rfl, .inl (.inl G2.top), at1, _, rfl, r, _, _, b, rfl, rfl, hrow, by rw [List.length_map]; exact ixN_int (by omega) (by omega), ?_⟩
      refine ⟨_, rfl, ?_⟩
      have G3 := G2.put (l := (f d).set b x) er
      rw [← set_mapV] at G3
      refine q _ D rs (fun c o z => ?_) nD fr (G3.ext fun s hs => ?_) (put_shf hf dn x0)
      · rw [upd_ne (ne_of_none z nr)]
        exact s2 _ _ z
      · unfold put
        rfl
end
end K46

namespace K46
open PySem PySem.Spec PyProof.Rows L2 Fa
abbrev s__law_bent : Stmt := topS 41
abbrev N__law_bent : List Str := ["bag", "told", "far", "found", "k", "spot", "ago", "row"]
theorem sc__law_bent : FnScope N__law_bent ["bag", "told", "far"] (defScope s__law_bent) := ⟨rfl, rfl, rfl, by decide +kernel, rfl, by decide +kernel, by decide +kernel⟩
section
variable {P : Program} {w : World} {K : PySem.W.Frag} {mg : Str → Option Value} {base : Heap}
def spBent : Sp := fun vs H Q _ => ∃ (p qq g : Addr) (rows : List Addr) (n w : Nat) (f : Nat → List Int) (C far : Int), vs = [.ref p, .ref g, .int far] ∧ BagAt H p qq ∧ GridAt H g rows n f ∧ Shf n w f ∧ g ≠ p ∧ p ∉ rows ∧ 0 ≤ C ∧ (∀ s, s < n → ∀ x ∈ f s, x ≤ C) ∧ 0 ≤ far ∧ far ≤ 10000000000000000000000000000000 ∧
  ∀ H' g' rows' f', Kp p H H' → H g' = none → (∀ r ∈ rows', H r = none) → GridAt H' g' rows' n f' → Shf n w f' → (∀ s, s < n → ∀ x ∈ f' s, x ≤ C + 2 * far) → BagAt H' p qq → Q (.ref g') H'
theorem ok_bent {f : Addr} {fd : FuncData} {k : Nat} (F : Fun K "_law_bent" "_law_bent" s__law_bent f fd) {f__law_draw : Addr} {d__law_draw : FuncData} (F__law_draw : Fun K "_law_draw" "_law_draw" s__law_draw f__law_draw d__law_draw) (G__law_draw : FnOk P w K mg base CX0 k f__law_draw d__law_draw ["bag", "wide"] spDraw) (b__law_draw : Binds K d__law_draw ["bag", "wide"] []) (g__law_draw : mg "_law_draw" = some (.ref f__law_draw)) (m_list : mg "list" = none) (m_range : mg "range" = none) (m_len : mg "len" = none) (m_max : mg "max" = none) : FnOk P w K mg base CX0 (k + 1) f fd ["bag", "told", "far"] spBent := by
  refine F.ok sc__law_bent (fun vs H Q E h => ?_) (fun cdv A outer s H vs Q E hr h => ?_)
  · obtain ⟨p, _, g, _, _, _, _, _, _, rfl, _⟩ := h
    rfl
  · obtain ⟨p, qq, g, rows, n, m, f, C, far, rfl, hB, G, hf, gp', rp, C0, fC, far0, far1, q⟩ := h
    refine ⟨_, (pss_cons (ps_setLc (i := 3) (own := [("row", 7)]) (g := (gName 7)) (tt := tYes) rfl sc__law_bent.nd rfl rfl (sw_true rfl rfl rfl (by decide +kernel)) (Fa.listQ K (pv 1)) (blkOk_by (N := N__law_bent) (sc := defScope s__law_bent) (by decide +kernel)) (fun _ _ _ _ _ => (pg_name (i := 7) sc__law_bent.nd rfl (by first | exact Or.inl rfl | exact Or.inr rfl))) (fun _ _ _ _ _ => pts_nil) (fun _ _ _ _ _ => (pe_callTy (Fa.lstQ K) (by rfl) m_list PyProof.Rows.boot_list (pa_cons (pv 7) pa_nil))))
  (pss_cons (ps_for PassesOwn.never rfl (pi_range1 (by rfl) m_range (pa_cons (pe_ix (Fa.ixL K) (pe_lst (pa_cons pe_int (pa_cons pe_int (pa_cons pe_int (pa_cons pe_int pa_nil))))) (pe_call G__law_draw (hr.mono (by omega)) (by rfl) g__law_draw F__law_draw.kp b__law_draw .nil pass0 (pa_cons (pv 0) (pa_cons pe_int pa_nil))) (fun _ _ => rfl)) pa_nil)) (pg_name (i := 4) sc__law_bent.nd rfl (by first | exact Or.inl rfl | exact Or.inr rfl)) (pss_cons (ps_set (i := 5) sc__law_bent.nd rfl (by first | exact Or.inl rfl | exact Or.inr rfl) (pe_call G__law_draw (hr.mono (by omega)) (by rfl) g__law_draw F__law_draw.kp b__law_draw .nil pass0 (pa_cons (pv 0) (pa_cons (pe_callB (Fa.lenQ K) (by rfl) m_len PySem.boot_len (pa_cons (pv 1) pa_nil)) pa_nil))))
  (pss_cons (ps_set (i := 6) sc__law_bent.nd rfl (by first | exact Or.inl rfl | exact Or.inr rfl) (pe_call G__law_draw (hr.mono (by omega)) (by rfl) g__law_draw F__law_draw.kp b__law_draw .nil pass0 (pa_cons (pv 0) (pa_cons (pe_callB (Fa.lenQ K) (by rfl) m_len PySem.boot_len (pa_cons (pe_ix (Fa.ixL K) (pv 1) (pv 5) (fun _ _ => rfl)) pa_nil)) pa_nil))))
  (pss_one (ps_asg (pe_callB (call_max2 rfl) (by rfl) m_max PyProof.Rows.boot_max (pa_cons pe_int (pa_cons (pe_op op_sub (pe_op op_add (pe_ix (Fa.ixL K) (pe_ix (Fa.ixL K) (pv 3) (pv 5) (fun _ _ => rfl)) (pv 6) (fun _ _ => rfl)) (pe_call G__law_draw (hr.mono (by omega)) (by rfl) g__law_draw F__law_draw.kp b__law_draw .nil pass0 (pa_cons (pv 0) (pa_cons (pe_op op_add (pe_op op_mul pe_int (pv 2)) pe_int) pa_nil)))) (pv 2)) pa_nil))) (pg_sub (pe_ix (Fa.ixL K) (pv 3) (pv 5) (fun _ _ => rfl)) (pv 6) set_list))))))
  (pss_one (ps_ret (pv 3))))), ?_⟩
    have n30 := hf.n30
    have n1 := hf.n1
    refine ⟨_, rfl, g, rfl, ⟨_, .inl (.inl G.top)⟩, fun D nD => ?_⟩
    refine lc_it (walk_list (xs := rows.map V.ref)) (fun i H2 => Same H H2 ∧ ∃ rs, GridAt H2 D rs i f ∧ ∀ r ∈ rs, H r = none) ?_ ?_ ?_ ?_
    · exact ⟨same_new nD, [], gridAt_nil upd_same, fun r z => (List.not_mem_nil z).elim⟩
    · rintro i H2 _ ⟨s2, _⟩
      exact .inl (.inl (s2 _ _ G.top))
    · rintro i v _ H2 hi ⟨s2, rs, G2, fr⟩ ⟨rfl, ev⟩
      rw [List.length_map, G.cnt] at hi
      obtain ⟨r, er, hr', hrow⟩ := G.get (s := i) hi
      rw [List.getElem?_map, er] at ev
      cases ev
      refine ⟨rfl, yes_if ⟨_, rfl, r, _, rfl, .inl (.inl (.inl (s2 _ _ hrow))), fun z nz => ?_⟩⟩
      obtain ⟨a1, a2, a3, a4⟩ := grow_step s2 nD G2 nz rfl (by omega)
      refine ⟨_, a1, a2, a3, _, a4, fun q hq => ?_⟩
      rcases List.mem_append.mp hq with z | z
      · exact fr q z
      · rw [List.mem_singleton.mp z]
        exact s2.free nz
    · rintro H2 ⟨s2, rs, G2, fr⟩
      rw [List.length_map, G.cnt] at G2
      have hB2 := hB.same s2
      have Dp := (hB.ne nD).1
      have rsp : p ∉ rs := fun z => (hB.ne (fr p z)).1 rfl
      refine ⟨by show 4 ≤ sizeLine; decide, fun l nl => ?_⟩
      have lp := hB2.ne nl
      refine ⟨_, rfl, p, qq, 4, rfl, hB2.far lp, by decide, lt3000 (by decide), fun H3 r b3 hB3 r0 r1 => ?_⟩
      obtain ⟨N, eA, N2⟩ : ∃ N : Nat, atI [V.int 0, V.int 1, V.int 1, V.int 2] r = some (V.int N) ∧ N ≤ 2 := by
        have e : r = 0 ∨ r = 1 ∨ r = 2 ∨ r = 3 := by omega
        rcases e with rfl | rfl | rfl | rfl
        · exact ⟨0, rfl, by decide⟩
        · exact ⟨1, rfl, by decide⟩
        · exact ⟨1, rfl, by decide⟩
        · exact ⟨2, rfl, by decide⟩
      refine ⟨l, _, _, _, rfl, rfl, .inl (.inl ((b3 l lp.1).trans upd_same)), eA, _, rfl, by omega, by omega, ?_⟩
      rw [Int.toNat_natCast]
      have k3 : Kp p H H3 := ((kp_same s2).trans (kp_new nl)).trans b3.kp
      have G3 : GridAt H3 D rs n f := G2.kp ((kp_new nl).trans b3.kp) Dp rsp
      refine for_range (lo := 0) (fun i σ H' => Kp p H H' ∧ BagAt H' p qq ∧ (∃ f', GridAt H' D rs n f' ∧ Shf n m f' ∧ ∀ s, s < n → ∀ x ∈ f' s, x ≤ C + (i : Int) * far) ∧ ∃ x4 x5 x6, σ = [some (.ref p), some (.ref g), some (.int far), some (.ref D), x4, x5, x6, none]) ?_ ?_ ?_
      · exact ⟨k3, hB3, ⟨f, G3, hf, fun s hs x hx => by have := fC s hs x hx; show x ≤ C + 0 * far; omega⟩, none, none, none, rfl⟩
      · rintro i σ H4 hi ⟨k4, hB4, ⟨f4, G4, hf4, fC4⟩, x4, x5, x6, rfl⟩
        have Gt4 := G.kp k4 gp' rp
        have rl : (rows.map V.ref).length = n := by rw [List.length_map, G.cnt]
        refine ⟨_, rfl, _, rfl, g, _, rfl, .inl (.inl (.inl Gt4.top)), p, qq, _, rfl, hB4, by rw [rl]; omega, lt3000 (by rw [rl]; omega), fun H5 sp b5 hB5 sp0 sp1 => ?_⟩
        rw [rl] at sp1
        obtain ⟨d, rfl⟩ := Int.eq_ofNat_of_zero_le sp0
        have Gt5 := G.kp (k4.trans b5.kp) gp' rp
        obtain ⟨r, er, hr', hrow⟩ := Gt5.get (s := d) (by omega)
        have at1 : atI (rows.map V.ref) (d : Int) = some (.ref r) := atI_nat (by rw [List.getElem?_map, er]; rfl)
        have ln := hf.len d (by omega)
        have w1 := hf.w1
        refine ⟨_, rfl, _, rfl, _, rfl, g, _, _, _, rfl, rfl, .inl (.inl Gt5.top), at1, r, _, rfl, .inl (.inl (.inl hrow)), p, qq, _, rfl, hB5, by rw [List.length_map]; omega, lt3000 (by rw [List.length_map]; omega), fun H6 ag b6 hB6 ag0 ag1 => ?_⟩
        rw [List.length_map] at ag1
        obtain ⟨b, rfl⟩ := Int.eq_ofNat_of_zero_le ag0
        have G6 := G4.kp (b5.kp.trans b6.kp) Dp rsp
        have ln4 := hf4.len d (by omega)
        obtain ⟨r2, er2, hr2, hrow2⟩ := G6.get (s := d) (by omega)
        have at2 : atI (rs.map V.ref) (d : Int) = some (.ref r2) := atI_nat (by rw [List.getElem?_map, er2]; rfl)
        have bl : b < (f4 d).length := by omega
        obtain ⟨u, eu⟩ : ∃ u, (f4 d)[b]? = some u := ⟨_, List.getElem?_eq_getElem bl⟩
        have at3 : atI ((f4 d).map V.int) (b : Int) = some (.int u) := atI_nat (by rw [List.getElem?_map, eu]; rfl)
        have uC := fC4 d (by omega) u (List.mem_of_getElem? eu)
        have u0 := hf4.nn d (by omega) u (List.mem_of_getElem? eu)
        refine ⟨_, rfl, _, rfl, D, _, _, _, rfl, rfl, .inl (.inl G6.top), at2, _, rfl, r2, _, _, _, rfl, rfl, .inl (.inl hrow2), at3, ?_⟩
        refine ⟨_, rfl, _, rfl, _, _, rfl, rfl, .inl ⟨by decide, by decide⟩, _, _, rfl, rfl, p, qq, _, rfl, hB6, by omega, lt3000 (by omega), fun H7 v b7 hB7 v0 v1 => ⟨_, _, rfl, rfl, _, rfl, _, _, rfl, rfl, 0, _, rfl, ?_⟩⟩
        have G7 := G6.kp b7.kp Dp rsp
        obtain ⟨r3, er3, hr3, hrow3⟩ := G7.get (s := d) (by omega)
        have at4 : atI (rs.map V.ref) (d : Int) = some (.ref r3) := atI_nat (by rw [List.getElem?_map, er3]; rfl)
        have nr3 := fr r3 hr3
        refine ⟨_, rfl, _, rfl, D, _, _, _, rfl, rfl, .inl (.inl G7.top), at4, _, rfl, r3, _, _, b, rfl, rfl, hrow3, by rw [List.length_map]; exact ixN_int (by omega) (by omega), ?_⟩
        have r3p : r3 ≠ p := fun z => rsp (by rw [← z]; exact hr3)
        have nq : r3 ≠ qq := (hB.ne nr3).2
        have x0 : 0 ≤ (if u + v - far > 0 then u + v - far else 0) := by split <;> omega
        have xb : (if u + v - far > 0 then u + v - far else 0) ≤ C + ((i : Int) + 1) * far := by
          rw [Int.add_mul]
          split <;> omega
        generalize (if u + v - far > 0 then u + v - far else 0) = xx at x0 xb ⊢
        refine ⟨((k4.trans b5.kp).trans b6.kp |>.trans b7.kp).mut nr3, hB7.far ⟨r3p, nq⟩, ⟨put f4 d b xx, ?_, put_shf hf4 (by omega) x0, fun s hs y hy => ?_⟩, _, _, _, rfl⟩
        · have G8 := G7.put (l := (f4 d).set b xx) er3
          rw [← set_mapV] at G8
          exact G8
        · have e1 : ((i + 1 : Nat) : Int) = (i : Int) + 1 := by omega
          rw [e1]
          unfold put at hy
          by_cases e : s = d
          · rw [if_pos e] at hy
            rcases List.mem_or_eq_of_mem_set hy with z | z
            · have := fC4 d (by omega) y z
              rw [Int.add_mul]
              omega
            · rw [z]
              exact xb
          · rw [if_neg e] at hy
            have := fC4 s hs y hy
            rw [Int.add_mul]
            omega
      · rintro σ H4 ⟨k4, hB4, ⟨f4, G4, hf4, fC4⟩, x4, x5, x6, rfl⟩
        refine ⟨_, rfl, q _ D rs f4 k4 nD fr G4 hf4 (fun s hs x hx => ?_) hB4⟩
        have := fC4 s hs x hx
        have : (N : Int) * far ≤ 2 * far := Int.mul_le_mul_of_nonneg_right (by omega) far0
        omega
end
end K46

namespace K46
open PySem PySem.Spec PyProof.Rows L2 Fa
section
variable {f : Nat → List Int} {n w d b : Nat} {t C : Int}
/-- a told number, or 0 -/
theorem uu_bd (hf : Shf n w f) (C0 : 0 ≤ C) (fC : ∀ s, s < n → ∀ x ∈ f s, x ≤ C) {a c : Int} (h : Told n w a c) : 0 ≤ uu f a c ∧ uu f a c ≤ C := by
  by_cases ac : a ≤ c
  · obtain ⟨h1, h2, h3⟩ := h ac
    have e := uu_get hf ac h
    have m := List.mem_of_getElem? e
    exact ⟨hf.nn c.toNat (by omega) _ m, fC c.toNat (by omega) _ m⟩
  · unfold uu
    rw [if_neg ac]
    exact ⟨Int.le_refl _, C0⟩
theorem num_bd (hf : Shf n w f) (C0 : 0 ≤ C) (fC : ∀ s, s < n → ∀ x ∈ f s, x ≤ C) {q : List Key × V} (hq : q ∈ numK f n w) : -(2 * C) ≤ numV q.2 ∧ numV q.2 ≤ 2 * C := by
  obtain ⟨x, a, c, z, _, e, hx⟩ := numK_mem (k := q.1) (v := q.2) hq
  rw [e]
  show -(2 * C) ≤ z ∧ z ≤ 2 * C
  have w1 := hf.w1
  rcases hx with ⟨_, a0, ac, cn, cw, rfl⟩ | ⟨_, a0, an, _, rfl⟩ | ⟨_, c0, cn, _, rfl⟩
  · have u1 := uu_bd hf C0 fC (a := a) (c := c - 1) fun _ => ⟨by omega, by omega, by omega⟩
    have u2 := uu_bd hf C0 fC (a := a + 1) (c := c) fun _ => ⟨by omega, by omega, by omega⟩
    have u3 := uu_bd hf C0 fC (a := a + 1) (c := c - 1) fun _ => ⟨by omega, by omega, by omega⟩
    have u4 := uu_bd hf C0 fC (a := a) (c := c) fun _ => ⟨by omega, by omega, by omega⟩
    unfold gp
    omega
  · have e1 : eA n w a < n ∧ eA n w a - a < w := by
      unfold eA
      split <;> omega
    have u1 := uu_bd hf C0 fC (a := a) (c := eA n w a) fun _ => ⟨by omega, by omega, by omega⟩
    have u2 := uu_bd hf C0 fC (a := a + 1) (c := eA n w a) fun _ => ⟨by omega, by omega, by omega⟩
    unfold aw
    omega
  · have e1 : 0 ≤ sF w c ∧ c - sF w c < w := by
      unfold sF
      split <;> omega
    have u1 := uu_bd hf C0 fC (a := sF w c) (c := c) fun _ => ⟨by omega, by omega, by omega⟩
    have u2 := uu_bd hf C0 fC (a := sF w c) (c := c - 1) fun _ => ⟨by omega, by omega, by omega⟩
    unfold fr
    omega
theorem lows_bd (hf : Shf n w f) (C0 : 0 ≤ C) (fC : ∀ s, s < n → ∀ x ∈ f s, x ≤ C) (t1 : t ≤ C) {a e : Int} : ∀ l ∈ lows (numK f n w) t a e, l ≤ 3 * C := fun l hl => by
  obtain ⟨k, hk, e1⟩ := List.mem_filterMap.mp hl
  obtain ⟨v, ev, e1⟩ := Option.map_eq_some_iff.mp e1
  have := num_bd hf C0 fC (valV_mem ev)
  dsimp only at this
  omega
theorem highs_bd (hf : Shf n w f) (C0 : 0 ≤ C) (fC : ∀ s, s < n → ∀ x ∈ f s, x ≤ C) (t1 : t ≤ C) {a e : Int} : ∀ l ∈ highs (numK f n w) t a e, l ≤ 3 * C := fun l hl => by
  obtain ⟨k, hk, e1⟩ := List.mem_filterMap.mp hl
  obtain ⟨v, ev, e1⟩ := Option.map_eq_some_iff.mp e1
  have := num_bd hf C0 fC (valV_mem ev)
  dsimp only at this
  omega
theorem gap_in {a c : Nat} (ac : a < c) (cn : c < n) (cw : c < a + w) : (kB "gap" (a : Int) (c : Int), V.int (gp f a c)) ∈ numK f n w := by
  refine List.mem_append_left _ (List.mem_map.mpr ⟨((a : Int), (c : Int)), ?_, rfl⟩)
  refine List.mem_flatMap.mpr ⟨a, List.mem_range.mpr (by omega), List.mem_map.mpr ⟨c - a - 1, List.mem_range.mpr (by omega), ?_⟩⟩
  show ((a : Int), (a : Int) + 1 + ((c - a - 1 : Nat) : Int)) = _
  rw [show (a : Int) + 1 + ((c - a - 1 : Nat) : Int) = (c : Int) by omega]
theorem away_in {a : Nat} (an : a < n) : (kB "away" (a : Int) (eA n w a), V.int (aw f n w a)) ∈ numK f n w := List.mem_append_right _ (List.mem_flatMap.mpr ⟨a, List.mem_range.mpr an, List.mem_cons_self⟩)
theorem fresh_in {c : Nat} (cn : c < n) : (kB "fresh" (sF w c) (c : Int), V.int (fr f w c)) ∈ numK f n w := List.mem_append_right _ (List.mem_flatMap.mpr ⟨c, List.mem_range.mpr cn, List.mem_cons_of_mem _ List.mem_cons_self⟩)
/-- at width 2 or more each number has a greatest value -/
theorem highs_some (hf : Shf n w f) (dn : d < n) (bl : b < (f d).length) (w2 : 2 ≤ w) : highs (numK f n w) t ((d : Int) - (b : Int)) d ≠ [] := by
  have nd := numK_nd f n w
  have wn := hf.wn
  have ln := hf.len d dn
  have key : ∀ (k : List Key) (v : V), k ∈ fall ((d : Int) - (b : Int)) d → (k, v) ∈ numK f n w → highs (numK f n w) t ((d : Int) - (b : Int)) d ≠ [] := fun k v hk hv z => by
    obtain ⟨j, hj⟩ := List.mem_iff_getElem?.mp hv
    have ev := valV_at nd hj
    have : t + numV v ∈ highs (numK f n w) t ((d : Int) - (b : Int)) d := List.mem_filterMap.mpr ⟨k, hk, by rw [ev]; rfl⟩
    rw [z] at this
    cases this
  by_cases b0 : b = 0
  · subst b0
    rw [show (d : Int) - ((0 : Nat) : Int) = (d : Int) by omega] at key ⊢
    by_cases d0 : d = 0
    · subst d0
      have e : sF w ((1 : Nat) : Int) = 0 := by
        unfold sF
        rw [if_neg (by omega)]
      have := fresh_in (f := f) (n := n) (w := w) (c := 1) (by omega)
      rw [e] at this
      exact key _ _ (by show _ ∈ [_, _, _, _]; exact List.mem_cons_of_mem _ (List.mem_cons_of_mem _ (List.mem_cons_of_mem _ List.mem_cons_self))) this
    · by_cases c : d + 1 < n ∧ 3 ≤ w
      · have := gap_in (f := f) (n := n) (w := w) (a := d - 1) (c := d + 1) (by omega) (by omega) (by omega)
        rw [show ((d - 1 : Nat) : Int) = (d : Int) - 1 by omega, show ((d + 1 : Nat) : Int) = (d : Int) + 1 by omega] at this
        exact key _ _ (by show _ ∈ [_, _, _, _]; exact List.mem_cons_of_mem _ List.mem_cons_self) this
      · have e : eA n w ((d - 1 : Nat) : Int) = (d : Int) := by
          unfold eA
          split <;> omega
        have := away_in (f := f) (n := n) (w := w) (a := d - 1) (by omega)
        rw [e, show ((d - 1 : Nat) : Int) = (d : Int) - 1 by omega] at this
        exact key _ _ (by show _ ∈ [_, _, _, _]; exact List.mem_cons_of_mem _ (List.mem_cons_of_mem _ List.mem_cons_self)) this
  · have := gap_in (f := f) (n := n) (w := w) (a := d - b) (c := d) (by omega) dn (by omega)
    rw [show ((d - b : Nat) : Int) = (d : Int) - (b : Int) by omega] at this
    exact key _ _ (by show _ ∈ [_, _, _, _]; exact List.mem_cons_self) this
end
end K46

namespace K46
open PySem PySem.Spec PyProof.Rows L2 Fa
abbrev s__law_alike : Stmt := topS 31
abbrev N__law_alike : List Str := ["found", "due", "k"]
theorem sc__law_alike : FnScope N__law_alike ["found", "due"] (defScope s__law_alike) := ⟨rfl, rfl, rfl, by decide +kernel, rfl, by decide +kernel, by decide +kernel⟩
theorem ixQ (K : PySem.W.Frag) {X : Cx} (h : X.K = K := by rfl) : IxR X (rIx K) := h ▸ ix_seq
def Sc (v : V) : Prop := (∃ n, v = .int n) ∨ (∃ x, v = .str x) ∨ (∃ b, v = .bl b) ∨ v = .non
/-- alike values: scalars, lists, tuples -/
def Al : Nat → Hp → V → V → Prop
  | 0, _, x, y => x = y ∧ Sc x
  | d + 1, H, x, y => (x = y ∧ Sc x) ∨ ∃ (a b : Addr) (xs ys : List V) (l : Bool), x = .ref a ∧ y = .ref b ∧ H a = some (if l then .lst xs else .tup xs) ∧ H b = some (if l then .lst ys else .tup ys) ∧ xs.length = ys.length ∧ ys.length ≤ 900 ∧ ∀ (i : Nat) (u v : V), xs[i]? = some u → ys[i]? = some v → Al d H u v
theorem Al.same {H H' : Hp} (s : Same H H') : ∀ {d : Nat} {x y : V}, Al d H x y → Al d H' x y
  | 0, _, _, h => h
  | d + 1, x, y, h => by
    rcases h with h | ⟨a, b, xs, ys, l, h1, h2, h3, h4, h5, h6, h7⟩
    · exact .inl h
    · exact .inr ⟨a, b, xs, ys, l, h1, h2, s _ _ h3, s _ _ h4, h5, h6, fun i u v e1 e2 => (h7 i u v e1 e2).same s⟩
theorem Al.int {H : Hp} (n : Int) : ∀ d : Nat, Al d H (.int n) (.int n)
  | 0 => ⟨rfl, .inl ⟨n, rfl⟩⟩
  | _ + 1 => .inl ⟨rfl, .inl ⟨n, rfl⟩⟩
theorem Al.ints {H : Hp} {a b : Addr} {l : List Int} (d : Nat) (ha : H a = some (.lst (l.map V.int))) (hb : H b = some (.lst (l.map V.int))) (h : l.length ≤ 900) : Al (d + 1) H (.ref a) (.ref b) :=
  .inr ⟨a, b, _, _, true, rfl, rfl, ha, hb, rfl, by rw [List.length_map]; exact h, fun i u v e1 e2 => by
    rw [e1] at e2
    cases e2
    obtain ⟨n, _, rfl⟩ := int_at e1
    exact .int n d⟩
section
variable {P : Program} {w : World} {K : PySem.W.Frag} {mg : Str → Option Value} {base : Heap}
theorem kit_lt {t : String} (h1 : kitB t "list" = some false) (h2 : kitB t "tuple" = some false) : PySem.W.kitAny K (.type t) [.type "list", .type "tuple"] = some false :=
  kitAny_cons (kit_ty h1) (fun _ => kitAny_cons (kit_ty h2) (fun _ => kitAny_nil) (fun z => nomatch z)) (fun z => nomatch z)
theorem kit_lT {t : String} (h1 : kitB t "list" = some false) (h2 : kitB t "tuple" = some true) : PySem.W.kitAny K (.type t) [.type "list", .type "tuple"] = some true :=
  kitAny_cons (b := false) (kit_ty h1) (fun _ => kitAny_cons (b := true) (kit_ty h2) (fun z => nomatch z) (fun _ => rfl)) (fun z => nomatch z)
theorem kit_l : PySem.W.kitAny K (.type "list") [.type "list", .type "tuple"] = some true :=
  kitAny_cons (b := true) (kit_ty (by decide +kernel)) (fun z => Bool.noConfusion z) (fun _ => rfl)
def spAl (d : Nat) : Sp := fun vs H Q _ => ∃ x y, vs = [x, y] ∧ Al d H x y ∧ ∀ H', Same H H' → Q (.bl true) H'
def spNo : Sp := fun _ _ _ _ => False
theorem ok_no {f : Addr} {fd : FuncData} {ps : List Str} {k : Nat} : FnOk P w K mg base CX0 k f fd ps spNo := ⟨fun _ _ _ _ h => h.elim, fun _ _ _ _ _ _ _ _ _ _ _ _ _ h => h.elim⟩
theorem ok_al1 {d : Nat} {sp : Sp} {f : Addr} {fd : FuncData} {k : Nat} (F : Fun K "_law_alike" "_law_alike" s__law_alike f fd) (G__law_alike : FnOk P w K mg base CX0 k f fd ["found", "due"] sp) (g__law_alike : mg "_law_alike" = some (.ref f)) (b__law_alike : Binds K fd ["found", "due"] [])
    (hsp : ∀ e, d = e + 1 → sp = spAl e) (m_isinstance : mg "isinstance" = none) (m_list : mg "list" = none) (m_tuple : mg "tuple" = none) (m_len : mg "len" = none) (m_range : mg "range" = none) (m_all : mg "all" = none) (m_bool : mg "bool" = none) (m_int : mg "int" = none) (m_str : mg "str" = none) : FnOk P w K mg base CX0 (k + 1) f fd ["found", "due"] (spAl d) := by
  have F__law_alike := F
  have b_list := PyProof.Rows.boot_list
  have b_tuple := PyProof.Rows.boot_tuple
  have b_bool : bootBuiltins "bool" = some (.type "bool") := by decide +kernel
  have b_int := PyProof.Rows.boot_int
  have b_str := PyProof.Rows.boot_str
  refine F.ok sc__law_alike (fun vs H Q E h => ?_) (fun cdv A outer s H vs Q E hr h => ?_)
  · obtain ⟨x, y, rfl, _⟩ := h
    rfl
  · obtain ⟨x, y, rfl, hxy, q⟩ := h
    refine ⟨_, (pss_cons (ps_if (pt_val (pe_callB (Fa.isiTQ K) (by rfl) m_isinstance PyProof.Rows.boot_isinstance (pa_cons (pv 1) (pa_cons (pe_tup (pa_cons (pe_bltn (v := .ty "list") rfl m_list b_list rfl) (pa_cons (pe_bltn (v := .ty "tuple") rfl m_tuple b_tuple rfl) pa_nil))) pa_nil)))) (pss_cons (ps_if (PW.pt (pw_or (pt_not (pt_val (pe_callB (Fa.isiTQ K) (by rfl) m_isinstance PyProof.Rows.boot_isinstance (pa_cons (pv 0) (pa_cons (pe_tup (pa_cons (pe_bltn (v := .ty "list") rfl m_list b_list rfl) (pa_cons (pe_bltn (v := .ty "tuple") rfl m_tuple b_tuple rfl) pa_nil))) pa_nil))))) (pw_or1 (pt_cmpR op_ne (pe_callB (Fa.isiQ K) (by rfl) m_isinstance PyProof.Rows.boot_isinstance (pa_cons (pv 0) (pa_cons (pe_bltn (v := .ty "list") rfl m_list b_list rfl) pa_nil))) (pe_callB (Fa.isiQ K) (by rfl) m_isinstance PyProof.Rows.boot_isinstance (pa_cons (pv 1) (pa_cons (pe_bltn (v := .ty "list") rfl m_list b_list rfl) pa_nil))) (nomark _))))) (pss_one (ps_ret pe_bl)) pss_nil)
  (pss_cons (ps_if (pt_cmpR op_ne (pe_callB (Fa.lenQ K) (by rfl) m_len PySem.boot_len (pa_cons (pv 0) pa_nil)) (pe_callB (Fa.lenQ K) (by rfl) m_len PySem.boot_len (pa_cons (pv 1) pa_nil)) (nomark _)) (pss_one (ps_ret pe_bl)) pss_nil)
  (pss_one (ps_ret (pe_callB (Fa.allQ K rfl) (by rfl) m_all PyProof.Rows.boot_all (pa_cons (pe_lc (own := [("k", 2)]) (g := (gName 2)) (tt := tYes) rfl sc__law_alike.nd (pi_range1 (by rfl) m_range (pa_cons (pe_callB (Fa.lenQ K) (by rfl) m_len PySem.boot_len (pa_cons (pv 1) pa_nil)) pa_nil)) (blkOk_by (N := N__law_alike) (sc := defScope s__law_alike) (by decide +kernel)) (fun _ _ _ _ _ => (pg_name (i := 2) sc__law_alike.nd rfl (by first | exact Or.inl rfl | exact Or.inr rfl))) (fun _ _ _ _ _ => pts_nil) (fun _ _ _ _ _ => (pe_call G__law_alike (hr.mono (by omega)) (by rfl) g__law_alike F__law_alike.kp b__law_alike .nil pass0 (pa_cons (pe_ix (ixQ K) (pv 0) (pv 2) (fun _ _ => rfl)) (pa_cons (pe_ix (ixQ K) (pv 1) (pv 2) (fun _ _ => rfl)) pa_nil))))) pa_nil)))))) pss_nil)
  (pss_cons (ps_if (PW.pt (pw_or (pt_cmpR op_ne (pe_callB (Fa.isiQ K) (by rfl) m_isinstance PyProof.Rows.boot_isinstance (pa_cons (pv 0) (pa_cons (pe_bltn (v := .ty "bool") rfl m_bool b_bool rfl) pa_nil))) (pe_callB (Fa.isiQ K) (by rfl) m_isinstance PyProof.Rows.boot_isinstance (pa_cons (pv 1) (pa_cons (pe_bltn (v := .ty "bool") rfl m_bool b_bool rfl) pa_nil))) (nomark _)) (pw_or1 (pt_cmpR op_ne (pe_callB (Fa.isiQ K) (by rfl) m_isinstance PyProof.Rows.boot_isinstance (pa_cons (pv 0) (pa_cons (pe_bltn (v := .ty "int") rfl m_int b_int rfl) pa_nil))) (pe_callB (Fa.isiQ K) (by rfl) m_isinstance PyProof.Rows.boot_isinstance (pa_cons (pv 1) (pa_cons (pe_bltn (v := .ty "int") rfl m_int b_int rfl) pa_nil))) (nomark _))))) (pss_one (ps_ret pe_bl)) pss_nil)
  (pss_one (ps_ret (pe_and (pe_cmpR op_eq (pe_callB (Fa.isiQ K) (by rfl) m_isinstance PyProof.Rows.boot_isinstance (pa_cons (pv 0) (pa_cons (pe_bltn (v := .ty "str") rfl m_str b_str rfl) pa_nil))) (pe_callB (Fa.isiQ K) (by rfl) m_isinstance PyProof.Rows.boot_isinstance (pa_cons (pv 1) (pa_cons (pe_bltn (v := .ty "str") rfl m_str b_str rfl) pa_nil))) (nomark _)) (pe_one (pe_cmpR op_eq (pv 0) (pv 1) (nomark _)))))))), ?_⟩
    have cases' : (x = y ∧ Sc x) ∨ ∃ (e : Nat) (a b : Addr) (xs ys : List V) (l : Bool), d = e + 1 ∧ x = .ref a ∧ y = .ref b ∧ H a = some (if l then .lst xs else .tup xs) ∧ H b = some (if l then .lst ys else .tup ys) ∧ xs.length = ys.length ∧ ys.length ≤ 900 ∧ ∀ (i : Nat) (u v : V), xs[i]? = some u → ys[i]? = some v → Al e H u v := by
      cases d with
      | zero => exact .inl hxy
      | succ e =>
        rcases hxy with h | ⟨a, b, xs, ys, l, h⟩
        · exact .inl h
        · exact .inr ⟨e, a, b, xs, ys, l, rfl, h⟩
    rcases cases' with ⟨rfl, hv⟩ | ⟨e, a, b, xs, ys, l, ed, rfl, rfl, ha, hb, len, len9, each⟩
    · obtain ⟨t, k1, k2, b3, k3, b4, k4, b5, k5, sc, tys⟩ : ∃ t : String, kitB t "list" = some false ∧ kitB t "tuple" = some false ∧ ∃ b3, kitB t "bool" = some b3 ∧ ∃ b4, kitB t "int" = some b4 ∧ ∃ b5, kitB t "str" = some b5 ∧ scal x x = true ∧ (∀ H', Same H H' → TyX K H' x (.type t)) := by
        rcases hv with ⟨n, rfl⟩ | ⟨x, rfl⟩ | ⟨b, rfl⟩ | rfl
        · exact ⟨"int", by decide +kernel, by decide +kernel, false, by decide +kernel, true, by decide +kernel, false, by decide +kernel, rfl, fun _ _ => .base (.int n)⟩
        · exact ⟨"str", by decide +kernel, by decide +kernel, false, by decide +kernel, false, by decide +kernel, true, by decide +kernel, rfl, fun _ _ => .base (.str x)⟩
        · exact ⟨"bool", by decide +kernel, by decide +kernel, true, by decide +kernel, true, by decide +kernel, false, by decide +kernel, rfl, fun _ _ => .base (.bl b)⟩
        · exact ⟨"NoneType", by decide +kernel, by decide +kernel, false, by decide +kernel, false, by decide +kernel, false, by decide +kernel, rfl, fun _ _ => .base .non⟩
      refine ⟨_, rfl, by show 2 ≤ sizeLine; decide, fun tp ntp => ⟨x, tp, _, _, _, _, rfl, upd_same, .cons (.ty _) (.cons (.ty _) .nil), tys _ (same_new ntp), kit_lt k1 k2, _, rfl, iteF ?_⟩⟩
      have sm : Same H (upd H tp (.tup [.ty "list", .ty "tuple"])) := same_new ntp
      generalize upd H tp _ = H1 at sm ⊢
      have ty1 := tys _ sm
      refine ⟨_, rfl, _, _, _, _, _, rfl, .ty _, ty1, kit_ty k3, _, rfl, _, _, _, _, _, rfl, .ty _, ty1, kit_ty k3, rfl, _, rfl, iteNS rfl ?_⟩
      refine ⟨_, rfl, _, _, _, _, _, rfl, .ty _, ty1, kit_ty k4, _, rfl, _, _, _, _, _, rfl, .ty _, ty1, kit_ty k4, rfl, _, rfl, iteNS rfl ?_⟩
      refine ⟨_, rfl, _, _, _, _, _, rfl, .ty _, ty1, kit_ty k5, _, rfl, _, _, _, _, _, rfl, .ty _, ty1, kit_ty k5, rfl, _, rfl, iteDS rfl ?_⟩
      refine ⟨_, rfl, _, rfl, sc, ?_⟩
      rw [show decide (x = x) = true from decide_eq_true rfl]
      exact q _ sm
    · obtain rfl := hsp e ed
      cases l with
      | true =>
        have ha : H a = some (.lst xs) := ha
        have hb : H b = some (.lst ys) := hb
        refine ⟨_, rfl, by show 2 ≤ sizeLine; decide, fun tp ntp => ⟨_, tp, _, _, _, _, rfl, upd_same, .cons (.ty _) (.cons (.ty _) .nil), .base (.lst (same_new ntp _ _ hb)), kit_l, _, rfl, iteT ?_⟩⟩
        have sm : Same H (upd H tp (.tup [.ty "list", .ty "tuple"])) := same_new ntp
        generalize upd H tp _ = H1 at sm ⊢
        refine ⟨_, rfl, by show 2 ≤ sizeLine; decide, fun t2 nt2 => ⟨_, t2, _, _, _, _, rfl, upd_same, .cons (.ty _) (.cons (.ty _) .nil), .base (.lst (same_new nt2 _ _ (sm _ _ ha))), kit_l, _, rfl, iteF ?_⟩⟩
        have sm2 : Same H (upd H1 t2 (.tup [.ty "list", .ty "tuple"])) := sm.trans (same_new nt2)
        generalize upd H1 t2 _ = H2 at sm2 ⊢
        have ha2 := sm2 _ _ ha
        have hb2 := sm2 _ _ hb
        refine ⟨_, rfl, _, _, _, _, _, rfl, .ty _, .base (.lst ha2), kit_ty (b := "list") (r := true) (by decide +kernel), _, rfl, _, _, _, _, _, rfl, .ty _, .base (.lst hb2), kit_ty (b := "list") (r := true) (by decide +kernel), rfl, _, rfl, iteNS rfl ?_⟩
        refine ⟨_, rfl, _, _, rfl, .inl (.inl (.inl ha2)), _, rfl, _, _, rfl, .inl (.inl (.inl hb2)), rfl, _, rfl, ?_⟩
        rw [len]
        refine iteNS rfl ?_
        refine ⟨_, rfl, _, _, rfl, .inl (.inl (.inl hb2)), _, rfl, by omega, by omega, fun D nD => ?_⟩
        refine lc_range (lo := 0) (fun i H3 => Same H2 H3 ∧ H3 D = some (.lst ((List.replicate i true).map V.bl))) ?_ ?_ ?_
        · exact ⟨same_new nD, upd_same⟩
        · rintro i H3 hi ⟨s3, hD⟩
          have hi' : i < ys.length := by omega
          have hi2 : i < xs.length := by omega
          refine ⟨rfl, yes_if ?_⟩
          have ei : atI xs (0 + (i : Int)) = some xs[i] := by
            rw [Int.zero_add]
            exact atI_nat (List.getElem?_eq_getElem hi2)
          have ej : atI ys (0 + (i : Int)) = some ys[i] := by
            rw [Int.zero_add]
            exact atI_nat (List.getElem?_eq_getElem hi')
          have al := each i _ _ (List.getElem?_eq_getElem hi2) (List.getElem?_eq_getElem hi')
          refine ⟨_, rfl, _, rfl, .inl ⟨_, _, _, _, rfl, rfl, .inl (.inl (s3 _ _ ha2)), ei, _, rfl, _, rfl, .inl ⟨_, _, _, _, rfl, rfl, .inl (.inl (s3 _ _ hb2)), ej, ?_⟩⟩⟩
          refine ⟨_, _, rfl, (al.same sm2).same s3, fun H4 s4 => ⟨_, s4 _ _ hD, ?_, ?_, ?_⟩⟩
          · rw [List.length_map, List.length_replicate]
            exact small1000 (by omega)
          · intro c o e
            rw [upd_ne (ne_of_none e nD)]
            exact s4 _ _ (s3 _ _ e)
          · rw [upd_same, List.replicate_succ', List.map_append]
            rfl
        · rintro H3 ⟨s3, hD⟩
          refine ⟨_, _, rfl, .inl (.inl hD), ?_⟩
          have := q _ (sm2.trans s3)
          have fin : ∀ b, b = true → Q (.bl b) H3 := fun b e => by
            rw [e]
            exact this
          exact fin _ (by
            rw [List.all_replicate]
            split <;> rfl)
      | false =>
        have ha : H a = some (.tup xs) := ha
        have hb : H b = some (.tup ys) := hb
        refine ⟨_, rfl, by show 2 ≤ sizeLine; decide, fun tp ntp => ⟨_, tp, _, _, _, _, rfl, upd_same, .cons (.ty _) (.cons (.ty _) .nil), .base (.tup (same_new ntp _ _ hb)), kit_lT (by decide +kernel) (by decide +kernel), _, rfl, iteT ?_⟩⟩
        have sm : Same H (upd H tp (.tup [.ty "list", .ty "tuple"])) := same_new ntp
        generalize upd H tp _ = H1 at sm ⊢
        refine ⟨_, rfl, by show 2 ≤ sizeLine; decide, fun t2 nt2 => ⟨_, t2, _, _, _, _, rfl, upd_same, .cons (.ty _) (.cons (.ty _) .nil), .base (.tup (same_new nt2 _ _ (sm _ _ ha))), kit_lT (by decide +kernel) (by decide +kernel), _, rfl, iteF ?_⟩⟩
        have sm2 : Same H (upd H1 t2 (.tup [.ty "list", .ty "tuple"])) := sm.trans (same_new nt2)
        generalize upd H1 t2 _ = H2 at sm2 ⊢
        have ha2 := sm2 _ _ ha
        have hb2 := sm2 _ _ hb
        refine ⟨_, rfl, _, _, _, _, _, rfl, .ty _, .base (.tup ha2), kit_ty (b := "list") (r := false) (by decide +kernel), _, rfl, _, _, _, _, _, rfl, .ty _, .base (.tup hb2), kit_ty (b := "list") (r := false) (by decide +kernel), rfl, _, rfl, iteNS rfl ?_⟩
        refine ⟨_, rfl, _, _, rfl, .inr (.inl (.inl ha2)), _, rfl, _, _, rfl, .inr (.inl (.inl hb2)), rfl, _, rfl, ?_⟩
        rw [len]
        refine iteNS rfl ?_
        refine ⟨_, rfl, _, _, rfl, .inr (.inl (.inl hb2)), _, rfl, by omega, by omega, fun D nD => ?_⟩
        refine lc_range (lo := 0) (fun i H3 => Same H2 H3 ∧ H3 D = some (.lst ((List.replicate i true).map V.bl))) ?_ ?_ ?_
        · exact ⟨same_new nD, upd_same⟩
        · rintro i H3 hi ⟨s3, hD⟩
          have hi' : i < ys.length := by omega
          have hi2 : i < xs.length := by omega
          refine ⟨rfl, yes_if ?_⟩
          have ei : atI xs (0 + (i : Int)) = some xs[i] := by
            rw [Int.zero_add]
            exact atI_nat (List.getElem?_eq_getElem hi2)
          have ej : atI ys (0 + (i : Int)) = some ys[i] := by
            rw [Int.zero_add]
            exact atI_nat (List.getElem?_eq_getElem hi')
          have al := each i _ _ (List.getElem?_eq_getElem hi2) (List.getElem?_eq_getElem hi')
          refine ⟨_, rfl, _, rfl, .inr (.inl ⟨_, _, _, _, rfl, rfl, .inl (.inl (s3 _ _ ha2)), ei, _, rfl, _, rfl, .inr (.inl ⟨_, _, _, _, rfl, rfl, .inl (.inl (s3 _ _ hb2)), ej, ?_⟩)⟩)⟩
          refine ⟨_, _, rfl, (al.same sm2).same s3, fun H4 s4 => ⟨_, s4 _ _ hD, ?_, ?_, ?_⟩⟩
          · rw [List.length_map, List.length_replicate]
            exact small1000 (by omega)
          · intro c o e
            rw [upd_ne (ne_of_none e nD)]
            exact s4 _ _ (s3 _ _ e)
          · rw [upd_same, List.replicate_succ', List.map_append]
            rfl
        · rintro H3 ⟨s3, hD⟩
          refine ⟨_, _, rfl, .inl (.inl hD), ?_⟩
          have := q _ (sm2.trans s3)
          have fin : ∀ b, b = true → Q (.bl b) H3 := fun b e => by
            rw [e]
            exact this
          exact fin _ (by
            rw [List.all_replicate]
            split <;> rfl)
theorem ok_alike {f : Addr} {fd : FuncData} {k : Nat} (F : Fun K "_law_alike" "_law_alike" s__law_alike f fd) (g__law_alike : mg "_law_alike" = some (.ref f)) (b__law_alike : Binds K fd ["found", "due"] []) (m_isinstance : mg "isinstance" = none) (m_list : mg "list" = none) (m_tuple : mg "tuple" = none) (m_len : mg "len" = none) (m_range : mg "range" = none) (m_all : mg "all" = none) (m_bool : mg "bool" = none) (m_int : mg "int" = none) (m_str : mg "str" = none) : ∀ d : Nat, FnOk P w K mg base CX0 (k + d + 1) f fd ["found", "due"] (spAl d)
  | 0 => ok_al1 (k := k) (sp := spNo) F ok_no g__law_alike b__law_alike (fun e z => by omega) m_isinstance m_list m_tuple m_len m_range m_all m_bool m_int m_str
  | d + 1 => ok_al1 (k := k + d + 1) F (ok_alike F g__law_alike b__law_alike m_isinstance m_list m_tuple m_len m_range m_all m_bool m_int m_str d) g__law_alike b__law_alike (fun e z => by rw [show d = e by omega]) m_isinstance m_list m_tuple m_len m_range m_all m_bool m_int m_str
end
end K46

namespace K46
open PySem PySem.Spec PyProof.Rows L2 Fa
/-- the values of a number: none; all from m on; all from m to l -/
abbrev Rg := Option (Int × Option Int)
def rng (o : Rg) (x : Int) : Prop := ∃ m h, o = some (m, h) ∧ m ≤ x ∧ ∀ l, h = some l → x ≤ l
def Nrm (o : Rg) : Prop := ∀ m h, o = some (m, h) → 0 ≤ m ∧ ∀ l, h = some l → m ≤ l
theorem rng_some {m x : Int} {h : Option Int} : rng (some (m, h)) x ↔ m ≤ x ∧ ∀ l, h = some l → x ≤ l := by
  constructor
  · rintro ⟨m', h', e, h1, h2⟩
    cases e
    exact ⟨h1, h2⟩
  · rintro ⟨h1, h2⟩
    exact ⟨m, h, rfl, h1, h2⟩
theorem rng_none {x : Int} : ¬ rng none x := by
  rintro ⟨_, _, e, _⟩
  cases e
theorem nrm_low {m : Int} {h : Option Int} (n : Nrm (some (m, h))) : rng (some (m, h)) ((m.toNat : Nat) : Int) := by
  obtain ⟨n1, n2⟩ := n m h rfl
  rw [Int.toNat_of_nonneg n1]
  exact rng_some.mpr ⟨Int.le_refl _, n2⟩
theorem rng_ext {o o' : Rg} (n : Nrm o) (n' : Nrm o') (h : ∀ k : Nat, rng o k ↔ rng o' k) : o = o' := by
  rcases o with _ | ⟨m, u⟩
  · rcases o' with _ | ⟨m', u'⟩
    · rfl
    · exact absurd ((h _).mpr (nrm_low n')) rng_none
  · rcases o' with _ | ⟨m', u'⟩
    · exact absurd ((h _).mp (nrm_low n)) rng_none
    · obtain ⟨a1, a2⟩ := n m u rfl
      obtain ⟨b1, b2⟩ := n' m' u' rfl
      have h1 := (rng_some.mp ((h _).mp (nrm_low n))).1
      have h2 := (rng_some.mp ((h _).mpr (nrm_low n'))).1
      have e : m = m' := by omega
      subst e
      congr 2
      rcases u with _ | l
      · rcases u' with _ | l'
        · rfl
        · have l0 := b2 l' rfl
          have := (rng_some.mp ((h (l' + 1).toNat).mp (rng_some.mpr ⟨by omega, fun _ z => nomatch z⟩))).2 l' rfl
          omega
      · have l0 := a2 l rfl
        rcases u' with _ | l'
        · have := (rng_some.mp ((h (l + 1).toNat).mpr (rng_some.mpr ⟨by omega, fun _ z => nomatch z⟩))).2 l rfl
          omega
        · have l1 := b2 l' rfl
          have h3 := (rng_some.mp ((h l.toNat).mp (rng_some.mpr ⟨by omega, fun x z => by cases z; omega⟩))).2 l' rfl
          have h4 := (rng_some.mp ((h l'.toNat).mpr (rng_some.mpr ⟨by omega, fun x z => by cases z; omega⟩))).2 l rfl
          congr 1
          omega
def oV : Option Int → V
  | none => .non
  | some l => .int l
/-- a value that tells them -/
def OV (H : Hp) (v : V) (o : Rg) : Prop := (o = none ∧ v = .non) ∨ ∃ T m h, o = some (m, h) ∧ v = .ref T ∧ H T = some (.tup [.int m, oV h])
theorem OV.same {H H' : Hp} {v : V} {o : Rg} (h : OV H v o) (s : Same H H') : OV H' v o := by
  rcases h with h | ⟨T, m, u, e1, e2, e3⟩
  · exact .inl h
  · exact .inr ⟨T, m, u, e1, e2, s _ _ e3⟩
theorem OV.al {H : Hp} {v v' : V} {o : Rg} (h : OV H v o) (h' : OV H v' o) (d : Nat) : Al (d + 1) H v v' := by
  rcases h with ⟨e, rfl⟩ | ⟨T, m, u, e1, rfl, e3⟩
  · rcases h' with ⟨_, rfl⟩ | ⟨T', m', u', e1', rfl, e3'⟩
    · exact .inl ⟨rfl, .inr (.inr (.inr rfl))⟩
    · rw [e] at e1'
      cases e1'
  · rcases h' with ⟨e, _⟩ | ⟨T', m', u', e1', rfl, e3'⟩
    · rw [e] at e1
      cases e1
    · rw [e1] at e1'
      cases e1'
      refine .inr ⟨T, T', _, _, false, rfl, rfl, e3, e3', rfl, by show 2 ≤ 900; decide, fun i x y ex ey => ?_⟩
      rcases i with _ | _ | i
      · cases ex
        cases ey
        exact .int _ d
      · cases ex
        cases ey
        rcases u with _ | l
        · cases d with
          | zero => exact ⟨rfl, .inr (.inr (.inr rfl))⟩
          | succ d => exact .inl ⟨rfl, .inr (.inr (.inr rfl))⟩
        · exact .int _ d
      · cases ex
theorem max_ex : ∀ l : List Int, l ≠ [] → ∃ m, m ∈ l ∧ ∀ x ∈ l, x ≤ m
  | [x], _ => ⟨x, List.mem_cons_self, fun y hy => by rw [List.mem_singleton.mp hy]; exact Int.le_refl _⟩
  | x :: y :: r, _ => by
    obtain ⟨m, h1, h2⟩ := max_ex (y :: r) (List.cons_ne_nil _ _)
    by_cases c : x ≤ m
    · exact ⟨m, List.mem_cons_of_mem _ h1, fun z hz => by
        rcases List.mem_cons.mp hz with rfl | hz
        · exact c
        · exact h2 z hz⟩
    · exact ⟨x, List.mem_cons_self, fun z hz => by
        rcases List.mem_cons.mp hz with rfl | hz
        · exact Int.le_refl _
        · have := h2 z hz
          omega⟩
theorem min_ex : ∀ l : List Int, l ≠ [] → ∃ m, m ∈ l ∧ ∀ x ∈ l, m ≤ x
  | [x], _ => ⟨x, List.mem_cons_self, fun y hy => by rw [List.mem_singleton.mp hy]; exact Int.le_refl _⟩
  | x :: y :: r, _ => by
    obtain ⟨m, h1, h2⟩ := min_ex (y :: r) (List.cons_ne_nil _ _)
    by_cases c : m ≤ x
    · exact ⟨m, List.mem_cons_of_mem _ h1, fun z hz => by
        rcases List.mem_cons.mp hz with rfl | hz
        · exact c
        · exact h2 z hz⟩
    · exact ⟨x, List.mem_cons_self, fun z hz => by
        rcases List.mem_cons.mp hz with rfl | hz
        · exact Int.le_refl _
        · have := h2 z hz
          omega⟩
section
variable {f : Nat → List Int} {n w d b : Nat} {t : Int}
/-- value_range's value -/
structure VRis (f : Nat → List Int) (n w d b : Nat) (t : Int) (o : Rg) : Prop where
  nrm : Nrm o
  iff : ∀ x : Int, 0 ≤ x → (rng o x ↔ NN (put f d b x) n w)
  bd : ∀ C : Int, 0 ≤ C → (∀ l ∈ lows (numK f n w) t ((d : Int) - (b : Int)) d, l ≤ C) → (∀ l ∈ highs (numK f n w) t ((d : Int) - (b : Int)) d, l ≤ C) → ∀ m h, o = some (m, h) → m ≤ C ∧ ∀ l, h = some l → l ≤ C
  up : ∀ m, o = some (m, none) → highs (numK f n w) t ((d : Int) - (b : Int)) d = []
  sp : ∀ (H : Hp) (Q : VK), (∀ H' v, Same H H' → OV H' v o → Q v H') →
    (badN (numK f n w) ((d : Int) - (b : Int)) d = true → ∀ H', Same H H' → Q .non H') ∧
    (badN (numK f n w) ((d : Int) - (b : Int)) d = false → ∀ m, m ∈ 0 :: lows (numK f n w) t ((d : Int) - (b : Int)) d → (∀ x ∈ 0 :: lows (numK f n w) t ((d : Int) - (b : Int)) d, x ≤ m) →
      (highs (numK f n w) t ((d : Int) - (b : Int)) d = [] → ∀ H' T, Same H H' → H' T = some (.tup [.int m, .non]) → Q (.ref T) H') ∧
      ∀ l, l ∈ highs (numK f n w) t ((d : Int) - (b : Int)) d → (∀ x ∈ highs (numK f n w) t ((d : Int) - (b : Int)) d, l ≤ x) → (l < m → ∀ H', Same H H' → Q .non H') ∧ (m ≤ l → ∀ H' T, Same H H' → H' T = some (.tup [.int m, .int l]) → Q (.ref T) H'))
theorem vr_is (bl : b < (f d).length) (et : (f d)[b]? = some t) : ∃ o, VRis f n w d b t o := by
  have key := fun x : Int => (vals_iff (n := n) (w := w) (x := x) bl et).symm.trans allNN_iff
  cases hb : badN (numK f n w) ((d : Int) - (b : Int)) d with
  | true =>
    refine ⟨none, fun _ _ z => (nomatch z), fun x x0 => ⟨fun z => absurd z rng_none, fun z => ?_⟩, fun _ _ _ _ _ _ z => (nomatch z), fun _ z => (nomatch z), fun H Q q => ⟨fun _ H' s => q _ _ s (.inl ⟨rfl, rfl⟩), fun z => absurd (hb.symm.trans z) (by decide)⟩⟩
    have := ((key x).mpr z).1
    rw [hb] at this
    cases this
  | false =>
    obtain ⟨m, m1, m2⟩ := max_ex (0 :: lows (numK f n w) t ((d : Int) - (b : Int)) d) (List.cons_ne_nil _ _)
    have m0 := m2 0 List.mem_cons_self
    have lowm : ∀ x : Int, 0 ≤ x → ((∀ l ∈ lows (numK f n w) t ((d : Int) - (b : Int)) d, l ≤ x) ↔ m ≤ x) := fun x x0 => by
      constructor
      · intro h
        rcases List.mem_cons.mp m1 with e | e
        · omega
        · exact h _ e
      · intro h l hl
        have := m2 l (List.mem_cons_of_mem _ hl)
        omega
    have mC : ∀ C : Int, 0 ≤ C → (∀ l ∈ lows (numK f n w) t ((d : Int) - (b : Int)) d, l ≤ C) → m ≤ C := fun C c0 h => (lowm C c0).mp h
    have muniq : ∀ m', m' ∈ 0 :: lows (numK f n w) t ((d : Int) - (b : Int)) d → (∀ x ∈ 0 :: lows (numK f n w) t ((d : Int) - (b : Int)) d, x ≤ m') → m' = m := fun m' h1 h2 => by
      have := h2 m m1
      have := m2 m' h1
      omega
    by_cases hh : highs (numK f n w) t ((d : Int) - (b : Int)) d = []
    · refine ⟨some (m, none), fun m' h e => ?_, fun x x0 => ?_, fun C c0 h1 h2 m' h e => ?_, fun _ _ => hh, fun H Q q => ⟨fun z => absurd (hb.symm.trans z) (by decide), fun _ m' h1 h2 => ⟨fun _ H' T s e => q _ _ s (.inr ⟨T, m, none, rfl, rfl, by rw [e, muniq m' h1 h2]; rfl⟩), fun l hl => ?_⟩⟩⟩
      · cases e
        exact ⟨m0, fun _ z => nomatch z⟩
      · rw [rng_some, ← key x, hb, lowm x x0, hh]
        exact ⟨fun z => ⟨rfl, z.1, fun _ y => nomatch y⟩, fun z => ⟨z.2.1, fun _ y => nomatch y⟩⟩
      · cases e
        exact ⟨mC C c0 h1, fun _ z => nomatch z⟩
      · rw [hh] at hl
        cases hl
    · obtain ⟨l, l1, l2⟩ := min_ex _ hh
      have luniq : ∀ l', l' ∈ highs (numK f n w) t ((d : Int) - (b : Int)) d → (∀ x ∈ highs (numK f n w) t ((d : Int) - (b : Int)) d, l' ≤ x) → l' = l := fun l' h1 h2 => by
        have := h2 l l1
        have := l2 l' h1
        omega
      have hil : ∀ x : Int, (∀ h ∈ highs (numK f n w) t ((d : Int) - (b : Int)) d, x ≤ h) ↔ x ≤ l := fun x => by
        constructor
        · exact fun h => h l l1
        · intro h y hy
          have := l2 y hy
          omega
      by_cases lm : l < m
      · refine ⟨none, fun _ _ z => (nomatch z), fun x x0 => ⟨fun z => absurd z rng_none, fun z => ?_⟩, fun _ _ _ _ _ _ z => (nomatch z), fun _ z => (nomatch z), fun H Q q => ⟨fun _ H' s => q _ _ s (.inl ⟨rfl, rfl⟩), fun _ m' h1 h2 => ⟨fun z => absurd z hh, fun l' h3 h4 => ⟨fun _ H' s => q _ _ s (.inl ⟨rfl, rfl⟩), fun z => ?_⟩⟩⟩⟩
        · obtain ⟨_, z2, z3⟩ := (key x).mpr z
          have := (lowm x x0).mp z2
          have := (hil x).mp z3
          omega
        · rw [muniq m' h1 h2, luniq l' h3 h4] at z
          omega
      · refine ⟨some (m, some l), fun m' h e => ?_, fun x x0 => ?_, fun C c0 h1 h2 m' h e => ?_, fun _ z => (nomatch z), fun H Q q => ⟨fun z => absurd (hb.symm.trans z) (by decide), fun _ m' h1 h2 => ⟨fun z => absurd z hh, fun l' h3 h4 => ⟨fun z => ?_, fun _ H' T s e => q _ _ s (.inr ⟨T, m, some l, rfl, rfl, by rw [e, muniq m' h1 h2, luniq l' h3 h4]; rfl⟩)⟩⟩⟩⟩
        · cases e
          exact ⟨m0, fun y z => by cases z; omega⟩
        · rw [rng_some, ← key x, hb, lowm x x0, hil x]
          exact ⟨fun z => ⟨rfl, z.1, z.2 l rfl⟩, fun z => ⟨z.2.1, fun y e => by cases e; exact z.2.2⟩⟩
        · cases e
          exact ⟨mC C c0 h1, fun y z => by cases z; exact h2 l l1⟩
        · rw [muniq m' h1 h2, luniq l' h3 h4] at z
          omega
/-- at width 1 every sheet is possible -/
theorem nn_one (hf : Shf n 1 f) : NN f n 1 := by
  have n1 := hf.n1
  refine ⟨fun a b a0 ab bn bw => by omega, fun a a0 an => ?_, fun b b0 bn => ?_⟩
  · have e1 : eA n 1 a = a := by
      unfold eA
      split <;> omega
    unfold aw
    rw [e1]
    have h := uu_get hf (Int.le_refl a) fun _ => ⟨by omega, by omega, by omega⟩
    have := hf.nn a.toNat (by omega) _ (List.mem_of_getElem? h)
    have e2 : uu f (a + 1) a = 0 := by
      unfold uu
      rw [if_neg (by omega)]
    omega
  · have e1 : sF 1 b = b := by
      unfold sF
      split <;> omega
    unfold fr
    rw [e1]
    have h := uu_get hf (Int.le_refl b) fun _ => ⟨by omega, by omega, by omega⟩
    have := hf.nn b.toNat (by omega) _ (List.mem_of_getElem? h)
    have e2 : uu f b (b - 1) = 0 := by
      unfold uu
      rw [if_neg (by omega)]
    omega
end
section
variable {P : Program} {w : World} {K : PySem.W.Frag} {mg : Str → Option Value} {base : Heap}
def spVRo : Sp := fun vs H Q _ => ∃ (g : Addr) (n w : Nat) (f : Nat → List Int) (d b : Nat) (t : Int) (o : Rg), vs = [.ref g, .int d, .int b] ∧ ShAt H g n w f ∧ d < n ∧ b < (f d).length ∧ (f d)[b]? = some t ∧ VRis f n w d b t o ∧ ∀ H' v, Same H H' → OV H' v o → Q v H'
theorem ok_vro {f : Addr} {fd : FuncData} {k : Nat} (G : FnOk P w K mg base CX0 k f fd ["sheet", "day", "back"] spVR) : FnOk P w K mg base CX0 k f fd ["sheet", "day", "back"] spVRo :=
  G.imp fun vs H Q E h => by
    obtain ⟨g, n, m, f, d, b, t, o, e, hS, dn, bl, et, ho, q⟩ := h
    obtain ⟨q1, q2⟩ := ho.sp H Q q
    exact ⟨g, n, m, f, d, b, t, e, hS, dn, bl, et, q1, q2⟩
theorem ok_vrO {f : Addr} {fd : FuncData} {k : Nat} (F : Fun K "value_range" "value_range" s_value_range f fd) {f_check_sheet : Addr} {d_check_sheet : FuncData} (F_check_sheet : Fun K "check_sheet" "check_sheet" s_check_sheet f_check_sheet d_check_sheet) (G_check_sheet : FnOk P w K mg base CX0 k f_check_sheet d_check_sheet ["sheet"] spCkSh) (b_check_sheet : Binds K d_check_sheet ["sheet"] []) (g_check_sheet : mg "check_sheet" = some (.ref f_check_sheet)) {f_check_day : Addr} {d_check_day : FuncData} (F_check_day : Fun K "check_day" "check_day" s_check_day f_check_day d_check_day) (G_check_day : FnOk P w K mg base CX0 k f_check_day d_check_day ["sheet", "day"] spCkDay) (b_check_day : Binds K d_check_day ["sheet", "day"] []) (g_check_day : mg "check_day" = some (.ref f_check_day)) {f_is_between : Addr} {d_is_between : FuncData} (F_is_between : Fun K "is_between" "is_between" s_is_between f_is_between d_is_between) (G_is_between : FnOk P w K mg base CX0 k f_is_between d_is_between ["thing", "least", "most"] spBetw) (b_is_between : Binds K d_is_between ["thing", "least", "most"] []) (g_is_between : mg "is_between" = some (.ref f_is_between)) {f_numbers_in : Addr} {d_numbers_in : FuncData} (F_numbers_in : Fun K "numbers_in" "numbers_in" s_numbers_in f_numbers_in d_numbers_in) (G_numbers_in : FnOk P w K mg base CX0 k f_numbers_in d_numbers_in ["sheet"] spNums) (b_numbers_in : Binds K d_numbers_in ["sheet"] []) (g_numbers_in : mg "numbers_in" = some (.ref f_numbers_in)) {f__values_at : Addr} {d__values_at : FuncData} (F__values_at : Fun K "_values_at" "_values_at" s__values_at f__values_at d__values_at) (G__values_at : FnOk P w K mg base CX0 k f__values_at d__values_at ["sheet", "numbers", "day", "back"] spVals) (b__values_at : Binds K d__values_at ["sheet", "numbers", "day", "back"] []) (g__values_at : mg "_values_at" = some (.ref f__values_at)) (m_len : mg "len" = none) : FnOk P w K mg base CX0 (k + 1) f fd ["sheet", "day", "back"] spVRo :=
  ok_vro (ok_vr F F_check_sheet G_check_sheet b_check_sheet g_check_sheet F_check_day G_check_day b_check_day g_check_day F_is_between G_is_between b_is_between g_is_between F_numbers_in G_numbers_in b_numbers_in g_numbers_in F__values_at G__values_at b__values_at g__values_at m_len)
end
end K46

namespace K46
open PySem PySem.Spec PyProof.Rows L2 Fa
abbrev s__law_all_numbers : Stmt := topS 43
abbrev N__law_all_numbers : List Str := ["told", "many", "found", "a", "b"]
theorem sc__law_all_numbers : FnScope N__law_all_numbers ["told"] (defScope s__law_all_numbers) := ⟨rfl, rfl, rfl, by decide +kernel, rfl, by decide +kernel, by decide +kernel⟩
abbrev s__law_due : Stmt := topS 44
abbrev N__law_due : List Str := ["told", "spot", "ago", "zero", "one", "least", "greatest", "k"]
theorem sc__law_due : FnScope N__law_due ["told", "spot", "ago"] (defScope s__law_due) := ⟨rfl, rfl, rfl, by decide +kernel, rfl, by decide +kernel, by decide +kernel⟩
/-- all numbers, as the law goes through them -/
abbrev Kd := Nat × Int × Int
def kRow (n w a : Nat) : List Kd := [(0, (a : Int), 0), (1, (a : Int), 0)] ++ (List.range (min (a + w) n - (a + 1))).map fun j : Nat => (2, (a : Int), (a : Int) + 1 + (j : Int))
def kds (n w i : Nat) : List Kd := (List.range i).flatMap fun a => kRow n w a
theorem kds_succ (n w i : Nat) : kds n w (i + 1) = kds n w i ++ kRow n w i := by
  unfold kds
  rw [List.range_succ, List.flatMap_append]
  simp
theorem kds_len {n w : Nat} (hn : n ≤ 30) : ∀ i, (kds n w i).length ≤ 32 * i
  | 0 => Nat.le_refl _
  | i + 1 => by
    rw [kds_succ, List.length_append]
    have := kds_len (w := w) hn i
    have : (kRow n w i).length ≤ 32 := by
      unfold kRow
      rw [List.length_append, List.length_map, List.length_range]
      show 2 + _ ≤ 32
      omega
    omega
def kv (f : Nat → List Int) (n w : Nat) (k : Kd) : Int := if k.1 = 0 then aw f n w k.2.1 else if k.1 = 1 then fr f w k.2.1 else gp f k.2.1 k.2.2
def kc (n w : Nat) (a d : Int) (k : Kd) : Int := if k.1 = 0 then cf a d (kB "away" k.2.1 (eA n w k.2.1)) else if k.1 = 1 then cf a d (kB "fresh" (sF w k.2.1) k.2.1) else cf a d (kB "gap" k.2.1 k.2.2)
theorem kds_mem {n w : Nat} {k : Kd} (h : k ∈ kds n w n) : (k.1 = 0 ∧ 0 ≤ k.2.1 ∧ k.2.1 < n) ∨ (k.1 = 1 ∧ 0 ≤ k.2.1 ∧ k.2.1 < n) ∨ (k.1 = 2 ∧ 0 ≤ k.2.1 ∧ k.2.1 < k.2.2 ∧ k.2.2 < n ∧ k.2.2 - k.2.1 < w) := by
  obtain ⟨a, ha, h2⟩ := List.mem_flatMap.mp h
  have ha := List.mem_range.mp ha
  unfold kRow at h2
  rcases List.mem_append.mp h2 with h2 | h2
  · simp only [List.mem_cons, List.not_mem_nil, or_false] at h2
    rcases h2 with rfl | rfl
    · exact .inl ⟨rfl, by show (0 : Int) ≤ (a : Int); omega, by show (a : Int) < n; omega⟩
    · exact .inr (.inl ⟨rfl, by show (0 : Int) ≤ (a : Int); omega, by show (a : Int) < n; omega⟩)
  · obtain ⟨j, hj, rfl⟩ := List.mem_map.mp h2
    have hj := List.mem_range.mp hj
    refine .inr (.inr ⟨rfl, ?_, ?_, ?_, ?_⟩)
    · show (0 : Int) ≤ (a : Int)
      omega
    · show (a : Int) < (a : Int) + 1 + (j : Int)
      omega
    · show (a : Int) + 1 + (j : Int) < n
      omega
    · show (a : Int) + 1 + (j : Int) - (a : Int) < w
      omega
theorem cf3 (a d : Int) (k : List Key) : cf a d k = 0 ∨ cf a d k = 1 ∨ cf a d k = -1 := by
  unfold cf
  split
  · exact .inr (.inl rfl)
  · split
    · exact .inr (.inr rfl)
    · exact .inl rfl
theorem kc3 (n w : Nat) (a d : Int) (k : Kd) : kc n w a d k = 0 ∨ kc n w a d k = 1 ∨ kc n w a d k = -1 := by
  unfold kc
  split
  · exact cf3 _ _ _
  · split <;> exact cf3 _ _ _
theorem nn_kds {f : Nat → List Int} {n w : Nat} : NN f n w ↔ ∀ k ∈ kds n w n, 0 ≤ kv f n w k := by
  constructor
  · rintro ⟨h1, h2, h3⟩ k hk
    unfold kv
    rcases kds_mem hk with ⟨e, a0, a1⟩ | ⟨e, a0, a1⟩ | ⟨e, a0, a1, a2, a3⟩
    · rw [if_pos e]
      exact h2 _ a0 a1
    · rw [if_neg (by omega), if_pos e]
      exact h3 _ a0 a1
    · rw [if_neg (by omega), if_neg (by omega)]
      exact h1 _ _ a0 a1 a2 a3
  · intro h
    refine ⟨fun a b a0 ab bn bw => ?_, fun a a0 an => ?_, fun b b0 bn => ?_⟩
    · obtain ⟨a, rfl⟩ := Int.eq_ofNat_of_zero_le a0
      obtain ⟨j, rfl⟩ : ∃ j : Nat, b = (a : Int) + 1 + (j : Int) := ⟨(b - (a : Int) - 1).toNat, by omega⟩
      exact h (2, (a : Int), (a : Int) + 1 + (j : Int)) (List.mem_flatMap.mpr ⟨a, List.mem_range.mpr (by omega), List.mem_append_right _ (List.mem_map.mpr ⟨j, List.mem_range.mpr (by omega), rfl⟩)⟩)
    · obtain ⟨a, rfl⟩ := Int.eq_ofNat_of_zero_le a0
      exact h (0, (a : Int), 0) (List.mem_flatMap.mpr ⟨a, List.mem_range.mpr (by omega), List.mem_append_left _ List.mem_cons_self⟩)
    · obtain ⟨b, rfl⟩ := Int.eq_ofNat_of_zero_le b0
      exact h (1, (b : Int), 0) (List.mem_flatMap.mpr ⟨b, List.mem_range.mpr (by omega), List.mem_append_left _ (List.mem_cons_of_mem _ List.mem_cons_self)⟩)
theorem kv_put {f : Nat → List Int} {n w d b : Nat} {t x : Int} (bl : b < (f d).length) (et : (f d)[b]? = some t) {k : Kd} (hk : k ∈ kds n w n) : kv (put f d b x) n w k = kv f n w k + kc n w ((d : Int) - (b : Int)) d k * (x - t) := by
  unfold kv kc
  rcases kds_mem hk with ⟨e, a0, a1⟩ | ⟨e, a0, a1⟩ | ⟨e, a0, a1, a2, a3⟩
  · rw [if_pos e, if_pos e, if_pos e]
    exact aw_put bl et a0
  · rw [if_neg (by omega), if_pos e, if_neg (by omega), if_pos e, if_neg (by omega), if_pos e]
    refine fr_put bl et ?_
    unfold sF
    split <;> omega
  · rw [if_neg (by omega), if_neg (by omega), if_neg (by omega), if_neg (by omega), if_neg (by omega), if_neg (by omega)]
    exact gp_put bl et a0 a1
/-- the ends for the first numbers -/
def Ends2 (ks : List Kd) (z c : Kd → Int) (m : Int) (o : Option Int) : Prop := 0 ≤ m ∧ ∀ x : Int, 0 ≤ x → ((∀ k ∈ ks, 0 ≤ z k + c k * x) ↔ m ≤ x ∧ ∀ l, o = some l → x ≤ l)
theorem ends_nil {z c : Kd → Int} : Ends2 [] z c 0 none := ⟨Int.le_refl _, fun x x0 => ⟨fun _ => ⟨x0, fun _ e => nomatch e⟩, fun _ _ h => nomatch h⟩⟩
theorem all_snoc {ks : List Kd} {p : Kd → Prop} {k : Kd} : (∀ q ∈ ks ++ [k], p q) ↔ (∀ q ∈ ks, p q) ∧ p k := by
  constructor
  · exact fun h => ⟨fun q hq => h q (List.mem_append_left _ hq), h k (List.mem_append_right _ List.mem_cons_self)⟩
  · rintro ⟨h1, h2⟩ q hq
    rcases List.mem_append.mp hq with hq | hq
    · exact h1 q hq
    · rw [List.mem_singleton.mp hq]
      exact h2
theorem ends_zero {ks : List Kd} {z c : Kd → Int} {m : Int} {o : Option Int} {k : Kd} (h : Ends2 ks z c m o) (h0 : c k = 0) (z0 : 0 ≤ z k) : Ends2 (ks ++ [k]) z c m o := ⟨h.1, fun x x0 => by
  rw [all_snoc, h.2 x x0, h0, Int.zero_mul, Int.add_zero]
  exact ⟨fun y => y.1, fun y => ⟨y, z0⟩⟩⟩
theorem ends_up {ks : List Kd} {z c : Kd → Int} {m m' : Int} {o : Option Int} {k : Kd} (h : Ends2 ks z c m o) (h0 : c k = 1) (hm : m' = if 0 - z k > m then 0 - z k else m) : Ends2 (ks ++ [k]) z c m' o := by
  have m0 := h.1
  refine ⟨by subst hm; split <;> omega, fun x x0 => ?_⟩
  rw [all_snoc, h.2 x x0, h0, Int.one_mul]
  constructor
  · rintro ⟨⟨y1, y2⟩, y3⟩
    exact ⟨by subst hm; split <;> omega, y2⟩
  · rintro ⟨y1, y2⟩
    subst hm
    split at y1
    · exact ⟨⟨by omega, y2⟩, by omega⟩
    · exact ⟨⟨by omega, y2⟩, by omega⟩
theorem ends_down {ks : List Kd} {z c : Kd → Int} {m : Int} {o : Option Int} {k : Kd} {l' : Int} (h : Ends2 ks z c m o) (h0 : c k = -1) (h1 : o = none → l' = z k) (h2 : ∀ l, o = some l → l' = if z k < l then z k else l) : Ends2 (ks ++ [k]) z c m (some l') := by
  refine ⟨h.1, fun x x0 => ?_⟩
  rw [all_snoc, h.2 x x0, h0, Int.neg_mul, Int.one_mul]
  rcases o with _ | l
  · obtain rfl := h1 rfl
    constructor
    · rintro ⟨⟨y1, y2⟩, y3⟩
      exact ⟨y1, fun e z => by cases z; omega⟩
    · rintro ⟨y1, y2⟩
      have := y2 _ rfl
      exact ⟨⟨y1, fun _ z => nomatch z⟩, by omega⟩
  · have e := h2 l rfl
    constructor
    · rintro ⟨⟨y1, y2⟩, y3⟩
      have := y2 l rfl
      refine ⟨y1, fun e' z => ?_⟩
      cases z
      rw [e]
      split <;> omega
    · rintro ⟨y1, y2⟩
      have := y2 _ rfl
      rw [e] at this
      split at this
      · exact ⟨⟨y1, fun e' z => by cases z; omega⟩, by omega⟩
      · exact ⟨⟨y1, fun e' z => by cases z; omega⟩, by omega⟩
section
variable {P : Program} {w : World} {K : PySem.W.Frag} {mg : Str → Option Value} {base : Heap}
def spAllN : Sp := fun vs H Q _ => ∃ (g : Addr) (n w : Nat) (f : Nat → List Int), vs = [.ref g] ∧ ShAt H g n w f ∧ ∀ H' l, Same H H' → H l = none → H' l = some (.lst (((kds n w n).map (kv f n w)).map V.int)) → Q (.ref l) H'
theorem ok_alln {f : Addr} {fd : FuncData} {k : Nat} (F : Fun K "_law_all_numbers" "_law_all_numbers" s__law_all_numbers f fd) {f__law_gap : Addr} {d__law_gap : FuncData} (F__law_gap : Fun K "_law_gap" "_law_gap" s__law_gap f__law_gap d__law_gap) (G__law_gap : FnOk P w K mg base CX0 k f__law_gap d__law_gap ["told", "a", "b"] spGapB) (b__law_gap : Binds K d__law_gap ["told", "a", "b"] []) (g__law_gap : mg "_law_gap" = some (.ref f__law_gap)) {f__law_away : Addr} {d__law_away : FuncData} (F__law_away : Fun K "_law_away" "_law_away" s__law_away f__law_away d__law_away) (G__law_away : FnOk P w K mg base CX0 k f__law_away d__law_away ["told", "a"] spAwF) (b__law_away : Binds K d__law_away ["told", "a"] []) (g__law_away : mg "_law_away" = some (.ref f__law_away)) {f__law_fresh : Addr} {d__law_fresh : FuncData} (F__law_fresh : Fun K "_law_fresh" "_law_fresh" s__law_fresh f__law_fresh d__law_fresh) (G__law_fresh : FnOk P w K mg base CX0 k f__law_fresh d__law_fresh ["told", "b"] spFrO) (b__law_fresh : Binds K d__law_fresh ["told", "b"] []) (g__law_fresh : mg "_law_fresh" = some (.ref f__law_fresh)) (m_len : mg "len" = none) (m_range : mg "range" = none) (m_min : mg "min" = none) : FnOk P w K mg base CX0 (k + 1) f fd ["told"] spAllN := by
  refine F.ok sc__law_all_numbers (fun vs H Q E h => ?_) (fun cdv A outer s H vs Q E hr h => ?_)
  · obtain ⟨g, _, _, _, rfl, _⟩ := h
    rfl
  · obtain ⟨g, n, m, f, rfl, hS, q⟩ := h
    refine ⟨_, (pss_cons (ps_par (i := 1) (j := 2) rfl sc__law_all_numbers.nd rfl rfl (by decide) rfl rfl (pa_cons (pe_callB (Fa.lenQ K) (by rfl) m_len PySem.boot_len (pa_cons (pv 0) pa_nil)) (pa_cons (pe_lst pa_nil) pa_nil)) rfl)
  (pss_cons (ps_for PassesOwn.never rfl (pi_range1 (by rfl) m_range (pa_cons (pv 1) pa_nil)) (pg_name (i := 3) sc__law_all_numbers.nd rfl (by first | exact Or.inl rfl | exact Or.inr rfl)) (pss_cons (ps_set (i := 2) sc__law_all_numbers.nd rfl (by first | exact Or.inl rfl | exact Or.inr rfl) (pe_op op_cat (pv 2) (pe_lst (pa_cons (pe_call G__law_away (hr.mono (by omega)) (by rfl) g__law_away F__law_away.kp b__law_away .nil pass0 (pa_cons (pv 0) (pa_cons (pv 3) pa_nil))) (pa_cons (pe_call G__law_fresh (hr.mono (by omega)) (by rfl) g__law_fresh F__law_fresh.kp b__law_fresh .nil pass0 (pa_cons (pv 0) (pa_cons (pv 3) pa_nil))) pa_nil)))))
  (pss_one (ps_set (i := 2) sc__law_all_numbers.nd rfl (by first | exact Or.inl rfl | exact Or.inr rfl) (pe_op op_cat (pv 2) (pe_lc (own := [("b", 4)]) (g := (gName 4)) (tt := tYes) rfl sc__law_all_numbers.nd (pi_range2 (by rfl) m_range (pa_cons (pe_op op_add (pv 3) pe_int) (pa_cons (pe_callB (call_min2 rfl) (by rfl) m_min PyProof.Rows.boot_min (pa_cons (pe_op op_add (pv 3) (pe_callB (Fa.lenQ K) (by rfl) m_len PySem.boot_len (pa_cons (pe_ix (Fa.ixL K) (pv 0) (pe_un un_neg pe_int) (fun _ _ => rfl)) pa_nil))) (pa_cons (pv 1) pa_nil))) pa_nil))) (blkOk_by (N := N__law_all_numbers) (sc := defScope s__law_all_numbers) (by decide +kernel)) (fun _ _ _ _ _ => (pg_name (i := 4) sc__law_all_numbers.nd rfl (by first | exact Or.inl rfl | exact Or.inr rfl))) (fun _ _ _ _ _ => pts_nil) (fun _ _ _ _ _ => (pe_call G__law_gap (hr.mono (by omega)) (by rfl) g__law_gap F__law_gap.kp b__law_gap .nil pass0 (pa_cons (pv 0) (pa_cons (pv 3) (pa_cons (pv 4) pa_nil)))))))))))
  (pss_one (ps_ret (pv 2))))), ?_⟩
    have n30 := hS.2.n30
    have w1 := hS.2.w1
    obtain ⟨⟨rows, G⟩, hf⟩ := id hS
    have rl : (rows.map V.ref).length = n := by rw [List.length_map, G.cnt]
    refine ⟨_, rfl, g, _, rfl, .inl (.inl (.inl G.top)), ?_⟩
    rw [rl]
    refine ⟨by show 0 ≤ sizeLine; decide, fun L0 nL0 => ⟨_, _, rfl, ?_⟩⟩
    refine ⟨_, rfl, n, rfl, by omega, by omega, ?_⟩
    rw [Int.toNat_natCast]
    refine for_range (lo := 0) (fun i σ H' => Same H H' ∧ ∃ L x3, H L = none ∧ H' L = some (.lst (((kds n m i).map (kv f n m)).map V.int)) ∧ σ = [some (.ref g), some (.int n), some (.ref L), x3, none]) ?_ ?_ ?_
    · exact ⟨same_new nL0, L0, none, nL0, upd_same, rfl⟩
    · rintro i σ H1 hi ⟨s1, L, x3, nL, eL, rfl⟩
      rw [Int.zero_add]
      have hS1 := hS.same s1
      have ki := kds_len (w := m) n30 i
      refine ⟨_, rfl, _, rfl, _, rfl, g, n, m, f, i, rfl, hS1, by omega, by omega, _, rfl, _, rfl, g, n, m, f, i, rfl, hS1, by omega, by omega, by show 2 ≤ sizeLine; decide, fun L2 nL2 => ?_⟩
      have sL2 := same_new (o := .lst [.int (aw f n m i), .int (fr f m i)]) nL2
      refine ⟨L, L2, _, _, rfl, rfl, sL2 _ _ eL, upd_same, ?_, fun L3 nL3 => ?_⟩
      · rw [List.length_map, List.length_map]
        exact Nat.le_of_lt (small1000 (by show _ + 2 ≤ 1000; omega))
      have s3 := s1.trans (sL2.trans (same_new (o := .lst (((kds n m i).map (kv f n m)).map V.int ++ [.int (aw f n m i), .int (fr f m i)])) nL3))
      have eL3 : upd (upd H1 L2 (.lst [.int (aw f n m i), .int (fr f m i)])) L3 (.lst (((kds n m i).map (kv f n m)).map V.int ++ [.int (aw f n m i), .int (fr f m i)])) L3 = some (.lst (((kds n m i).map (kv f n m)).map V.int ++ [.int (aw f n m i), .int (fr f m i)])) := upd_same
      show gName 2 (V.ref L3) _ (upd (upd H1 L2 (.lst [.int (aw f n m i), .int (fr f m i)])) L3 (.lst (((kds n m i).map (kv f n m)).map V.int ++ [.int (aw f n m i), .int (fr f m i)]))) _
      generalize upd (upd H1 L2 (.lst [.int (aw f n m i), .int (fr f m i)])) L3 (.lst (((kds n m i).map (kv f n m)).map V.int ++ [.int (aw f n m i), .int (fr f m i)])) = H3 at s3 eL3 ⊢
      have hS3 := hS.same s3
      obtain ⟨⟨rows1, G1⟩, hf1⟩ := id hS3
      obtain ⟨r, ea, er, hr'⟩ := G1.last hf1.n1
      have ll : ((f (n - 1)).map V.int).length = m := by rw [List.length_map, hf1.last]
      have eb : (0 : Int) ≤ (if (n : Int) < (i : Int) + (m : Int) then (n : Int) else (i : Int) + (m : Int)) ∧ (if (n : Int) < (i : Int) + (m : Int) then (n : Int) else (i : Int) + (m : Int)) ≤ 30 := by split <;> omega
      have ec : ((if (n : Int) < (i : Int) + (m : Int) then (n : Int) else (i : Int) + (m : Int)) - ((i : Int) + 1)).toNat = min (i + m) n - (i + 1) := by split <;> omega
      refine ⟨_, rfl, _, rfl, _, _, rfl, rfl, _, rfl, _, rfl, 1, rfl, g, _, _, _, rfl, rfl, .inl (.inl G1.top), ea, r, _, rfl, .inl (.inl (.inl hr')), _, _, rfl, rfl, _, rfl, _, _, rfl, ?_⟩
      rw [ll]
      refine ⟨_, _, rfl, ⟨by omega, by omega, by omega, by omega⟩, fun D nD => ?_⟩
      rw [ec]
      refine lc_rangeI (lo := (i : Int) + 1) (fun j => gp f i ((i : Int) + 1 + (j : Int))) (by omega) (Same.refl H3) nD (fun j H4 Qe hj s4 qe => ⟨rfl, _, rfl, _, rfl, _, rfl, g, n, m, f, i, (i : Int) + 1 + (j : Int), rfl, hS3.same s4, by omega, by omega, by omega, by omega, qe _ (Same.refl _)⟩) fun H4 s4 e4 => ?_
      refine ⟨L3, D, _, _, rfl, rfl, s4 _ _ eL3, e4, ?_, fun L4 nL4 => ?_⟩
      · rw [List.length_append, List.length_map, List.length_map, List.length_map, nums_len]
        exact Nat.le_of_lt (small1000 (by show _ + 2 + _ ≤ 1000; omega))
      refine ⟨s3.trans (s4.trans (same_new nL4)), L4, _, (s3.trans s4).free nL4, ?_, rfl⟩
      rw [upd_same, kds_succ]
      unfold kRow
      rw [List.map_append, List.map_append, List.map_append, List.map_append, List.append_assoc]
      congr 3
      unfold nums
      simp only [List.map_map]
      rfl
    · rintro σ H1 ⟨s1, L, x3, nL, eL, rfl⟩
      exact ⟨_, rfl, q _ L s1 nL eL⟩
def spDue : Sp := fun vs H Q _ => ∃ (g : Addr) (n w : Nat) (f : Nat → List Int) (d b : Nat) (t : Int), vs = [.ref g, .int d, .int b] ∧ ShAt H g n w f ∧ d < n ∧ b < (f d).length ∧ (f d)[b]? = some t ∧
  ∀ H' v o, Same H H' → Nrm o → (∀ x : Int, 0 ≤ x → (rng o x ↔ NN (put f d b x) n w)) → OV H' v o → Q v H'
theorem ok_due {f : Addr} {fd : FuncData} {k : Nat} (F : Fun K "_law_due" "_law_due" s__law_due f fd) {f__law_all_numbers : Addr} {d__law_all_numbers : FuncData} (F__law_all_numbers : Fun K "_law_all_numbers" "_law_all_numbers" s__law_all_numbers f__law_all_numbers d__law_all_numbers) (G__law_all_numbers : FnOk P w K mg base CX0 k f__law_all_numbers d__law_all_numbers ["told"] spAllN) (b__law_all_numbers : Binds K d__law_all_numbers ["told"] []) (g__law_all_numbers : mg "_law_all_numbers" = some (.ref f__law_all_numbers)) {f__law_with : Addr} {d__law_with : FuncData} (F__law_with : Fun K "_law_with" "_law_with" s__law_with f__law_with d__law_with) (G__law_with : FnOk P w K mg base CX0 k f__law_with d__law_with ["told", "spot", "ago", "number"] spWith) (b__law_with : Binds K d__law_with ["told", "spot", "ago", "number"] []) (g__law_with : mg "_law_with" = some (.ref f__law_with)) (m_len : mg "len" = none) (m_range : mg "range" = none) (m_min : mg "min" = none) (m_max : mg "max" = none) : FnOk P w K mg base CX0 (k + 1) f fd ["told", "spot", "ago"] spDue := by
  refine F.ok sc__law_due (fun vs H Q E h => ?_) (fun cdv A outer s H vs Q E hr h => ?_)
  · obtain ⟨g, _, _, _, _, _, _, rfl, _⟩ := h
    rfl
  · obtain ⟨g, n, m, f, d, b, t, rfl, hS, dn, bl, et, q⟩ := h
    refine ⟨_, (pss_cons (ps_set (i := 3) sc__law_due.nd rfl (by first | exact Or.inl rfl | exact Or.inr rfl) (pe_call G__law_all_numbers (hr.mono (by omega)) (by rfl) g__law_all_numbers F__law_all_numbers.kp b__law_all_numbers .nil pass0 (pa_cons (pe_call G__law_with (hr.mono (by omega)) (by rfl) g__law_with F__law_with.kp b__law_with .nil pass0 (pa_cons (pv 0) (pa_cons (pv 1) (pa_cons (pv 2) (pa_cons pe_int pa_nil))))) pa_nil)))
  (pss_cons (ps_set (i := 4) sc__law_due.nd rfl (by first | exact Or.inl rfl | exact Or.inr rfl) (pe_call G__law_all_numbers (hr.mono (by omega)) (by rfl) g__law_all_numbers F__law_all_numbers.kp b__law_all_numbers .nil pass0 (pa_cons (pe_call G__law_with (hr.mono (by omega)) (by rfl) g__law_with F__law_with.kp b__law_with .nil pass0 (pa_cons (pv 0) (pa_cons (pv 1) (pa_cons (pv 2) (pa_cons pe_int pa_nil))))) pa_nil)))
  (pss_cons (ps_asg (pe_tup (pa_cons pe_int (pa_cons pe_non pa_nil))) (pg_tup rfl (pgs_cons (pg_name (i := 5) sc__law_due.nd rfl (by first | exact Or.inl rfl | exact Or.inr rfl)) (pgs_cons (pg_name (i := 6) sc__law_due.nd rfl (by first | exact Or.inl rfl | exact Or.inr rfl)) pgs_nil))))
  (pss_cons (ps_for PassesOwn.never rfl (pi_range1 (by rfl) m_range (pa_cons (pe_callB (Fa.lenQ K) (by rfl) m_len PySem.boot_len (pa_cons (pv 3) pa_nil)) pa_nil)) (pg_name (i := 7) sc__law_due.nd rfl (by first | exact Or.inl rfl | exact Or.inr rfl)) (pss_cons (ps_if (PW.pt (pw_and (pt_cmpR op_eq (pe_ix (Fa.ixL K) (pv 3) (pv 7) (fun _ _ => rfl)) (pe_ix (Fa.ixL K) (pv 4) (pv 7) (fun _ _ => rfl)) (nomark _)) (pw_and1 (pt_cmpR op_lt (pe_ix (Fa.ixL K) (pv 3) (pv 7) (fun _ _ => rfl)) pe_int (nomark _))))) (pss_one (ps_ret pe_non)) pss_nil)
  (pss_cons (ps_if (pt_cmpR op_lt (pe_ix (Fa.ixL K) (pv 3) (pv 7) (fun _ _ => rfl)) (pe_ix (Fa.ixL K) (pv 4) (pv 7) (fun _ _ => rfl)) (nomark _)) (pss_one (ps_set (i := 5) sc__law_due.nd rfl (by first | exact Or.inl rfl | exact Or.inr rfl) (pe_callB (call_max2 rfl) (by rfl) m_max PyProof.Rows.boot_max (pa_cons (pv 5) (pa_cons (pe_op op_sub pe_int (pe_ix (Fa.ixL K) (pv 3) (pv 7) (fun _ _ => rfl))) pa_nil))))) pss_nil)
  (pss_one (ps_if (pt_cmpR op_gt (pe_ix (Fa.ixL K) (pv 3) (pv 7) (fun _ _ => rfl)) (pe_ix (Fa.ixL K) (pv 4) (pv 7) (fun _ _ => rfl)) (nomark _)) (pss_one (ps_set (i := 6) sc__law_due.nd rfl (by first | exact Or.inl rfl | exact Or.inr rfl) (pe_ifExp (pt_cmp (pc_isN (pv 6))) (pe_ix (Fa.ixL K) (pv 3) (pv 7) (fun _ _ => rfl)) (pe_callB (call_min2 rfl) (by rfl) m_min PyProof.Rows.boot_min (pa_cons (pv 6) (pa_cons (pe_ix (Fa.ixL K) (pv 3) (pv 7) (fun _ _ => rfl)) pa_nil)))))) pss_nil)))))
  (pss_one (ps_ret (pe_ifExp (PW.pt (pw_or (pt_cmp (pc_isN (pv 6))) (pw_or1 (pt_cmpR op_le (pv 5) (pv 6) (nomark _))))) (pe_tup (pa_cons (pv 5) (pa_cons (pv 6) pa_nil))) pe_non))))))), ?_⟩
    refine ⟨_, rfl, _, rfl, _, rfl, g, n, m, f, d, b, 0, rfl, hS, dn, bl, Int.le_refl _, fun H1 g1 r1 s1 ng1 nr1 G1 hf1 => ?_⟩
    refine ⟨g1, n, m, _, rfl, ⟨⟨r1, G1⟩, hf1⟩, fun H2 l1 s2 nl1 el1 => ?_⟩
    have s02 := s1.trans s2
    refine ⟨_, rfl, _, rfl, _, rfl, g, n, m, f, d, b, 1, rfl, hS.same s02, dn, bl, by decide, fun H3 g2 r2 s3 ng2 nr2 G2 hf2 => ?_⟩
    refine ⟨g2, n, m, _, rfl, ⟨⟨r2, G2⟩, hf2⟩, fun H4 l2 s4 nl2 el2 => ?_⟩
    have s04 := (s02.trans s3).trans s4
    have el1 := s4 _ _ (s3 _ _ el1)
    refine ⟨by show 2 ≤ sizeLine; decide, fun T nT => ⟨T, _, rfl, .inl (.inl upd_same), rfl, _, _, rfl, _, _, rfl, rfl, ?_⟩⟩
    have s5 := s04.trans (same_new (o := .tup [.int 0, .non]) nT)
    have el1 := same_new (o := .tup [.int 0, .non]) nT _ _ el1
    have el2 := same_new (o := .tup [.int 0, .non]) nT _ _ el2
    show tSeq _ _ _ _ (upd H4 T (.tup [.int 0, .non]))
    generalize upd H4 T (.tup [.int 0, .non]) = H5 at s5 el1 el2 ⊢
    have n30 := hS.2.n30
    have kl := kds_len (w := m) n30 n
    obtain ⟨ks, eks⟩ : ∃ ks, ks = kds n m n := ⟨_, rfl⟩
    obtain ⟨z, ez⟩ : ∃ z, z = kv (put f d b 0) n m := ⟨_, rfl⟩
    obtain ⟨c, ec⟩ : ∃ c, c = kc n m ((d : Int) - (b : Int)) d := ⟨_, rfl⟩
    have h1 : ∀ k ∈ ks, kv (put f d b 1) n m k = z k + c k := fun k hk => by
      rw [eks] at hk
      rw [ez, ec, kv_put bl et hk, kv_put bl et hk]
      have e : ∀ y : Int, y * (1 - t) = y * (0 - t) + y := fun y => by
        rw [Int.mul_sub, Int.mul_sub, Int.mul_one, Int.mul_zero]
        omega
      rw [e]
      omega
    have hx : ∀ x : Int, NN (put f d b x) n m ↔ ∀ k ∈ ks, 0 ≤ z k + c k * x := fun x => by
      rw [nn_kds, eks]
      have e : ∀ k ∈ kds n m n, kv (put f d b x) n m k = z k + c k * x := fun k hk => by
        rw [ez, ec, kv_put bl et hk, kv_put bl et hk]
        have e : ∀ y : Int, y * (x - t) = y * (0 - t) + y * x := fun y => by
          rw [Int.mul_sub, Int.mul_sub, Int.mul_zero]
          omega
        rw [e]
        omega
      exact ⟨fun h k hk => by rw [← e k hk]; exact h k hk, fun h k hk => by rw [e k hk]; exact h k hk⟩
    have c3 : ∀ k, c k = 0 ∨ c k = 1 ∨ c k = -1 := fun k => by
      rw [ec]
      exact kc3 _ _ _ _ _
    have el1 : H5 l1 = some (.lst ((ks.map z).map V.int)) := by
      rw [el1, eks, ez]
    have el2 : H5 l2 = some (.lst ((ks.map fun k => z k + c k).map V.int)) := by
      rw [el2, ← eks, List.map_congr_left h1]
    rw [← eks] at kl
    refine ⟨_, rfl, l1, _, rfl, .inl (.inl (.inl el1)), ?_⟩
    rw [List.length_map, List.length_map]
    refine ⟨_, rfl, by omega, by omega, ?_⟩
    rw [Int.toNat_natCast]
    refine for_range (lo := 0) (fun i σ H' => H' = H5 ∧ ∃ (mm : Int) (oo : Option Int) (x7 : Option V), Ends2 (ks.take i) z c mm oo ∧ σ = [some (.ref g), some (.int d), some (.int b), some (.ref l1), some (.ref l2), some (.int mm), some (oV oo), x7]) ?_ ?_ ?_
    · exact ⟨rfl, 0, none, none, ends_nil, rfl⟩
    · rintro i σ H6 hi ⟨rfl, mm, oo, x7, hE, rfl⟩
      rw [Int.zero_add]
      have ek : ks[i]? = some ks[i] := List.getElem?_eq_getElem hi
      have tk : ks.take (i + 1) = ks.take i ++ [ks[i]] := by rw [List.take_succ, ek]; rfl
      have hk : ks[i] ∈ ks := List.getElem_mem hi
      generalize ks[i] = k at ek tk hk
      have at1 : atI ((ks.map z).map V.int) (i : Int) = some (.int (z k)) := atI_nat (by rw [List.getElem?_map, List.getElem?_map, ek]; rfl)
      have at2 : atI ((ks.map fun k => z k + c k).map V.int) (i : Int) = some (.int (z k + c k)) := atI_nat (by rw [List.getElem?_map, List.getElem?_map, ek]; rfl)
      have q1 : SqL K H6 l1 ((ks.map z).map V.int) := .inl (.inl el1)
      have q2 : SqL K H6 l2 ((ks.map fun k => z k + c k).map V.int) := .inl (.inl el2)
      refine ⟨_, rfl, _, rfl, l1, _, _, _, rfl, rfl, q1, at1, _, rfl, _, rfl, l2, _, _, _, rfl, rfl, q2, at2, rfl, _, rfl, ?_⟩
      rcases c3 k with e0 | e0 | e0
      · refine iteEq (by rw [e0, Int.add_zero]) ?_
        refine ⟨_, rfl, _, rfl, l1, _, _, _, rfl, rfl, q1, at1, _, _, rfl, rfl, _, rfl, ite2 (fun e => ?_) (fun e => ?_)⟩
        · have neg := of_decide_eq_true e
          refine q _ _ none s5 (fun _ _ y => nomatch y) (fun x x0 => ⟨fun y => absurd y rng_none, fun y => ?_⟩) (.inl ⟨rfl, rfl⟩)
          have := (hx x).mp y k hk
          rw [e0, Int.zero_mul] at this
          omega
        · have pos : ¬ z k < 0 := fun y => e (decide_eq_true y)
          refine ⟨_, rfl, _, rfl, l1, _, _, _, rfl, rfl, q1, at1, _, rfl, _, rfl, l2, _, _, _, rfl, rfl, q2, at2, _, _, rfl, rfl, _, rfl, iteDF (by omega) ?_⟩
          refine ⟨_, rfl, _, rfl, l1, _, _, _, rfl, rfl, q1, at1, _, rfl, _, rfl, l2, _, _, _, rfl, rfl, q2, at2, _, _, rfl, rfl, _, rfl, iteDF (by omega) ?_⟩
          exact ⟨rfl, mm, oo, _, by rw [tk]; exact ends_zero hE e0 (by omega), rfl⟩
      · refine iteDF (fun y => by have := V.int.inj y; omega) ?_
        refine iteF ?_
        refine ⟨_, rfl, _, rfl, l1, _, _, _, rfl, rfl, q1, at1, _, rfl, _, rfl, l2, _, _, _, rfl, rfl, q2, at2, _, _, rfl, rfl, _, rfl, iteDS (by omega) ?_⟩
        refine ⟨_, rfl, _, rfl, _, rfl, l1, _, _, _, rfl, rfl, q1, at1, _, _, rfl, rfl, _, _, rfl, ?_⟩
        refine ⟨_, rfl, _, rfl, l1, _, _, _, rfl, rfl, q1, at1, _, rfl, _, rfl, l2, _, _, _, rfl, rfl, q2, at2, _, _, rfl, rfl, _, rfl, iteDF (by omega) ?_⟩
        exact ⟨rfl, _, oo, _, by rw [tk]; exact ends_up hE e0 rfl, rfl⟩
      · refine iteDF (fun y => by have := V.int.inj y; omega) ?_
        refine iteF ?_
        refine ⟨_, rfl, _, rfl, l1, _, _, _, rfl, rfl, q1, at1, _, rfl, _, rfl, l2, _, _, _, rfl, rfl, q2, at2, _, _, rfl, rfl, _, rfl, iteDF (by omega) ?_⟩
        refine ⟨_, rfl, _, rfl, l1, _, _, _, rfl, rfl, q1, at1, _, rfl, _, rfl, l2, _, _, _, rfl, rfl, q2, at2, _, _, rfl, rfl, _, rfl, iteDS (by omega) ?_⟩
        rcases oo with _ | l
        · refine ⟨_, rfl, _, rfl, iteEq rfl ⟨_, rfl, _, rfl, l1, _, _, _, rfl, rfl, q1, at1, ?_⟩⟩
          exact ⟨rfl, mm, some (z k), _, by rw [tk]; exact ends_down hE e0 (fun _ => rfl) (fun _ y => nomatch y), rfl⟩
        · refine ⟨_, rfl, _, rfl, iteDF (fun y => nomatch y) ⟨_, rfl, _, rfl, _, rfl, l1, _, _, _, rfl, rfl, q1, at1, _, _, rfl, ?_⟩⟩
          exact ⟨rfl, mm, some _, _, by rw [tk]; exact ends_down hE e0 (fun y => nomatch y) (fun _ y => by cases y; rfl), rfl⟩
    · rintro σ H6 ⟨rfl, mm, oo, x7, hE, rfl⟩
      rw [List.take_length] at hE
      obtain ⟨m0, hE⟩ := hE
      rcases oo with _ | l
      · refine ⟨_, rfl, _, rfl, iteEq rfl (iteT ?_)⟩
        refine ⟨_, rfl, _, rfl, by show 2 ≤ sizeLine; decide, fun T2 nT2 => ?_⟩
        refine q _ _ (some (mm, none)) (s5.trans (same_new nT2)) (fun m' h' y => ?_) (fun x x0 => ?_) (.inr ⟨T2, mm, none, rfl, rfl, upd_same⟩)
        · cases y
          exact ⟨m0, fun _ y => nomatch y⟩
        · rw [hx x, hE x x0, rng_some]
      · refine ⟨_, rfl, _, rfl, iteDF (fun y => nomatch y) ⟨_, rfl, _, rfl, _, _, rfl, rfl, _, rfl, ite2 (fun e => ?_) (fun e => ?_)⟩⟩
        · have ml := of_decide_eq_true e
          refine ⟨_, rfl, _, rfl, by show 2 ≤ sizeLine; decide, fun T2 nT2 => ?_⟩
          refine q _ _ (some (mm, some l)) (s5.trans (same_new nT2)) (fun m' h' y => ?_) (fun x x0 => ?_) (.inr ⟨T2, mm, some l, rfl, rfl, upd_same⟩)
          · cases y
            exact ⟨m0, fun _ y => by cases y; exact ml⟩
          · rw [hx x, hE x x0, rng_some]
        · have ml : ¬ mm ≤ l := fun y => e (decide_eq_true y)
          refine q _ _ none s5 (fun _ _ y => nomatch y) (fun x x0 => ⟨fun y => absurd y rng_none, fun y => ?_⟩) (.inl ⟨rfl, rfl⟩)
          obtain ⟨y1, y2⟩ := (hE x x0).mp ((hx x).mp y)
          have := y2 l rfl
          omega
end
end K46

namespace K46
open PySem PySem.Spec PyProof.Rows L2 Fa
theorem put_le {kvs : List (List Key × V)} {k : List Key} {c m : Int} (h : ∀ kv ∈ kvs, ∃ z : Int, kv.2 = .int z ∧ z ≤ c) (hm : m ≤ c) : ∀ kv ∈ putK kvs k (.int m), ∃ z : Int, kv.2 = .int z ∧ z ≤ c := fun kv hk => by
  unfold putK at hk
  split at hk
  · obtain ⟨q, hq, e⟩ := List.mem_map.mp hk
    split at e
    · rw [← e]
      exact ⟨m, rfl, hm⟩
    · rw [← e]
      exact h q hq
  · rcases List.mem_append.mp hk with z | z
    · exact h kv z
    · rw [List.mem_singleton.mp z]
      exact ⟨m, rfl, hm⟩
section
variable {P : Program} {w : World} {K : PySem.W.Frag} {mg : Str → Option Value} {base : Heap}
def spFam1 : Sp := fun vs H Q _ => ∃ (p qq : Addr) (n m c : Int), vs = [.ref p, .int n, .int m, .int c] ∧ BagAt H p qq ∧ 1 ≤ n ∧ n ≤ 30 ∧ 0 ≤ m ∧ m ≤ 100 ∧ 0 < c ∧ c ≤ 100000000000000000000000000000000 ∧
  ∀ H' a fam, Kp p H H' → H a = none → FamAt H' a fam → Fam n (c * m) fam → (∀ q ∈ fam, q.2 ≤ c) → (fam.length : Int) ≤ m → BagAt H' p qq → Q (.ref a) H'
theorem ok_fam1 {f : Addr} {fd : FuncData} {k : Nat} (F : Fun K "_law_family" "_law_family" s__law_family f fd) {f__law_draw : Addr} {d__law_draw : FuncData} (F__law_draw : Fun K "_law_draw" "_law_draw" s__law_draw f__law_draw d__law_draw) (G__law_draw : FnOk P w K mg base CX0 k f__law_draw d__law_draw ["bag", "wide"] spDraw) (b__law_draw : Binds K d__law_draw ["bag", "wide"] []) (g__law_draw : mg "_law_draw" = some (.ref f__law_draw)) {f__law_pattern : Addr} {d__law_pattern : FuncData} (F__law_pattern : Fun K "_law_pattern" "_law_pattern" s__law_pattern f__law_pattern d__law_pattern) (G__law_pattern : FnOk P w K mg base CX0 k f__law_pattern d__law_pattern ["bag", "many"] spPat0) (b__law_pattern : Binds K d__law_pattern ["bag", "many"] []) (g__law_pattern : mg "_law_pattern" = some (.ref f__law_pattern)) (m_range : mg "range" = none) (m_sorted : mg "sorted" = none) (m_list : mg "list" = none) : FnOk P w K mg base CX0 (k + 1) f fd ["bag", "many", "size", "far"] spFam1 := by
  have b_sorted : bootBuiltins "sorted" = some (.builtin "sorted") := by decide +kernel
  refine F.ok sc__law_family (fun vs H Q E h => ?_) (fun cdv A outer s H vs Q E hr h => ?_)
  · obtain ⟨p, qq, n, m, c, rfl, _⟩ := h
    rfl
  · obtain ⟨p, qq, n, m, c, rfl, hB, n1, n30, m0, m1, c0, c1, q⟩ := h
    refine ⟨_, (pss_cons (ps_set (i := 4) sc__law_family.nd rfl (by first | exact Or.inl rfl | exact Or.inr rfl) pe_dnewT)
  (pss_cons (ps_for PassesOwn.never rfl (pi_range1 (by rfl) m_range (pa_cons (pv 2) pa_nil)) (pg_name (i := 5) sc__law_family.nd rfl (by first | exact Or.inl rfl | exact Or.inr rfl)) (pss_one (ps_dput (hu_of hr) (pv 4) (pe_call G__law_pattern (hr.mono (by omega)) (by rfl) g__law_pattern F__law_pattern.kp b__law_pattern .nil pass0 (pa_cons (pv 0) (pa_cons (pv 1) pa_nil))) (pe_op op_add pe_int (pe_call G__law_draw (hr.mono (by omega)) (by rfl) g__law_draw F__law_draw.kp b__law_draw .nil pass0 (pa_cons (pv 0) (pa_cons (pv 3) pa_nil)))) rfl)))
  (pss_one (ps_ret (pe_callB (Fa.sortF K hr.units) (by rfl) m_sorted b_sorted (pa_cons (Fa.pe_liT rfl (by rfl) m_list (pv 4)) pa_nil)))))), ?_⟩
    refine fun fo nfo => ?_
    have nfp := hB.ne nfo
    have k0 : Kp p H (upd H fo (.dT [])) := kp_new nfo
    have hB0 := hB.far (o := .dT []) nfp
    have e0 : upd H fo (.dT []) fo = some (.dT []) := upd_same
    generalize upd H fo (.dT []) = H0 at k0 hB0 e0 ⊢
    refine ⟨_, rfl, m, rfl, by omega, by omega, ?_⟩
    refine for_range (lo := 0) (fun i σ H' => Kp p H H' ∧ BagAt H' p qq ∧ (∃ kvs, H' fo = some (.dT kvs) ∧ KvOk n c i kvs ∧ ∀ kv ∈ kvs, ∃ z : Int, kv.2 = .int z ∧ z ≤ c) ∧ ∃ y, σ = [some (.ref p), some (.int n), some (.int m), some (.int c), some (.ref fo), y]) ?_ ?_ ?_
    · exact ⟨k0, hB0, ⟨[], e0, kvOk_nil, fun _ h => nomatch h⟩, none, rfl⟩
    · rintro i σ H1 hi ⟨k1, hB1, ⟨kvs, e1, hk, hc⟩, y, rfl⟩
      refine ⟨_, rfl, _, rfl, p, qq, c, rfl, hB1, c0, lt3000 c1, fun H2 r b2 hB2 r0 r1 => ⟨_, _, rfl, rfl, ?_⟩⟩
      refine ⟨_, rfl, _, rfl, _, rfl, p, qq, n, rfl, hB2, n1, n30, fun H3 t ds k3 nt et hPat hB3 => ?_⟩
      have e3 := k3 _ _ nfp.1 ((b2 fo nfp.1).trans e1)
      have et' : H3 t = some (.tup ((ds.map Sum.inl).map kV)) := by
        rw [List.map_map]
        exact et
      refine ⟨fo, _, rfl, DPut.t e3 et' (small1000 (by have := hk.len; omega)), ?_⟩
      refine ⟨((k1.trans b2.kp).trans k3).mut nfo, hB3.far nfp, ⟨_, upd_same, ?_, put_le hc (by omega)⟩, _, rfl⟩
      refine kvOk_put hk (by omega) hPat (by omega) ?_
      rw [Int.mul_add]
      have : 0 ≤ c * (i : Int) := Int.mul_nonneg (by omega) (by omega)
      omega
    · rintro σ H1 ⟨k1, hB1, ⟨kvs, e1, hk, hc⟩, y, rfl⟩
      refine ⟨_, rfl, fo, kvs, rfl, e1, fun H2 l ts s2 nl el hP => ?_⟩
      have nlp := hB1.ne nl
      have k2 : Kp p H H2 := k1.trans (kp_same s2)
      have hP2 : Paired (FmAt H2) (ts.map V.ref) (famOf kvs) := by
        refine paired_of ?_ fun j x pt ex ep => ?_
        · rw [List.length_map, (famOf_all hk).2.2]
          exact paired_len hP
        · rw [List.getElem?_map] at ex
          cases et : ts[j]? with
          | none =>
            rw [et] at ex
            cases ex
          | some t =>
            rw [et] at ex
            cases ex
            obtain ⟨kv, ek, b, h1, h2⟩ := paired_at hP et
            obtain ⟨ds, mm, e1, e2, e3⟩ := famOf_at hk ek
            rw [e3] at ep
            cases ep
            rw [e1] at h2
            rw [e2] at h1
            refine ⟨t, b, rfl, h1, s2 _ _ ?_⟩
            rw [List.map_map] at h2
            exact h2
      obtain ⟨key, ekey, hkey⟩ := fm_key hP2
      refine ⟨l, ts.map V.ref, key, rfl, .inl (.inl el), fun x hx => ?_, fun ys r hs hp nr => ?_⟩
      · obtain ⟨t, b, e, h1, h2⟩ := hkey x hx
        exact ⟨t, b, e, h1, h2⟩
      obtain ⟨g1, g2, g3⟩ := fam_of_sorted hk ekey hkey hs hp
      have hB2 := hB1.same s2
      have nrp := hB2.ne nr
      refine q _ r (ys.map key) (k2.trans (kp_new nr)) (k2.free nrp.1 nr) ⟨ys, upd_same, L2.Paired.mapP g1 fun _ _ z => z.keep fun b us e => by rw [upd_ne (ne_of_none e nr)]; exact e⟩ ?_ (fun q hq => ?_) ?_ (hB2.far nrp)
      · rw [show ((m.toNat : Nat) : Int) = m by omega] at g2
        exact g2
      · have pm : (ys.map key).Perm (famOf kvs) := by
          rw [← ekey]
          exact hp.map key
        obtain ⟨j, hj⟩ := List.mem_iff_getElem?.mp (pm.mem_iff.mp hq)
        have lj : j < kvs.length := by
          have := (List.getElem?_eq_some_iff.mp hj).1
          rw [(famOf_all hk).2.2] at this
          exact this
        obtain ⟨ds, mm, e1, e2, e3⟩ := famOf_at hk (j := j) (k := kvs[j].1) (v := kvs[j].2) (List.getElem?_eq_getElem lj)
        rw [hj] at e3
        cases e3
        obtain ⟨z, ez, hz⟩ := hc kvs[j] (List.getElem_mem lj)
        rw [e2] at ez
        cases ez
        exact hz
      · omega
end
end K46

namespace K46
open PySem PySem.Spec PyProof.Rows L2 Fa
abbrev s_conflict_of : Stmt := topS 22
abbrev N_conflict_of : List Str := ["sheet", "conflicts"]
theorem sc_conflict_of : FnScope N_conflict_of ["sheet"] (defScope s_conflict_of) := ⟨rfl, rfl, rfl, by decide +kernel, rfl, by decide +kernel, by decide +kernel⟩
section
variable {P : Program} {w : World} {K : PySem.W.Frag} {mg : Str → Option Value} {base : Heap}
theorem ok_confof {f fS fC : Addr} {fd dS dC : FuncData} {k : Nat} (F : Fun K "conflict_of" "conflict_of" s_conflict_of f fd) (F_check_sheet : Fun K "check_sheet" "check_sheet" s_check_sheet fS dS) (G_check_sheet : FnOk P w K mg base CX0 k fS dS ["sheet"] spCkSh) (b_check_sheet : Binds K dS ["sheet"] []) (g_check_sheet : mg "check_sheet" = some (.ref fS))
    (F_conflicts_in : Fun K "conflicts_in" "conflicts_in" s_conflicts_in fC dC) (G_conflicts_in : FnOk P w K mg base CX0 k fC dC ["sheet"] spConf) (b_conflicts_in : Binds K dC ["sheet"] []) (g_conflicts_in : mg "conflicts_in" = some (.ref fC))
    (m_len : mg "len" = none) : FnOk P w K mg base CX0 (k + 1) f fd ["sheet"] spPoss := by
  refine F.ok sc_conflict_of (fun vs H Q E h => ?_) (fun cdv A outer s H vs Q E hr h => ?_)
  · obtain ⟨g, _, _, _, rfl, _⟩ := h
    rfl
  · obtain ⟨g, n, m, f, rfl, hS, hN, q⟩ := h
    refine ⟨_, (pss_cons (ps_expr (pe_call G_check_sheet (hr.mono (by omega)) (by rfl) g_check_sheet F_check_sheet.kp b_check_sheet .nil pass0 (pa_cons (pv 0) pa_nil)))
  (pss_cons (ps_set (i := 1) sc_conflict_of.nd rfl (by first | exact Or.inl rfl | exact Or.inr rfl) (pe_call G_conflicts_in (hr.mono (by omega)) (by rfl) g_conflicts_in F_conflicts_in.kp b_conflicts_in .nil pass0 (pa_cons (pv 0) pa_nil)))
  (pss_cons (ps_if (pt_cmpR op_eq (pe_callB (Fa.lenQ K) (by rfl) m_len PySem.boot_len (pa_cons (pv 1) pa_nil)) pe_int (nomark _)) (pss_one (ps_ret pe_non)) pss_nil)
  (pss_one (ps_ret (pe_ix (Fa.ixL K) (pv 1) pe_int (fun _ _ => rfl))))))), ?_⟩
    exact ⟨_, rfl, g, n, m, f, rfl, hS, fun H1 s1 => ⟨_, rfl, g, n, m, f, rfl, hS.same s1, hN, fun H2 l s2 nl el => ⟨_, rfl, l, _, rfl, .inl (.inl (.inl el)), rfl, _, rfl, iteEq rfl (q H2 (s1.trans s2))⟩⟩⟩
end
end K46

set_option maxHeartbeats 0
namespace K46
open PySem PySem.Spec PyProof.Rows L2 Fa
abbrev s__law_great_right : Stmt := topS 45
abbrev N__law_great_right : List Str := ["bag", "many", "wide", "far", "told", "k", "spot", "ago", "found", "due", "top", "number"]
theorem sc__law_great_right : FnScope N__law_great_right ["bag", "many"] (defScope s__law_great_right) := ⟨rfl, rfl, rfl, by decide +kernel, rfl, by decide +kernel, by decide +kernel⟩
theorem e27 : (10 : Int) ^ Int.toNat 27 = 1000000000000000000000000000 := by decide +kernel
theorem e28 : (10 : Int) ^ Int.toNat 28 = 10000000000000000000000000000 := by decide +kernel
theorem pw10 {n : Int} (h0 : 0 ≤ n) (h : n ≤ 64) : CPowW 10 n := ⟨h0, h, 10, by decide, by decide⟩
section
variable {P : Program} {w : World} {K : PySem.W.Frag} {mg : Str → Option Value} {base : Heap}
def spGreat : Sp := fun vs H Q _ => ∃ (p qq : Addr) (n : Nat), vs = [.ref p, .int n] ∧ BagAt H p qq ∧ 1 ≤ n ∧ n ≤ 30 ∧ ∀ H', Kp p H H' → BagAt H' p qq → Q (.bl true) H'
theorem ok_great {f : Addr} {fd : FuncData} {k : Nat} (F : Fun K "_law_great_right" "_law_great_right" s__law_great_right f fd) {f__law_draw : Addr} {d__law_draw : FuncData} (F__law_draw : Fun K "_law_draw" "_law_draw" s__law_draw f__law_draw d__law_draw) (G__law_draw : FnOk P w K mg base CX0 k f__law_draw d__law_draw ["bag", "wide"] spDraw) (b__law_draw : Binds K d__law_draw ["bag", "wide"] []) (g__law_draw : mg "_law_draw" = some (.ref f__law_draw)) {f__law_family : Addr} {d__law_family : FuncData} (F__law_family : Fun K "_law_family" "_law_family" s__law_family f__law_family d__law_family) (G__law_family : FnOk P w K mg base CX0 k f__law_family d__law_family ["bag", "many", "size", "far"] spFam1) (b__law_family : Binds K d__law_family ["bag", "many", "size", "far"] []) (g__law_family : mg "_law_family" = some (.ref f__law_family)) {f__law_rows : Addr} {d__law_rows : FuncData} (F__law_rows : Fun K "_law_rows" "_law_rows" s__law_rows f__law_rows d__law_rows) (G__law_rows : FnOk P w K mg base CX0 k f__law_rows d__law_rows ["family", "many", "wide"] spRows) (b__law_rows : Binds K d__law_rows ["family", "many", "wide"] []) (g__law_rows : mg "_law_rows" = some (.ref f__law_rows)) {f__law_bent : Addr} {d__law_bent : FuncData} (F__law_bent : Fun K "_law_bent" "_law_bent" s__law_bent f__law_bent d__law_bent) (G__law_bent : FnOk P w K mg base CX0 k f__law_bent d__law_bent ["bag", "told", "far"] spBent) (b__law_bent : Binds K d__law_bent ["bag", "told", "far"] []) (g__law_bent : mg "_law_bent" = some (.ref f__law_bent)) {f__law_with : Addr} {d__law_with : FuncData} (F__law_with : Fun K "_law_with" "_law_with" s__law_with f__law_with d__law_with) (G__law_with : FnOk P w K mg base CX0 k f__law_with d__law_with ["told", "spot", "ago", "number"] spWith) (b__law_with : Binds K d__law_with ["told", "spot", "ago", "number"] []) (g__law_with : mg "_law_with" = some (.ref f__law_with)) {f_value_range : Addr} {d_value_range : FuncData} (F_value_range : Fun K "value_range" "value_range" s_value_range f_value_range d_value_range) (G_value_range : FnOk P w K mg base CX0 k f_value_range d_value_range ["sheet", "day", "back"] spVRo) (b_value_range : Binds K d_value_range ["sheet", "day", "back"] []) (g_value_range : mg "value_range" = some (.ref f_value_range)) {f__law_due : Addr} {d__law_due : FuncData} (F__law_due : Fun K "_law_due" "_law_due" s__law_due f__law_due d__law_due) (G__law_due : FnOk P w K mg base CX0 k f__law_due d__law_due ["told", "spot", "ago"] spDue) (b__law_due : Binds K d__law_due ["told", "spot", "ago"] []) (g__law_due : mg "_law_due" = some (.ref f__law_due)) {f__law_alike : Addr} {d__law_alike : FuncData} (F__law_alike : Fun K "_law_alike" "_law_alike" s__law_alike f__law_alike d__law_alike) (G__law_alike : FnOk P w K mg base CX0 k f__law_alike d__law_alike ["found", "due"] (spAl 2)) (b__law_alike : Binds K d__law_alike ["found", "due"] []) (g__law_alike : mg "_law_alike" = some (.ref f__law_alike)) {f_conflict_of : Addr} {d_conflict_of : FuncData} (F_conflict_of : Fun K "conflict_of" "conflict_of" s_conflict_of f_conflict_of d_conflict_of) (G_conflict_of : FnOk P w K mg base CX0 k f_conflict_of d_conflict_of ["sheet"] spPoss) (b_conflict_of : Binds K d_conflict_of ["sheet"] []) (g_conflict_of : mg "conflict_of" = some (.ref f_conflict_of)) (m_len : mg "len" = none) (m_range : mg "range" = none) (m_list : mg "list" = none) (m_min : mg "min" = none) : FnOk P w K mg base CX0 (k + 1) f fd ["bag", "many"] spGreat := by
  refine F.ok sc__law_great_right (fun vs H Q E h => ?_) (fun cdv A outer s H vs Q E hr h => ?_)
  · obtain ⟨p, _, _, rfl, _⟩ := h
    rfl
  · obtain ⟨p, qq, n, rfl, hB, n1, n30, q⟩ := h
    refine ⟨_, (pss_cons (ps_set (i := 2) sc__law_great_right.nd rfl (by first | exact Or.inl rfl | exact Or.inr rfl) (pe_ix (Fa.ixL K) (pe_lst (pa_cons (pe_op op_add pe_int (pe_call G__law_draw (hr.mono (by omega)) (by rfl) g__law_draw F__law_draw.kp b__law_draw .nil pass0 (pa_cons (pv 0) (pa_cons (pv 1) pa_nil)))) (pa_cons (pe_op op_add pe_int (pe_call G__law_draw (hr.mono (by omega)) (by rfl) g__law_draw F__law_draw.kp b__law_draw .nil pass0 (pa_cons (pv 0) (pa_cons (pe_callB (call_min2 rfl) (by rfl) m_min PyProof.Rows.boot_min (pa_cons (pv 1) (pa_cons pe_int pa_nil))) pa_nil)))) pa_nil))) (pe_call G__law_draw (hr.mono (by omega)) (by rfl) g__law_draw F__law_draw.kp b__law_draw .nil pass0 (pa_cons (pv 0) (pa_cons pe_int pa_nil))) (fun _ _ => rfl)))
  (pss_cons (ps_set (i := 3) sc__law_great_right.nd rfl (by first | exact Or.inl rfl | exact Or.inr rfl) (pe_ix (Fa.ixL K) (pe_lst (pa_cons pe_int (pa_cons pe_int (pa_cons (pe_op Fa.op_powW pe_int pe_int) pa_nil)))) (pe_call G__law_draw (hr.mono (by omega)) (by rfl) g__law_draw F__law_draw.kp b__law_draw .nil pass0 (pa_cons (pv 0) (pa_cons pe_int pa_nil))) (fun _ _ => rfl)))
  (pss_cons (ps_set (i := 4) sc__law_great_right.nd rfl (by first | exact Or.inl rfl | exact Or.inr rfl) (pe_call G__law_rows (hr.mono (by omega)) (by rfl) g__law_rows F__law_rows.kp b__law_rows .nil pass0 (pa_cons (pe_call G__law_family (hr.mono (by omega)) (by rfl) g__law_family F__law_family.kp b__law_family .nil pass0 (pa_cons (pv 0) (pa_cons (pv 1) (pa_cons (pe_op op_add pe_int (pe_call G__law_draw (hr.mono (by omega)) (by rfl) g__law_draw F__law_draw.kp b__law_draw .nil pass0 (pa_cons (pv 0) (pa_cons pe_int pa_nil)))) (pa_cons (pv 3) pa_nil))))) (pa_cons (pv 1) (pa_cons (pv 2) pa_nil)))))
  (pss_cons (ps_for PassesOwn.never rfl (pi_range1 (by rfl) m_range (pa_cons (pe_call G__law_draw (hr.mono (by omega)) (by rfl) g__law_draw F__law_draw.kp b__law_draw .nil pass0 (pa_cons (pv 0) (pa_cons pe_int pa_nil))) pa_nil)) (pg_name (i := 5) sc__law_great_right.nd rfl (by first | exact Or.inl rfl | exact Or.inr rfl)) (pss_one (ps_set (i := 4) sc__law_great_right.nd rfl (by first | exact Or.inl rfl | exact Or.inr rfl) (pe_call G__law_bent (hr.mono (by omega)) (by rfl) g__law_bent F__law_bent.kp b__law_bent .nil pass0 (pa_cons (pv 0) (pa_cons (pv 4) (pa_cons (pe_ix (Fa.ixL K) (pe_lst (pa_cons pe_int (pa_cons (pv 3) (pa_cons (pe_op Fa.op_powW pe_int pe_int) pa_nil)))) (pe_call G__law_draw (hr.mono (by omega)) (by rfl) g__law_draw F__law_draw.kp b__law_draw .nil pass0 (pa_cons (pv 0) (pa_cons pe_int pa_nil))) (fun _ _ => rfl)) pa_nil)))))))
  (pss_cons (ps_set (i := 6) sc__law_great_right.nd rfl (by first | exact Or.inl rfl | exact Or.inr rfl) (pe_call G__law_draw (hr.mono (by omega)) (by rfl) g__law_draw F__law_draw.kp b__law_draw .nil pass0 (pa_cons (pv 0) (pa_cons (pv 1) pa_nil))))
  (pss_cons (ps_set (i := 7) sc__law_great_right.nd rfl (by first | exact Or.inl rfl | exact Or.inr rfl) (pe_call G__law_draw (hr.mono (by omega)) (by rfl) g__law_draw F__law_draw.kp b__law_draw .nil pass0 (pa_cons (pv 0) (pa_cons (pe_callB (Fa.lenQ K) (by rfl) m_len PySem.boot_len (pa_cons (pe_ix (Fa.ixL K) (pv 4) (pv 6) (fun _ _ => rfl)) pa_nil)) pa_nil))))
  (pss_cons (ps_par (i := 8) (j := 9) rfl sc__law_great_right.nd rfl rfl (by decide) rfl rfl (pa_cons (pe_call G_value_range (hr.mono (by omega)) (by rfl) g_value_range F_value_range.kp b_value_range .nil pass0 (pa_cons (pv 4) (pa_cons (pv 6) (pa_cons (pv 7) pa_nil)))) (pa_cons (pe_call G__law_due (hr.mono (by omega)) (by rfl) g__law_due F__law_due.kp b__law_due .nil pass0 (pa_cons (pv 4) (pa_cons (pv 6) (pa_cons (pv 7) pa_nil)))) pa_nil)) rfl)
  (pss_cons (ps_if (pt_not (pt_val (pe_call G__law_alike (hr.mono (by omega)) (by rfl) g__law_alike F__law_alike.kp b__law_alike .nil pass0 (pa_cons (pv 8) (pa_cons (pv 9) pa_nil))))) (pss_one (ps_ret pe_bl)) pss_nil)
  (pss_cons (ps_if (pt_cmp (pc_isN (pv 8))) (pss_one (ps_ret pe_bl)) pss_nil)
  (pss_cons (ps_if (pt_cmpR op_ne (pe_cmp (pc_isN (pe_ix (Fa.ixT K) (pv 8) pe_int (fun _ _ => rfl)))) (pe_cmpR op_eq (pv 2) pe_int (nomark _)) (nomark _)) (pss_one (ps_ret pe_bl)) pss_nil)
  (pss_cons (ps_set (i := 10) sc__law_great_right.nd rfl (by first | exact Or.inl rfl | exact Or.inr rfl) (pe_ifExp (pt_cmp (pc_isN (pe_ix (Fa.ixT K) (pv 8) pe_int (fun _ _ => rfl)))) (pe_op op_add (pe_ix (Fa.ixT K) (pv 8) pe_int (fun _ _ => rfl)) (pe_op op_mul pe_int (pv 3))) (pe_ix (Fa.ixT K) (pv 8) pe_int (fun _ _ => rfl))))
  (pss_cons (ps_for PassesOwn.never rfl (Fa.tupIQ K (pe_tup (pa_cons (pe_ix (Fa.ixT K) (pv 8) pe_int (fun _ _ => rfl)) (pa_cons (pv 10) (pa_cons (pe_op op_add (pe_ix (Fa.ixT K) (pv 8) pe_int (fun _ _ => rfl)) (pe_call G__law_draw (hr.mono (by omega)) (by rfl) g__law_draw F__law_draw.kp b__law_draw .nil pass0 (pa_cons (pv 0) (pa_cons (pe_op op_add (pe_op op_sub (pv 10) (pe_ix (Fa.ixT K) (pv 8) pe_int (fun _ _ => rfl))) pe_int) pa_nil)))) pa_nil))))) (pg_name (i := 11) sc__law_great_right.nd rfl (by first | exact Or.inl rfl | exact Or.inr rfl)) (pss_one (ps_if (pt_cmp (pc_notN (pe_call G_conflict_of (hr.mono (by omega)) (by rfl) g_conflict_of F_conflict_of.kp b_conflict_of .nil pass0 (pa_cons (pe_call G__law_with (hr.mono (by omega)) (by rfl) g__law_with F__law_with.kp b__law_with .nil pass0 (pa_cons (pv 4) (pa_cons (pv 6) (pa_cons (pv 7) (pa_cons (pv 11) pa_nil))))) pa_nil)))) (pss_one (ps_ret pe_bl)) pss_nil)))
  (pss_one (ps_ret pe_bl)))))))))))))), ?_⟩
    refine ⟨_, rfl, _, rfl, p, qq, n, rfl, hB, by omega, lt3000 (by omega), fun H1 r1 b1 hB1 r10 r11 => ⟨_, _, rfl, rfl, _, rfl, _, rfl, _, _, rfl, p, qq, _, rfl, hB1, by split <;> omega, lt3000 (by split <;> omega), fun H2 r2 b2 hB2 r20 r21 => ⟨_, _, rfl, rfl, by show 2 ≤ sizeLine; decide, fun l nl => ?_⟩⟩⟩
    have lp := hB2.ne nl
    refine ⟨_, rfl, p, qq, 2, rfl, hB2.far lp, by decide, lt3000 (by decide), fun H3 r3 b3 hB3 r30 r31 => ?_⟩
    obtain ⟨wd, eA, w1, wn⟩ : ∃ wd : Nat, atI [V.int (1 + r1), V.int (1 + r2)] r3 = some (V.int wd) ∧ 1 ≤ wd ∧ wd ≤ n := by
      have e : r3 = 0 ∨ r3 = 1 := by omega
      have r21 : r2 < n := by split at r21 <;> omega
      rcases e with rfl | rfl
      · exact ⟨(1 + r1).toNat, by show some (V.int (1 + r1)) = _; rw [Int.toNat_of_nonneg (by omega)], by omega, by omega⟩
      · exact ⟨(1 + r2).toNat, by show some (V.int (1 + r2)) = _; rw [Int.toNat_of_nonneg (by omega)], by omega, by omega⟩
    refine ⟨l, _, _, _, rfl, rfl, .inl (.inl ((b3 l lp.1).trans upd_same)), eA, ?_⟩
    have k3 : Kp p H H3 := ((b1.kp.trans b2.kp).trans (kp_new nl)).trans b3.kp
    -- far
    refine ⟨_, _, rfl, rfl, pw10 (by decide) (by decide), by show 3 ≤ sizeLine; decide, fun l2 nl2 => ?_⟩
    have lp2 := hB3.ne nl2
    refine ⟨_, rfl, p, qq, 3, rfl, hB3.far lp2, by decide, lt3000 (by decide), fun H4 r4 b4 hB4 r40 r41 => ?_⟩
    obtain ⟨far, eF, far1, far2⟩ : ∃ far : Int, atI [V.int 3, V.int 99, V.int (10 ^ Int.toNat 27)] r4 = some (V.int far) ∧ 1 ≤ far ∧ far ≤ 1000000000000000000000000000 := by
      have e : r4 = 0 ∨ r4 = 1 ∨ r4 = 2 := by omega
      rcases e with rfl | rfl | rfl
      · exact ⟨3, rfl, by decide, by decide⟩
      · exact ⟨99, rfl, by decide, by decide⟩
      · exact ⟨10 ^ Int.toNat 27, rfl, by rw [e27]; decide, by rw [e27]; decide⟩
    refine ⟨l2, _, _, _, rfl, rfl, .inl (.inl ((b4 l2 lp2.1).trans upd_same)), eF, ?_⟩
    have k4 : Kp p H H4 := (k3.trans (kp_new nl2)).trans b4.kp
    -- family, told
    refine ⟨_, rfl, _, rfl, _, rfl, p, qq, 20, rfl, hB4, by decide, lt3000 (by decide), fun H5 r5 b5 hB5 r50 r51 => ⟨_, _, rfl, rfl, _, rfl, p, qq, n, 1 + r5, far, rfl, hB5, by omega, by omega, by omega, by omega, by omega, by omega, fun H6 fa fam k6 nfa hF hfam hle hlen hB6 => ?_⟩⟩
    have hp : ∀ q ∈ fam, 0 ≤ q.2 ∧ q.2 ≤ far := fun q hq => ⟨by have := (hfam.bd q hq).1; omega, hle q hq⟩
    refine ⟨_, rfl, _, rfl, fa, fam, n, wd, rfl, hF, hfam.pat, by omega, by omega, fun H7 g0 rows0 s7 ng0 nr0 G0 => ?_⟩
    have hB7 := hB6.same s7
    have k7 : Kp p H H7 := ((k4.trans b5.kp).trans k6).trans (kp_same s7)
    have hf0 : Shf n wd (fun s => shRow fam s wd) := ⟨by omega, by omega, w1, wn, fun s _ => shRow_len fam s wd, fun s _ x hx => by
      obtain ⟨k, _, rfl⟩ := List.mem_map.mp hx
      exact unl_nonneg (fun q hq => (hp q hq).1) _ _⟩
    have f20 : ∀ s, s < n → ∀ x ∈ shRow fam s wd, x ≤ 20000000000000000000000000000 := fun s _ x hx => by
      obtain ⟨k, _, rfl⟩ := List.mem_map.mp hx
      have h1 := unl_le (c := far) hp ((s : Int) - (k : Int)) (s : Int)
      have h2 : far * (fam.length : Int) ≤ far * 20 := Int.mul_le_mul_of_nonneg_left (by omega) (by omega)
      omega
    -- bent
    refine ⟨_, rfl, p, qq, 3, rfl, hB7, by decide, lt3000 (by decide), fun H8 r8 b8 hB8 r80 r81 => ⟨_, rfl, by omega, by omega, ?_⟩⟩
    obtain ⟨N, rfl⟩ := Int.eq_ofNat_of_zero_le r80
    rw [Int.toNat_natCast]
    have N2 : N ≤ 2 := by omega
    refine for_range (lo := 0) (fun i σ H' => Kp p H H' ∧ BagAt H' p qq ∧ ∃ g rows f x5, GridAt H' g rows n f ∧ Shf n wd f ∧ g ≠ p ∧ p ∉ rows ∧ (∀ s, s < n → ∀ x ∈ f s, x ≤ 20000000000000000000000000000 + (i : Int) * 20000000000000000000000000000) ∧ σ = [some (.ref p), some (.int n), some (.int wd), some (.int far), some (.ref g), x5, none, none, none, none, none, none]) ?_ ?_ ?_
    · exact ⟨k7.trans b8.kp, hB8, g0, rows0, _, none, G0.kp b8.kp (hB6.ne ng0).1 (fun z => (hB6.ne (nr0 p z)).1 rfl), hf0, (hB6.ne ng0).1, fun z => (hB6.ne (nr0 p z)).1 rfl, fun s hs x hx => by have := f20 s hs x hx; omega, rfl⟩
    · rintro i σ H9 hi ⟨k9, hB9, g, rows, f, x5, G, hf, gp', rp, fC, rfl⟩
      refine ⟨_, rfl, _, rfl, _, rfl, _, _, rfl, rfl, pw10 (by decide) (by decide), by show 3 ≤ sizeLine; decide, fun l3 nl3 => ?_⟩
      have lp3 := hB9.ne nl3
      refine ⟨_, rfl, p, qq, 3, rfl, hB9.far lp3, by decide, lt3000 (by decide), fun H10 r10 b10 hB10 r100 r101 => ?_⟩
      obtain ⟨fa2, eF2, fa21, fa22⟩ : ∃ fa2 : Int, atI [V.int 2, V.int far, V.int (10 ^ Int.toNat 28)] r10 = some (V.int fa2) ∧ 0 ≤ fa2 ∧ fa2 ≤ 10000000000000000000000000000 := by
        have e : r10 = 0 ∨ r10 = 1 ∨ r10 = 2 := by omega
        rcases e with rfl | rfl | rfl
        · exact ⟨2, rfl, by decide, by decide⟩
        · exact ⟨far, rfl, by omega, by omega⟩
        · exact ⟨10 ^ Int.toNat 28, rfl, by rw [e28]; decide, by rw [e28]; decide⟩
      have kk : Kp p H9 H10 := (kp_new nl3).trans b10.kp
      refine ⟨l3, _, _, _, rfl, rfl, .inl (.inl ((b10 l3 lp3.1).trans upd_same)), eF2, p, qq, g, rows, n, wd, f, _, fa2, rfl, hB10, G.kp kk gp' rp, hf, gp', rp, by omega, fC, fa21, by omega, fun H11 g' rows' f' k11 ng' nr' G' hf' fC' hB11 => ?_⟩
      refine ⟨(k9.trans kk).trans k11, hB11, g', rows', f', _, G', hf', (hB10.ne ng').1, fun z => (hB10.ne (nr' p z)).1 rfl, fun s hs x hx => ?_, rfl⟩
      have := fC' s hs x hx
      rw [show ((i + 1 : Nat) : Int) = (i : Int) + 1 by omega, Int.add_mul]
      omega
    rintro σ H9 ⟨k9, hB9, g, rows, f, x5, G, hf, gp', rp, fC, rfl⟩
    have fC : ∀ s, s < n → ∀ x ∈ f s, x ≤ 60000000000000000000000000000 := fun s hs x hx => by
      have := fC s hs x hx
      omega
    refine ⟨_, rfl, _, rfl, p, qq, n, rfl, hB9, by omega, lt3000 (by omega), fun H10 sp b10 hB10 sp0 sp1 => ?_⟩
    obtain ⟨d, rfl⟩ := Int.eq_ofNat_of_zero_le sp0
    have G10 := G.kp b10.kp gp' rp
    obtain ⟨r, er, hr', hrow⟩ := G10.get (s := d) (by omega)
    have at1 : atI (rows.map V.ref) (d : Int) = some (.ref r) := atI_nat (by rw [List.getElem?_map, er]; rfl)
    have ln := hf.len d (by omega)
    refine ⟨_, rfl, _, rfl, _, rfl, g, _, _, _, rfl, rfl, .inl (.inl G10.top), at1, r, _, rfl, .inl (.inl (.inl hrow)), p, qq, _, rfl, hB10, by rw [List.length_map]; omega, lt3000 (by rw [List.length_map]; omega), fun H11 ag b11 hB11 ag0 ag1 => ?_⟩
    rw [List.length_map] at ag1
    obtain ⟨b, rfl⟩ := Int.eq_ofNat_of_zero_le ag0
    have bl : b < (f d).length := by omega
    have dn : d < n := by omega
    obtain ⟨t, et⟩ : ∃ t, (f d)[b]? = some t := ⟨_, List.getElem?_eq_getElem bl⟩
    have G11 := G10.kp b11.kp gp' rp
    have k11 : Kp p H H11 := (k9.trans b10.kp).trans b11.kp
    have sh : ShAt H11 g n wd f := ⟨⟨rows, G11⟩, hf⟩
    obtain ⟨o, ho⟩ := vr_is (n := n) (w := wd) bl et
    have tC := fC d dn t (List.mem_of_getElem? et)
    have oC : ∀ m h, o = some (m, h) → m ≤ 180000000000000000000000000000 ∧ ∀ l, h = some l → l ≤ 180000000000000000000000000000 := ho.bd _ (by decide) (fun l hl => by
      have := lows_bd hf (by decide) fC tC l hl
      omega) (fun l hl => by
      have := highs_bd hf (by decide) fC tC l hl
      omega)
    refine ⟨_, rfl, _, rfl, _, rfl, g, n, wd, f, d, b, t, o, rfl, sh, dn, bl, et, ho, fun H12 v s12 ov => ?_⟩
    refine ⟨_, rfl, _, rfl, _, rfl, g, n, wd, f, d, b, t, rfl, sh.same s12, dn, bl, et, fun H13 v2 o2 s13 nrm2 iff2 ov2 => ⟨_, _, rfl, ?_⟩⟩
    have eo : o2 = o := rng_ext nrm2 ho.nrm fun k => (iff2 k (by omega)).trans (ho.iff k (by omega)).symm
    subst eo
    have ov := ov.same s13
    refine ⟨_, rfl, _, rfl, _, _, rfl, ov.al ov2 1, fun H14 s14 => ⟨_, rfl, iteN0 rfl ?_⟩⟩
    have ov := ov.same s14
    have sh14 := ((sh.same s12).same s13).same s14
    have hB14 := ((hB11.same s12).same s13).same s14
    have k14 : Kp p H H14 := ((k11.trans (kp_same s12)).trans (kp_same s13)).trans (kp_same s14)
    rcases ov with ⟨rfl, rfl⟩ | ⟨T, m, h, rfl, rfl, eT⟩
    · exact ⟨_, rfl, _, rfl, iteEq rfl (q _ k14 hB14)⟩
    refine ⟨_, rfl, _, rfl, iteDF (fun z => nomatch z) ?_⟩
    obtain ⟨m0, m1⟩ := nrm2 m h rfl
    obtain ⟨mC, hC⟩ := oC m h rfl
    have w1h : V.bl (decide (oV h = .non)) = V.bl (decide (V.int wd = .int 1)) := by
      rcases h with _ | l
      · have : wd = 1 := by
          by_cases w2 : 2 ≤ wd
          · exact absurd (ho.up _ rfl) (highs_some hf dn bl w2)
          · omega
        rw [this]
        rfl
      · have : wd ≠ 1 := fun z => by
          subst z
          have l0 := m1 l rfl
          have := (rng_some.mp ((ho.iff (l + 1) (by omega)).mpr (nn_one (put_shf hf dn (by omega))))).2 l rfl
          omega
        rw [decide_eq_false (fun z => nomatch z), decide_eq_false (fun z => this (by have := V.int.inj z; omega))]
    refine ⟨_, rfl, T, _, _, _, rfl, rfl, .inl (.inl eT), rfl, _, rfl, rfl, rfl, _, rfl, iteNe w1h ?_⟩
    clear w1h
    rcases h with _ | l
    · refine ⟨_, rfl, T, _, _, _, rfl, rfl, .inl (.inl eT), rfl, _, rfl, iteEq rfl ⟨_, rfl, T, _, _, _, rfl, rfl, .inl (.inl eT), rfl, _, rfl, _, _, rfl, rfl, .inl ⟨by decide, by decide⟩, _, _, rfl, rfl, ?_⟩⟩
      have htop : m ≤ m + 9 * far := by omega
      have htopC : m + 9 * far ≤ 1000000000000000000000000000000 := by omega
      have htopR : rng (some (m, none)) (m + 9 * far) := rng_some.mpr ⟨by omega, fun _ z => nomatch z⟩
      show gName 10 (V.int (m + 9 * far)) _ _ _
      generalize m + 9 * far = top at htop htopC htopR ⊢
      refine ⟨_, rfl, T, _, _, _, rfl, rfl, .inl (.inl eT), rfl, _, rfl, _, rfl, T, _, _, _, rfl, rfl, .inl (.inl eT), rfl, _, rfl, _, rfl, _, rfl, T, _, _, _, rfl, rfl, .inl (.inl eT), rfl, _, _, rfl, rfl, _, _, rfl, rfl, p, qq, _, rfl, hB14, by omega, lt3000 (by omega), fun H15 r15 b15 hB15 r150 r151 => ⟨_, _, rfl, rfl, by show 3 ≤ sizeLine; decide, fun T3 nT3 => ?_⟩⟩
      have Tp3 := hB15.ne nT3
      have k16 : Kp p H14 (upd H15 T3 (.tup [.int m, .int top, .int (m + r15)])) := b15.kp.trans (kp_new nT3)
      have hB16 := hB15.far (o := .tup [.int m, .int top, .int (m + r15)]) Tp3
      have eT3 : upd H15 T3 (.tup [.int m, .int top, .int (m + r15)]) T3 = some (.tup [.int m, .int top, .int (m + r15)]) := upd_same
      generalize upd H15 T3 (.tup [.int m, .int top, .int (m + r15)]) = H16 at k16 hB16 eT3 ⊢
      refine ⟨T3, rfl, ⟨_, .inl (.inl eT3)⟩, ?_⟩
      refine for_it (walk_tup (xs := [.int m, .int top, .int (m + r15)])) (fun j σ H' => Kp p H16 H' ∧ BagAt H' p qq ∧ ∃ x11, σ = [some (.ref p), some (.int n), some (.int wd), some (.int far), some (.ref g), x5, some (.int d), some (.int b), some (.ref T), some v2, some (.int top), x11]) ?_ ?_ ?_ ?_
      · exact ⟨Kp.refl _ _, hB16, _, rfl⟩
      · rintro j σ H17 _ ⟨k17, _⟩
        exact .inl (.inl (k17 _ _ Tp3.1 eT3))
      · rintro j v' σ _ H17 hj ⟨k17, hB17, x11, rfl⟩ ⟨rfl, ev⟩
        have top2 := (rng_some.mp htopR).2
        obtain ⟨x, rfl, x0, xr⟩ : ∃ x : Int, v' = .int x ∧ 0 ≤ x ∧ rng (some (m, none)) x := by
          have e : j = 0 ∨ j = 1 ∨ j = 2 := by
            have : j < 3 := hj
            omega
          rcases e with rfl | rfl | rfl <;> cases ev
          · exact ⟨m, rfl, m0, rng_some.mpr ⟨by omega, m1⟩⟩
          · exact ⟨top, rfl, by omega, htopR⟩
          · exact ⟨m + r15, rfl, by omega, rng_some.mpr ⟨by omega, fun l z => by have := top2 l z; omega⟩⟩
        have sh17 : ShAt H17 g n wd f := ⟨⟨rows, (((G11.same s12).same s13).same s14).kp (k16.trans k17) gp' rp⟩, hf⟩
        refine ⟨_, rfl, _, rfl, _, rfl, _, rfl, g, n, wd, f, d, b, x, rfl, sh17, dn, bl, x0, fun H18 g' rows' s18 ng' nr' G' hf' => ⟨g', n, wd, _, rfl, ⟨⟨rows', G'⟩, hf'⟩, (ho.iff x x0).mp xr, fun H19 s19 => ⟨_, rfl, isN_non ?_⟩⟩⟩
        exact ⟨(k17.trans (kp_same s18)).trans (kp_same s19), (hB17.same s18).same s19, _, rfl⟩
      · rintro σ H17 ⟨k17, hB17, x11, rfl⟩
        exact q _ ((k14.trans k16).trans k17) hB17
    · refine ⟨_, rfl, T, _, _, _, rfl, rfl, .inl (.inl eT), rfl, _, rfl, iteDF (fun z => nomatch z) ⟨_, rfl, T, _, _, _, rfl, rfl, .inl (.inl eT), rfl, ?_⟩⟩
      have htop := m1 l rfl
      have htopC : l ≤ 1000000000000000000000000000000 := by have := hC l rfl; omega
      have htopR : rng (some (m, some l)) l := rng_some.mpr ⟨by omega, fun _ z => by cases z; omega⟩
      show gName 10 (V.int l) _ _ _
      obtain ⟨top, el⟩ : ∃ top, top = l := ⟨_, rfl⟩
      rw [← el] at htop htopC htopR
      rw [show rng (some (m, some top)) top ↔ rng (some (m, some l)) top from by rw [el]] at htopR
      rw [← el]
      refine ⟨_, rfl, T, _, _, _, rfl, rfl, .inl (.inl eT), rfl, _, rfl, _, rfl, T, _, _, _, rfl, rfl, .inl (.inl eT), rfl, _, rfl, _, rfl, _, rfl, T, _, _, _, rfl, rfl, .inl (.inl eT), rfl, _, _, rfl, rfl, _, _, rfl, rfl, p, qq, _, rfl, hB14, by omega, lt3000 (by omega), fun H15 r15 b15 hB15 r150 r151 => ⟨_, _, rfl, rfl, by show 3 ≤ sizeLine; decide, fun T3 nT3 => ?_⟩⟩
      have Tp3 := hB15.ne nT3
      have k16 : Kp p H14 (upd H15 T3 (.tup [.int m, .int top, .int (m + r15)])) := b15.kp.trans (kp_new nT3)
      have hB16 := hB15.far (o := .tup [.int m, .int top, .int (m + r15)]) Tp3
      have eT3 : upd H15 T3 (.tup [.int m, .int top, .int (m + r15)]) T3 = some (.tup [.int m, .int top, .int (m + r15)]) := upd_same
      generalize upd H15 T3 (.tup [.int m, .int top, .int (m + r15)]) = H16 at k16 hB16 eT3 ⊢
      refine ⟨T3, rfl, ⟨_, .inl (.inl eT3)⟩, ?_⟩
      refine for_it (walk_tup (xs := [.int m, .int top, .int (m + r15)])) (fun j σ H' => Kp p H16 H' ∧ BagAt H' p qq ∧ ∃ x11, σ = [some (.ref p), some (.int n), some (.int wd), some (.int far), some (.ref g), x5, some (.int d), some (.int b), some (.ref T), some v2, some (.int top), x11]) ?_ ?_ ?_ ?_
      · exact ⟨Kp.refl _ _, hB16, _, rfl⟩
      · rintro j σ H17 _ ⟨k17, _⟩
        exact .inl (.inl (k17 _ _ Tp3.1 eT3))
      · rintro j v' σ _ H17 hj ⟨k17, hB17, x11, rfl⟩ ⟨rfl, ev⟩
        have top2 := (rng_some.mp htopR).2
        obtain ⟨x, rfl, x0, xr⟩ : ∃ x : Int, v' = .int x ∧ 0 ≤ x ∧ rng (some (m, some _)) x := by
          have e : j = 0 ∨ j = 1 ∨ j = 2 := by
            have : j < 3 := hj
            omega
          rcases e with rfl | rfl | rfl <;> cases ev
          · exact ⟨m, rfl, m0, rng_some.mpr ⟨by omega, m1⟩⟩
          · exact ⟨top, rfl, by omega, htopR⟩
          · exact ⟨m + r15, rfl, by omega, rng_some.mpr ⟨by omega, fun l z => by have := top2 l z; omega⟩⟩
        have sh17 : ShAt H17 g n wd f := ⟨⟨rows, (((G11.same s12).same s13).same s14).kp (k16.trans k17) gp' rp⟩, hf⟩
        refine ⟨_, rfl, _, rfl, _, rfl, _, rfl, g, n, wd, f, d, b, x, rfl, sh17, dn, bl, x0, fun H18 g' rows' s18 ng' nr' G' hf' => ⟨g', n, wd, _, rfl, ⟨⟨rows', G'⟩, hf'⟩, (ho.iff x x0).mp xr, fun H19 s19 => ⟨_, rfl, isN_non ?_⟩⟩⟩
        exact ⟨(k17.trans (kp_same s18)).trans (kp_same s19), (hB17.same s18).same s19, _, rfl⟩
      · rintro σ H17 ⟨k17, hB17, x11, rfl⟩
        exact q _ ((k14.trans k16).trans k17) hB17
end
end K46

set_option maxHeartbeats 0
namespace K46
open PySem PySem.Spec PyProof.Rows L2 Fa
abbrev s__law_small_right : Stmt := topS 42
abbrev N__law_small_right : List Str := ["bag", "many", "wide", "told", "spot", "ago", "before", "good", "due", "found", "row", "number"]
theorem sc__law_small_right : FnScope N__law_small_right ["bag"] (defScope s__law_small_right) := ⟨rfl, rfl, rfl, by decide +kernel, rfl, by decide +kernel, by decide +kernel⟩
theorem filt (lo hi : Nat) : ∀ N : Nat, (List.range N).filter (fun k => decide (lo ≤ k) && decide (k ≤ hi)) = (List.range (min (hi + 1) N - lo)).map fun i => lo + i
  | 0 => by
    rw [show min (hi + 1) 0 - lo = 0 by omega]
    rfl
  | N + 1 => by
    rw [List.range_succ, List.filter_append, filt lo hi N]
    by_cases c : lo ≤ N ∧ N ≤ hi
    · rw [show min (hi + 1) (N + 1) - lo = (min (hi + 1) N - lo) + 1 by omega, List.range_succ, List.map_append]
      congr 1
      rw [List.filter_cons, decide_eq_true c.1, decide_eq_true c.2]
      show [N] = [lo + (min (hi + 1) N - lo)]
      rw [show lo + (min (hi + 1) N - lo) = N by omega]
    · rw [show min (hi + 1) (N + 1) - lo = min (hi + 1) N - lo by omega]
      have : List.filter (fun k => decide (lo ≤ k) && decide (k ≤ hi)) [N] = [] := by
        rw [List.filter_cons]
        have z : (decide (lo ≤ N) && decide (N ≤ hi)) = false := by
          rw [Bool.eq_false_iff]
          intro y
          obtain ⟨y1, y2⟩ := He.ba y
          exact c ⟨of_decide_eq_true y1, of_decide_eq_true y2⟩
        rw [z]
        rfl
      rw [this, List.append_nil]
theorem iteE {b : Bool} {A B : Prop} (h : b = true) (a : A) : if b = true then A else B := by
  rw [if_pos h]
  exact a
theorem eqv_nil (gs : List Int) : PyData.eqv (.list (gs.map PyData.int)) (.list []) = decide (gs = []) := by
  cases gs with
  | nil => rfl
  | cons x r => rfl
theorem rg_nums (M c : Nat) : rgV (M : Int) ((M : Int) + (c : Int)) = (nums (fun i => (M : Int) + (i : Int)) c).map V.int := by
  unfold rgV nums
  rw [List.map_map, show ((M : Int) + (c : Int) - (M : Int)).toNat = c by omega]
  rfl
theorem nums_at0 {M c : Nat} (h : 1 ≤ c) : atI ((nums (fun i => (M : Int) + (i : Int)) c).map V.int) 0 = some (.int M) :=
  atI_int (by decide) (by
    unfold nums
    rw [List.getElem?_map, List.getElem?_map, List.getElem?_range (by show 0 < c; omega)]
    show some (V.int ((M : Int) + ((0 : Nat) : Int))) = _
    rw [show (M : Int) + ((0 : Nat) : Int) = (M : Int) by omega])
theorem nums_atL {M c : Nat} (h : 1 ≤ c) : atI ((nums (fun i => (M : Int) + (i : Int)) c).map V.int) (-1) = some (.int ((M : Int) + (c : Int) - 1)) :=
  atI_neg1 (by
    rw [List.length_map, nums_len]
    unfold nums
    rw [List.getElem?_map, List.getElem?_map, List.getElem?_range (by omega)]
    show some (V.int ((M : Int) + ((c - 1 : Nat) : Int))) = _
    congr 2
    omega) (fun z => by
    have := congrArg List.length z
    rw [List.length_map, nums_len] at this
    simp only [List.length_nil] at this
    omega)
def okB (L : NumL) (t a d : Int) (k : Nat) : Bool := !badN L a d && ((lows L t a d).all (fun l => decide (l ≤ (k : Int))) && (highs L t a d).all (fun h => decide ((k : Int) ≤ h)))
section
variable {P : Program} {w : World} {K : PySem.W.Frag} {mg : Str → Option Value} {base : Heap}
def spSmall : Sp := fun vs H Q _ => ∃ (p qq : Addr), vs = [.ref p] ∧ BagAt H p qq ∧ ∀ H', Kp p H H' → BagAt H' p qq → Q (.bl true) H'
theorem ok_small {f : Addr} {fd : FuncData} {k : Nat} (F : Fun K "_law_small_right" "_law_small_right" s__law_small_right f fd) {f__law_draw : Addr} {d__law_draw : FuncData} (F__law_draw : Fun K "_law_draw" "_law_draw" s__law_draw f__law_draw d__law_draw) (G__law_draw : FnOk P w K mg base CX0 k f__law_draw d__law_draw ["bag", "wide"] spDraw) (b__law_draw : Binds K d__law_draw ["bag", "wide"] []) (g__law_draw : mg "_law_draw" = some (.ref f__law_draw)) {f__law_family : Addr} {d__law_family : FuncData} (F__law_family : Fun K "_law_family" "_law_family" s__law_family f__law_family d__law_family) (G__law_family : FnOk P w K mg base CX0 k f__law_family d__law_family ["bag", "many", "size", "far"] spFam1) (b__law_family : Binds K d__law_family ["bag", "many", "size", "far"] []) (g__law_family : mg "_law_family" = some (.ref f__law_family)) {f__law_rows : Addr} {d__law_rows : FuncData} (F__law_rows : Fun K "_law_rows" "_law_rows" s__law_rows f__law_rows d__law_rows) (G__law_rows : FnOk P w K mg base CX0 k f__law_rows d__law_rows ["family", "many", "wide"] spRows) (b__law_rows : Binds K d__law_rows ["family", "many", "wide"] []) (g__law_rows : mg "_law_rows" = some (.ref f__law_rows)) {f__law_bent : Addr} {d__law_bent : FuncData} (F__law_bent : Fun K "_law_bent" "_law_bent" s__law_bent f__law_bent d__law_bent) (G__law_bent : FnOk P w K mg base CX0 k f__law_bent d__law_bent ["bag", "told", "far"] spBent) (b__law_bent : Binds K d__law_bent ["bag", "told", "far"] []) (g__law_bent : mg "_law_bent" = some (.ref f__law_bent)) {f__law_possible : Addr} {d__law_possible : FuncData} (F__law_possible : Fun K "_law_possible" "_law_possible" s__law_possible f__law_possible d__law_possible) (G__law_possible : FnOk P w K mg base CX0 k f__law_possible d__law_possible ["told"] spPos) (b__law_possible : Binds K d__law_possible ["told"] []) (g__law_possible : mg "_law_possible" = some (.ref f__law_possible)) {f__law_with : Addr} {d__law_with : FuncData} (F__law_with : Fun K "_law_with" "_law_with" s__law_with f__law_with d__law_with) (G__law_with : FnOk P w K mg base CX0 k f__law_with d__law_with ["told", "spot", "ago", "number"] spWith) (b__law_with : Binds K d__law_with ["told", "spot", "ago", "number"] []) (g__law_with : mg "_law_with" = some (.ref f__law_with)) {f_value_range : Addr} {d_value_range : FuncData} (F_value_range : Fun K "value_range" "value_range" s_value_range f_value_range d_value_range) (G_value_range : FnOk P w K mg base CX0 k f_value_range d_value_range ["sheet", "day", "back"] spVRo) (b_value_range : Binds K d_value_range ["sheet", "day", "back"] []) (g_value_range : mg "value_range" = some (.ref f_value_range)) {f__law_alike : Addr} {d__law_alike : FuncData} (F__law_alike : Fun K "_law_alike" "_law_alike" s__law_alike f__law_alike d__law_alike) (G__law_alike : FnOk P w K mg base CX0 k f__law_alike d__law_alike ["found", "due"] (spAl 2)) (b__law_alike : Binds K d__law_alike ["found", "due"] []) (g__law_alike : mg "_law_alike" = some (.ref f__law_alike)) (m_len : mg "len" = none) (m_range : mg "range" = none) (m_list : mg "list" = none) : FnG P w K mg base (k + 1) f fd ["bag"] spSmall := by
  refine funG F sc__law_small_right (fun vs H Q E h => ?_) (fun cdv A outer s H vs Q E hr ng h => ?_)
  · obtain ⟨p, _, rfl, _⟩ := h
    rfl
  · obtain ⟨p, qq, rfl, hB, q⟩ := h
    refine ⟨_, (pss_cons (ps_set (i := 1) sc__law_small_right.nd rfl (by first | exact Or.inl rfl | exact Or.inr rfl) (pe_op op_add pe_int (pe_call G__law_draw (hr.mono (by omega)) (by rfl) g__law_draw F__law_draw.kp b__law_draw .nil pass0 (pa_cons (pv 0) (pa_cons pe_int pa_nil)))))
  (pss_cons (ps_set (i := 2) sc__law_small_right.nd rfl (by first | exact Or.inl rfl | exact Or.inr rfl) (pe_op op_add pe_int (pe_call G__law_draw (hr.mono (by omega)) (by rfl) g__law_draw F__law_draw.kp b__law_draw .nil pass0 (pa_cons (pv 0) (pa_cons (pv 1) pa_nil)))))
  (pss_cons (ps_set (i := 3) sc__law_small_right.nd rfl (by first | exact Or.inl rfl | exact Or.inr rfl) (pe_call G__law_bent (hr.mono (by omega)) (by rfl) g__law_bent F__law_bent.kp b__law_bent .nil pass0 (pa_cons (pv 0) (pa_cons (pe_call G__law_rows (hr.mono (by omega)) (by rfl) g__law_rows F__law_rows.kp b__law_rows .nil pass0 (pa_cons (pe_call G__law_family (hr.mono (by omega)) (by rfl) g__law_family F__law_family.kp b__law_family .nil pass0 (pa_cons (pv 0) (pa_cons (pv 1) (pa_cons (pe_call G__law_draw (hr.mono (by omega)) (by rfl) g__law_draw F__law_draw.kp b__law_draw .nil pass0 (pa_cons (pv 0) (pa_cons pe_int pa_nil))) (pa_cons pe_int pa_nil))))) (pa_cons (pv 1) (pa_cons (pv 2) pa_nil)))) (pa_cons pe_int pa_nil)))))
  (pss_cons (ps_set (i := 4) sc__law_small_right.nd rfl (by first | exact Or.inl rfl | exact Or.inr rfl) (pe_call G__law_draw (hr.mono (by omega)) (by rfl) g__law_draw F__law_draw.kp b__law_draw .nil pass0 (pa_cons (pv 0) (pa_cons (pv 1) pa_nil))))
  (pss_cons (ps_asg (pe_tup (pa_cons (pe_call G__law_draw (hr.mono (by omega)) (by rfl) g__law_draw F__law_draw.kp b__law_draw .nil pass0 (pa_cons (pv 0) (pa_cons (pe_callB (Fa.lenQ K) (by rfl) m_len PySem.boot_len (pa_cons (pe_ix (Fa.ixL K) (pv 3) (pv 4) (fun _ _ => rfl)) pa_nil)) pa_nil))) (pa_cons (pe_lc (own := [("row", 10)]) (g := (gName 10)) (tt := tYes) rfl sc__law_small_right.nd (Fa.listQ K (pv 3)) (blkOk_by (N := N__law_small_right) (sc := defScope s__law_small_right) (by decide +kernel)) (fun _ _ _ _ _ => (pg_name (i := 10) sc__law_small_right.nd rfl (by first | exact Or.inl rfl | exact Or.inr rfl))) (fun _ _ _ _ _ => pts_nil) (fun _ _ _ _ _ => (pe_callTy (Fa.lstQ K) (by rfl) m_list PyProof.Rows.boot_list (pa_cons (pv 10) pa_nil)))) pa_nil))) (pg_tup rfl (pgs_cons (pg_name (i := 5) sc__law_small_right.nd rfl (by first | exact Or.inl rfl | exact Or.inr rfl)) (pgs_cons (pg_name (i := 6) sc__law_small_right.nd rfl (by first | exact Or.inl rfl | exact Or.inr rfl)) pgs_nil))))
  (pss_cons (ps_setLc (i := 7) (own := [("number", 11)]) (g := (gName 11)) rfl sc__law_small_right.nd rfl rfl (sw_true rfl rfl rfl (by decide +kernel)) (pi_range1 (by rfl) m_range (pa_cons pe_int pa_nil)) (blkOk_by (N := N__law_small_right) (sc := defScope s__law_small_right) (by decide +kernel)) (fun _ _ _ _ _ => (pg_name (i := 11) sc__law_small_right.nd rfl (by first | exact Or.inl rfl | exact Or.inr rfl))) (fun _ _ _ _ _ => (pts_one (pt_val (pe_call G__law_possible (hr.mono (by omega)) (by rfl) g__law_possible F__law_possible.kp b__law_possible .nil pass0 (pa_cons (pe_call G__law_with (hr.mono (by omega)) (by rfl) g__law_with F__law_with.kp b__law_with .nil pass0 (pa_cons (pv 3) (pa_cons (pv 4) (pa_cons (pv 5) (pa_cons (pv 11) pa_nil))))) pa_nil))))) (fun _ _ _ _ _ => (pv 11)))
  (pss_cons (ps_set (i := 8) sc__law_small_right.nd rfl (by first | exact Or.inl rfl | exact Or.inr rfl) (pe_ifExp (pt_cmpR (Fa.neQ K hr.units) (pv 7) (pe_lst pa_nil) (nomark _)) (pe_tup (pa_cons (pe_ix (Fa.ixL K) (pv 7) pe_int (fun _ _ => rfl)) (pa_cons (pe_ix (Fa.ixL K) (pv 7) (pe_un un_neg pe_int) (fun _ _ => rfl)) pa_nil))) pe_non))
  (pss_cons (ps_if (PW.pt (pw_and (pt_cmpR (Fa.neQ K hr.units) (pv 7) (pe_lst pa_nil) (nomark _)) (pw_and1 (pt_cmpR op_eq (pe_ix (Fa.ixL K) (pv 7) (pe_un un_neg pe_int) (fun _ _ => rfl)) pe_int (nomark _))))) (pss_one (ps_set (i := 8) sc__law_small_right.nd rfl (by first | exact Or.inl rfl | exact Or.inr rfl) (pe_tup (pa_cons (pe_ix (Fa.ixL K) (pv 7) pe_int (fun _ _ => rfl)) (pa_cons pe_non pa_nil))))) pss_nil)
  (pss_cons (ps_if (PW.pt (pw_and (pt_cmpR (Fa.neQ K hr.units) (pv 7) (pe_lst pa_nil) (nomark _)) (pw_and1 (pt_cmpR (Fa.neQ K hr.units) (pv 7) (pe_listRg rfl (by rfl) m_list (prg_2 (by rfl) m_range (pe_ix (Fa.ixL K) (pv 7) pe_int (fun _ _ => rfl)) (pe_op op_add (pe_ix (Fa.ixL K) (pv 7) (pe_un un_neg pe_int) (fun _ _ => rfl)) pe_int))) (nomark _))))) (pss_one (ps_ret pe_bl)) pss_nil)
  (pss_cons (ps_set (i := 9) sc__law_small_right.nd rfl (by first | exact Or.inl rfl | exact Or.inr rfl) (Fa.pe_callGK (FnG.of G_value_range) (hr.mono (by omega)) ng (by rfl) g_value_range F_value_range.kp (Fa.kbRev (ks := ["back", "day", "sheet"]) F_value_range (fun _ _ _ _ _ _ us ws hu hw => match us, ws, hu, hw with | [], [_, _, _], _, _ => rfl)) (pk_cons (pv 5) (pk_cons (pv 4) (pk_cons (pv 3) pk_nil)))))
  (pss_one (ps_ret (pe_and (pe_call G__law_alike (hr.mono (by omega)) (by rfl) g__law_alike F__law_alike.kp b__law_alike .nil pass0 (pa_cons (pv 9) (pa_cons (pv 8) pa_nil))) (pe_and (pe_cmpR (Fa.eqQ K hr.units) (pv 3) (pv 6) (nomark _)) (pe_one (pe_or (pe_cmp (pc_isN (pv 8))) (pe_or (pe_cmp (pc_notN (pe_ix (Fa.ixT K) (pv 8) pe_int (fun _ _ => rfl)))) (pe_one (pe_cmpR op_eq (pv 2) pe_int (nomark _)))))))))))))))))))), ?_⟩
    refine ⟨_, rfl, p, qq, 5, rfl, hB, by decide, lt3000 (by decide), fun H1 r1 b1 hB1 r10 r11 => ⟨_, _, rfl, rfl, ?_⟩⟩
    obtain ⟨n, en, n1, n5⟩ : ∃ n : Nat, (1 : Int) + r1 = n ∧ 1 ≤ n ∧ n ≤ 5 := ⟨(1 + r1).toNat, by omega, by omega, by omega⟩
    show gName 1 (V.int (1 + r1)) _ _ _
    rw [en]
    refine ⟨_, rfl, _, rfl, p, qq, n, rfl, hB1, by omega, lt3000 (by omega), fun H2 r2 b2 hB2 r20 r21 => ⟨_, _, rfl, rfl, ?_⟩⟩
    obtain ⟨wd, ew, w1, wn⟩ : ∃ wd : Nat, (1 : Int) + r2 = wd ∧ 1 ≤ wd ∧ wd ≤ n := ⟨(1 + r2).toNat, by omega, by omega, by omega⟩
    show gName 2 (V.int (1 + r2)) _ _ _
    rw [ew]
    have k2 : Kp p H H2 := b1.kp.trans b2.kp
    refine ⟨_, rfl, _, rfl, _, rfl, _, rfl, p, qq, 5, rfl, hB2, by decide, lt3000 (by decide), fun H3 r3 b3 hB3 r30 r31 => ?_⟩
    refine ⟨p, qq, n, r3, 2, rfl, hB3, by omega, by omega, r30, by omega, by decide, by decide, fun H4 fa fam k4 nfa hF hfam hle hlen hB4 => ?_⟩
    have hp : ∀ q ∈ fam, 0 ≤ q.2 ∧ q.2 ≤ 2 := fun q hq => ⟨by have := (hfam.bd q hq).1; omega, hle q hq⟩
    refine ⟨_, rfl, _, rfl, fa, fam, n, wd, rfl, hF, hfam.pat, by omega, by omega, fun H5 g0 rows0 s5 ng0 nr0 G0 => ?_⟩
    have hB5 := hB4.same s5
    have hf0 : Shf n wd (fun s => shRow fam s wd) := ⟨by omega, by omega, w1, wn, fun s _ => shRow_len fam s wd, fun s _ x hx => by
      obtain ⟨k, _, rfl⟩ := List.mem_map.mp hx
      exact unl_nonneg (fun q hq => (hp q hq).1) _ _⟩
    have f8 : ∀ s, s < n → ∀ x ∈ shRow fam s wd, x ≤ 8 := fun s _ x hx => by
      obtain ⟨k, _, rfl⟩ := List.mem_map.mp hx
      have := unl_le (c := 2) hp ((s : Int) - (k : Int)) (s : Int)
      omega
    refine ⟨p, qq, g0, rows0, n, wd, _, 8, 2, rfl, hB5, G0, hf0, (hB4.ne ng0).1, fun z => (hB4.ne (nr0 p z)).1 rfl, by decide, f8, by decide, by decide, fun H6 g rows f k6 ng' nr G hf fC hB6 => ?_⟩
    have gp' : g ≠ p := (hB5.ne ng').1
    have rp : p ∉ rows := fun z => (hB5.ne (nr p z)).1 rfl
    have k06 : Kp p H H6 := (((k2.trans b3.kp).trans k4).trans (kp_same s5)).trans k6
    refine ⟨_, rfl, _, rfl, p, qq, n, rfl, hB6, by omega, lt3000 (by omega), fun H7 sp b7 hB7 sp0 sp1 => ?_⟩
    obtain ⟨d, rfl⟩ := Int.eq_ofNat_of_zero_le sp0
    have G7 := G.kp b7.kp gp' rp
    obtain ⟨r, er, hr', hrow⟩ := G7.get (s := d) (by omega)
    have at1 : atI (rows.map V.ref) (d : Int) = some (.ref r) := atI_nat (by rw [List.getElem?_map, er]; rfl)
    have ln := hf.len d (by omega)
    refine ⟨_, rfl, _, rfl, _, rfl, g, _, _, _, rfl, rfl, .inl (.inl G7.top), at1, r, _, rfl, .inl (.inl (.inl hrow)), p, qq, _, rfl, hB7, by rw [List.length_map]; omega, lt3000 (by rw [List.length_map]; omega), fun H8 ag b8 hB8 ag0 ag1 => ?_⟩
    rw [List.length_map] at ag1
    obtain ⟨b, rfl⟩ := Int.eq_ofNat_of_zero_le ag0
    have bl : b < (f d).length := by omega
    obtain ⟨t, et⟩ : ∃ t, (f d)[b]? = some t := ⟨_, List.getElem?_eq_getElem bl⟩
    have G8 := G7.kp b8.kp gp' rp
    have k08 : Kp p H H8 := (k06.trans b7.kp).trans b8.kp
    refine ⟨_, rfl, g, rfl, ⟨_, .inl (.inl G8.top)⟩, fun D nD => ?_⟩
    refine lc_it (walk_list (xs := rows.map V.ref)) (fun i H2 => Same H8 H2 ∧ ∃ rs, GridAt H2 D rs i f ∧ ∀ r ∈ rs, H8 r = none) ?_ ?_ ?_ ?_
    · exact ⟨same_new nD, [], gridAt_nil upd_same, fun r z => (List.not_mem_nil z).elim⟩
    · rintro i H2 _ ⟨s2, _⟩
      exact .inl (.inl (s2 _ _ G8.top))
    · rintro i v _ H2 hi ⟨s2, rs, G2, fr⟩ ⟨rfl, ev⟩
      rw [List.length_map, G8.cnt] at hi
      obtain ⟨r, er, hr', hrow⟩ := G8.get (s := i) hi
      rw [List.getElem?_map, er] at ev
      cases ev
      refine ⟨rfl, yes_if ⟨_, rfl, r, _, rfl, .inl (.inl (.inl (s2 _ _ hrow))), fun z nz => ?_⟩⟩
      obtain ⟨a1, a2, a3, a4⟩ := grow_step s2 nD G2 nz rfl (by omega)
      refine ⟨_, a1, a2, a3, _, a4, fun q hq => ?_⟩
      rcases List.mem_append.mp hq with z | z
      · exact fr q z
      · rw [List.mem_singleton.mp z]
        exact s2.free nz
    rintro H9 ⟨s9, rs, GB, fr⟩
    rw [List.length_map, G8.cnt] at GB
    refine ⟨by show 2 ≤ sizeLine; decide, fun T nT => ⟨T, _, rfl, .inl (.inl upd_same), rfl, _, _, rfl, _, _, rfl, rfl, ?_⟩⟩
    have sT := same_new (o := .tup [.int b, .ref D]) nT
    have s10 := s9.trans sT
    have GB := GB.same sT
    show tSeq _ _ _ _ (upd H9 T (.tup [.int b, .ref D]))
    generalize upd H9 T (.tup [.int b, .ref D]) = H10 at s10 GB ⊢
    have hS10 : ShAt H10 g n wd f := ⟨⟨rows, G8.same s10⟩, hf⟩
    obtain ⟨L, eL⟩ : ∃ L, L = numK f n wd := ⟨_, rfl⟩
    have iff : ∀ k : Nat, NN (put f d b (k : Int)) n wd ↔ okB L t ((d : Int) - (b : Int)) d k = true := fun k => by
      rw [← allNN_iff, vals_iff bl et, ← eL]
      unfold okB
      simp only [Bool.and_eq_true, Bool.not_eq_true', List.all_eq_true, decide_eq_true_iff]
    refine ⟨62, rfl, by decide, by decide, fun D2 nD2 => ?_⟩
    refine lc_range (lo := 0) (fun i H' => Same H10 H' ∧ H' D2 = some (.lst ((((List.range i).filter fun k : Nat => okB L t ((d : Int) - (b : Int)) d k).map fun k : Nat => (k : Int)).map V.int))) ?_ ?_ ?_
    · exact ⟨same_new nD2, upd_same⟩
    · rintro i H11 hi ⟨s11, e11⟩
      have tk : (List.range (i + 1)).filter (fun k : Nat => okB L t ((d : Int) - (b : Int)) d k) = (List.range i).filter (fun k : Nat => okB L t ((d : Int) - (b : Int)) d k) ++ if okB L t ((d : Int) - (b : Int)) d i = true then [i] else [] := by
        rw [List.range_succ, List.filter_append]
        congr 1
        show List.filter _ [i] = _
        rw [List.filter_cons, List.filter_nil]
      refine ⟨rfl, ?_⟩
      rw [Int.zero_add]
      refine ⟨_, rfl, _, rfl, _, rfl, _, rfl, g, n, wd, f, d, b, (i : Int), rfl, hS10.same s11, by omega, bl, by omega, fun H12 g' rows' s12 ng2 nr2 G' hf' => ?_⟩
      refine ⟨g', n, wd, _, rfl, ⟨⟨rows', G'⟩, hf'⟩, fun N H13 s13 => ⟨_, rfl, ite2 (fun _ => ?_) fun z => absurd rfl z⟩, fun N H13 s13 => ⟨_, rfl, ite2 (fun z => by cases z) fun _ => ?_⟩⟩
      · have y := (iff i).mp N
        refine ⟨_, rfl, _, s13 _ _ (s12 _ _ e11), ?_, fun c o z => ?_, ?_⟩
        · rw [List.length_map, List.length_map]
          refine small1000 (Nat.le_trans (List.length_filter_le _ _) ?_)
          rw [List.length_range]
          have : i < 62 := hi
          omega
        · rw [upd_ne (ne_of_none z nD2)]
          exact s13 _ _ (s12 _ _ (s11 _ _ z))
        · rw [upd_same, tk, if_pos y, List.map_append, List.map_append]
          rfl
      · have y : ¬ okB L t ((d : Int) - (b : Int)) d i = true := fun z => N ((iff i).mpr z)
        refine ⟨(s11.trans s12).trans s13, ?_⟩
        rw [tk, if_neg y, List.append_nil]
        exact s13 _ _ (s12 _ _ e11)
    · rintro H11 ⟨s11, e11⟩
      obtain ⟨o, ho⟩ := vr_is (n := n) (w := wd) bl et
      have tC := fC d (by omega) t (List.mem_of_getElem? et)
      have C36 : ∀ m h, o = some (m, h) → m ≤ 36 ∧ ∀ l, h = some l → l ≤ 36 := ho.bd 36 (by decide) (fun l hl => by
        have := lows_bd hf (C := 8 + 2 * 2) (by decide) fC tC l hl
        omega) (fun l hl => by
        have := highs_bd hf (C := 8 + 2 * 2) (by decide) fC tC l hl
        omega)
      have ok : ∀ k : Nat, okB L t ((d : Int) - (b : Int)) d k = true ↔ rng o k := fun k => (iff k).symm.trans (ho.iff k (by omega)).symm
      obtain ⟨M, c, eG, c62, sh⟩ : ∃ M c : Nat, (List.range 62).filter (fun k => okB L t ((d : Int) - (b : Int)) d k) = (List.range c).map (fun i => M + i) ∧ c ≤ 62 ∧ ((c = 0 ∧ o = none) ∨ (1 ≤ c ∧ M + c = 62 ∧ wd = 1 ∧ o = some ((M : Int), none)) ∨ (1 ≤ c ∧ M + c ≤ 61 ∧ o = some ((M : Int), some ((M : Int) + (c : Int) - 1)))) := by
        rcases o with _ | ⟨m, h⟩
        · refine ⟨0, 0, ?_, by decide, .inl ⟨rfl, rfl⟩⟩
          show _ = []
          rw [List.filter_eq_nil_iff]
          exact fun k _ z => rng_none ((ok k).mp z)
        · obtain ⟨m0, m1⟩ := ho.nrm m h rfl
          obtain ⟨m36, h36⟩ := C36 m h rfl
          obtain ⟨M, rfl⟩ := Int.eq_ofNat_of_zero_le m0
          rcases h with _ | l
          · refine ⟨M, 62 - M, ?_, by omega, .inr (.inl ⟨by omega, by omega, ?_, rfl⟩)⟩
            · rw [show 62 - M = min (61 + 1) 62 - M by omega, ← filt M 61 62]
              refine List.filter_congr fun k hk => ?_
              have := List.mem_range.mp hk
              rw [Bool.eq_iff_iff, ok k, rng_some, Bool.and_eq_true, decide_eq_true_iff, decide_eq_true_iff]
              exact ⟨fun z => ⟨by omega, by omega⟩, fun z => ⟨by omega, fun _ y => nomatch y⟩⟩
            · by_cases w2 : 2 ≤ wd
              · exact absurd (ho.up _ rfl) (highs_some hf (by omega) bl w2)
              · omega
          · have l0 := m1 l rfl
            have l36 := h36 l rfl
            obtain ⟨l, rfl⟩ := Int.eq_ofNat_of_zero_le (show 0 ≤ l by omega)
            refine ⟨M, l + 1 - M, ?_, by omega, .inr (.inr ⟨by omega, by omega, ?_⟩)⟩
            · rw [show l + 1 - M = min (l + 1) 62 - M by omega, ← filt M l 62]
              refine List.filter_congr fun k hk => ?_
              rw [Bool.eq_iff_iff, ok k, rng_some, Bool.and_eq_true, decide_eq_true_iff, decide_eq_true_iff]
              exact ⟨fun z => ⟨by omega, by have := z.2 _ rfl; omega⟩, fun z => ⟨by omega, fun _ y => by cases y; omega⟩⟩
            · rw [show ((l + 1 - M : Nat) : Int) = (l : Int) + 1 - (M : Int) by omega]
              congr 3
              omega
      have e11 : H11 D2 = some (.lst ((nums (fun i => (M : Int) + (i : Int)) c).map V.int)) := by
        rw [show (62 : Int).toNat = 62 from rfl] at e11
        rw [e11, eG, List.map_map, List.map_map]
        unfold nums
        rw [List.map_map]
        rfl
      have hp8 := hB8
      have sh8 : ∀ {H' : Hp}, Same H10 H' → ShAt H' g n wd f := fun s => hS10.same s
      have dp3 : ∀ {H' : Hp}, Same H10 H' → Dp K H' (.ref g) (gridD n f) := fun s => (G8.same (s10.trans s)).dp
      have dp6 : ∀ {H' : Hp}, Same H10 H' → Dp K H' (.ref D) (gridD n f) := fun s => (GB.same s).dp
      have fin : ∀ {H' : Hp}, Same H10 H' → Q (.bl true) H' := fun s => q _ (k08.trans (kp_same (s10.trans s))) (hB8.same (s10.trans s))
      have shG := (gridD_shp 0 n f).shaped (by decide)
      generalize egs : nums (fun i => (M : Int) + (i : Int)) c = gs at e11
      have gl : gs.length = c := by rw [← egs, nums_len]
      rcases sh with ⟨c0, ho0⟩ | ⟨c1, M62, wd1, ho1⟩ | ⟨c1, M61, ho2⟩
      · have gs0 : gs = [] := List.length_eq_zero_iff.mp (by omega)
        subst gs0
        refine ⟨_, rfl, Nat.zero_le _, fun z nz => ⟨.list [], .list [], lst_dp (l := []) (same_new nz _ _ e11), .lst (.inl (.inl upd_same)) .nil, (shp_ints 0 []).shaped (by decide), rfl, _, rfl, iteF ?_⟩⟩
        have s12 := s11.trans (same_new (o := .lst []) nz)
        have e12 := same_new (o := .lst []) nz _ _ e11
        show gName 8 V.non _ (upd H11 z (.lst [])) _
        generalize upd H11 z (.lst []) = H12 at s12 e12 ⊢
        refine ⟨_, rfl, Nat.zero_le _, fun z nz => ⟨.list [], .list [], lst_dp (l := []) (same_new nz _ _ e12), .lst (.inl (.inl upd_same)) .nil, (shp_ints 0 []).shaped (by decide), rfl, _, rfl, iteF ?_⟩⟩
        have s13 := s12.trans (same_new (o := .lst []) nz)
        have e13 := same_new (o := .lst []) nz _ _ e12
        generalize upd H12 z (.lst []) = H13 at s13 e13 ⊢
        refine iteF ?_
        refine ⟨_, rfl, Nat.zero_le _, fun z nz => ⟨.list [], .list [], lst_dp (l := []) (same_new nz _ _ e13), .lst (.inl (.inl upd_same)) .nil, (shp_ints 0 []).shaped (by decide), rfl, _, rfl, iteF ?_⟩⟩
        have s14 := s13.trans (same_new (o := .lst []) nz)
        generalize upd H13 z (.lst []) = H14 at s14 ⊢
        refine iteF ?_
        refine ⟨_, rfl, _, rfl, _, rfl, rfl, g, n, wd, f, d, b, t, o, rfl, sh8 s14, by omega, bl, et, ho, fun H15 v s15 ov => ?_⟩
        rw [ho0] at ov
        have s15 := s14.trans s15
        refine ⟨_, rfl, _, rfl, _, _, rfl, ov.al (.inl ⟨rfl, rfl⟩) 1, fun H16 s16 => ⟨_, rfl, iteT ?_⟩⟩
        have s16 := s15.trans s16
        refine ⟨_, rfl, _, rfl, _, _, dp3 s16, dp6 s16, shG, shG, _, rfl, iteE (eqv_same _ (gridD_shp 0 n _).1) ?_⟩
        exact ⟨_, rfl, _, rfl, iteEq rfl (fin s16)⟩
      · have gs0 : gs ≠ [] := fun z => by
          rw [z] at gl
          simp only [List.length_nil] at gl
          omega
        have a0 := nums_at0 (M := M) c1
        have aL := nums_atL (M := M) c1
        rw [egs] at a0 aL
        have nn : ∀ {A B : Prop}, A → if (!PyData.eqv (.list (gs.map PyData.int)) (.list [])) = true then A else B := fun {A B} a => by
          rw [eqv_nil, decide_eq_false gs0]
          exact iteT a
        refine ⟨_, rfl, Nat.zero_le _, fun z nz => ⟨.list (gs.map PyData.int), .list [], lst_dp (same_new nz _ _ e11), .lst (.inl (.inl upd_same)) .nil, (shp_ints 0 gs).shaped (by decide), rfl, _, rfl, nn ?_⟩⟩
        have s12 := s11.trans (same_new (o := .lst []) nz)
        have e12 := same_new (o := .lst []) nz _ _ e11
        generalize upd H11 z (.lst []) = H12 at s12 e12 ⊢
        refine ⟨_, rfl, D2, _, _, _, rfl, rfl, .inl (.inl e12), a0, _, rfl, 1, rfl, D2, _, _, _, rfl, rfl, .inl (.inl e12), aL, by show 2 ≤ sizeLine; decide, fun T1 nT1 => ?_⟩
        have s13 := s12.trans (same_new (o := .tup [.int M, .int ((M : Int) + (c : Int) - 1)]) nT1)
        have e13 := same_new (o := .tup [.int M, .int ((M : Int) + (c : Int) - 1)]) nT1 _ _ e12
        have eT1 : upd H12 T1 (.tup [.int M, .int ((M : Int) + (c : Int) - 1)]) T1 = some (.tup [.int M, .int ((M : Int) + (c : Int) - 1)]) := upd_same
        show gName 8 (V.ref T1) _ (upd H12 T1 (.tup [.int M, .int ((M : Int) + (c : Int) - 1)])) _
        generalize upd H12 T1 (.tup [.int M, .int ((M : Int) + (c : Int) - 1)]) = H13 at s13 e13 eT1 ⊢
        refine ⟨_, rfl, Nat.zero_le _, fun z nz => ⟨.list (gs.map PyData.int), .list [], lst_dp (same_new nz _ _ e13), .lst (.inl (.inl upd_same)) .nil, (shp_ints 0 gs).shaped (by decide), rfl, _, rfl, nn ?_⟩⟩
        have s14 := s13.trans (same_new (o := .lst []) nz)
        have e14 := same_new (o := .lst []) nz _ _ e13
        have eT1 := same_new (o := .lst []) nz _ _ eT1
        generalize upd H13 z (.lst []) = H14 at s14 e14 eT1 ⊢
        refine ⟨_, rfl, 1, rfl, D2, _, _, _, rfl, rfl, .inl (.inl e14), aL, rfl, _, rfl, iteEq (by congr 1; omega) ?_⟩
        refine ⟨_, rfl, D2, _, _, _, rfl, rfl, .inl (.inl e14), a0, by show 2 ≤ sizeLine; decide, fun T nT => ?_⟩
        have s15 := s14.trans (same_new (o := .tup [.int M, .non]) nT)
        have e15 := same_new (o := .tup [.int M, .non]) nT _ _ e14
        have eT : upd H14 T (.tup [.int M, .non]) T = some (.tup [.int M, .non]) := upd_same
        show gName 8 (V.ref T) _ (upd H14 T (.tup [.int M, .non])) _
        generalize upd H14 T (.tup [.int M, .non]) = H15 at s15 e15 eT ⊢
        refine ⟨_, rfl, Nat.zero_le _, fun z nz => ⟨.list (gs.map PyData.int), .list [], lst_dp (same_new nz _ _ e15), .lst (.inl (.inl upd_same)) .nil, (shp_ints 0 gs).shaped (by decide), rfl, _, rfl, nn ?_⟩⟩
        have s16 := s15.trans (same_new (o := .lst []) nz)
        have e16 := same_new (o := .lst []) nz _ _ e15
        have eT := same_new (o := .lst []) nz _ _ eT
        generalize upd H15 z (.lst []) = H16 at s16 e16 eT ⊢
        refine ⟨_, rfl, _, rfl, D2, _, _, _, rfl, rfl, .inl (.inl e16), a0, _, rfl, 1, rfl, D2, _, _, _, rfl, rfl, .inl (.inl e16), aL, _, _, rfl, rfl, _, _, rfl, rfl, RgOk.of_le (by omega) (by omega) (by omega) (by omega), fun q' nq => ?_⟩
        have er : rgV (M : Int) ((M : Int) + (c : Int) - 1 + 1) = gs.map V.int := by
          rw [show (M : Int) + (c : Int) - 1 + 1 = (M : Int) + (c : Int) by omega, rg_nums, egs]
        rw [er]
        have s17 := s16.trans (same_new (o := .lst (gs.map V.int)) nq)
        have eT := same_new (o := .lst (gs.map V.int)) nq _ _ eT
        refine ⟨_, _, lst_dp (same_new (o := .lst (gs.map V.int)) nq _ _ e16), lst_dp upd_same, (shp_ints 0 gs).shaped (by decide), (shp_ints 0 gs).shaped (by decide), _, rfl, iteN0 (eqv_same _ (shp_ints 0 gs).1) ?_⟩
        show tSeq _ _ _ _ (upd H16 q' (.lst (gs.map V.int)))
        generalize upd H16 q' (.lst (gs.map V.int)) = H17 at s17 eT ⊢
        refine ⟨_, rfl, _, rfl, _, rfl, rfl, g, n, wd, f, d, b, t, o, rfl, sh8 s17, by omega, bl, et, ho, fun H18 v s18 ov => ?_⟩
        rw [ho1] at ov
        have eT := s18 _ _ eT
        have s18 := s17.trans s18
        refine ⟨_, rfl, _, rfl, _, _, rfl, ov.al (.inr ⟨T, _, none, rfl, rfl, eT⟩) 1, fun H19 s19 => ⟨_, rfl, iteT ?_⟩⟩
        have eT := s19 _ _ eT
        have s19 := s18.trans s19
        refine ⟨_, rfl, _, rfl, _, _, dp3 s19, dp6 s19, shG, shG, _, rfl, iteE (eqv_same _ (gridD_shp 0 n _).1) ?_⟩
        refine ⟨_, rfl, _, rfl, iteDF (fun z => nomatch z) ⟨_, rfl, T, _, _, _, rfl, rfl, .inl (.inl eT), rfl, _, rfl, ?_⟩⟩
        refine isN_non ⟨_, rfl, rfl, ?_⟩
        rw [wd1]
        exact fin s19
      · have gs0 : gs ≠ [] := fun z => by
          rw [z] at gl
          simp only [List.length_nil] at gl
          omega
        have a0 := nums_at0 (M := M) c1
        have aL := nums_atL (M := M) c1
        rw [egs] at a0 aL
        have nn : ∀ {A B : Prop}, A → if (!PyData.eqv (.list (gs.map PyData.int)) (.list [])) = true then A else B := fun {A B} a => by
          rw [eqv_nil, decide_eq_false gs0]
          exact iteT a
        refine ⟨_, rfl, Nat.zero_le _, fun z nz => ⟨.list (gs.map PyData.int), .list [], lst_dp (same_new nz _ _ e11), .lst (.inl (.inl upd_same)) .nil, (shp_ints 0 gs).shaped (by decide), rfl, _, rfl, nn ?_⟩⟩
        have s12 := s11.trans (same_new (o := .lst []) nz)
        have e12 := same_new (o := .lst []) nz _ _ e11
        generalize upd H11 z (.lst []) = H12 at s12 e12 ⊢
        refine ⟨_, rfl, D2, _, _, _, rfl, rfl, .inl (.inl e12), a0, _, rfl, 1, rfl, D2, _, _, _, rfl, rfl, .inl (.inl e12), aL, by show 2 ≤ sizeLine; decide, fun T1 nT1 => ?_⟩
        have s13 := s12.trans (same_new (o := .tup [.int M, .int ((M : Int) + (c : Int) - 1)]) nT1)
        have e13 := same_new (o := .tup [.int M, .int ((M : Int) + (c : Int) - 1)]) nT1 _ _ e12
        have eT1 : upd H12 T1 (.tup [.int M, .int ((M : Int) + (c : Int) - 1)]) T1 = some (.tup [.int M, .int ((M : Int) + (c : Int) - 1)]) := upd_same
        show gName 8 (V.ref T1) _ (upd H12 T1 (.tup [.int M, .int ((M : Int) + (c : Int) - 1)])) _
        generalize upd H12 T1 (.tup [.int M, .int ((M : Int) + (c : Int) - 1)]) = H13 at s13 e13 eT1 ⊢
        refine ⟨_, rfl, Nat.zero_le _, fun z nz => ⟨.list (gs.map PyData.int), .list [], lst_dp (same_new nz _ _ e13), .lst (.inl (.inl upd_same)) .nil, (shp_ints 0 gs).shaped (by decide), rfl, _, rfl, nn ?_⟩⟩
        have s14 := s13.trans (same_new (o := .lst []) nz)
        have e14 := same_new (o := .lst []) nz _ _ e13
        have eT1 := same_new (o := .lst []) nz _ _ eT1
        generalize upd H13 z (.lst []) = H14 at s14 e14 eT1 ⊢
        refine ⟨_, rfl, 1, rfl, D2, _, _, _, rfl, rfl, .inl (.inl e14), aL, rfl, _, rfl, iteDF (fun z => by have := V.int.inj z; omega) ?_⟩
        have s15 := s14
        have e15 := e14
        have eT := eT1
        refine ⟨_, rfl, Nat.zero_le _, fun z nz => ⟨.list (gs.map PyData.int), .list [], lst_dp (same_new nz _ _ e15), .lst (.inl (.inl upd_same)) .nil, (shp_ints 0 gs).shaped (by decide), rfl, _, rfl, nn ?_⟩⟩
        have s16 := s15.trans (same_new (o := .lst []) nz)
        have e16 := same_new (o := .lst []) nz _ _ e15
        have eT := same_new (o := .lst []) nz _ _ eT
        generalize upd H14 z (.lst []) = H16 at s16 e16 eT ⊢
        refine ⟨_, rfl, _, rfl, D2, _, _, _, rfl, rfl, .inl (.inl e16), a0, _, rfl, 1, rfl, D2, _, _, _, rfl, rfl, .inl (.inl e16), aL, _, _, rfl, rfl, _, _, rfl, rfl, RgOk.of_le (by omega) (by omega) (by omega) (by omega), fun q' nq => ?_⟩
        have er : rgV (M : Int) ((M : Int) + (c : Int) - 1 + 1) = gs.map V.int := by
          rw [show (M : Int) + (c : Int) - 1 + 1 = (M : Int) + (c : Int) by omega, rg_nums, egs]
        rw [er]
        have s17 := s16.trans (same_new (o := .lst (gs.map V.int)) nq)
        have eT := same_new (o := .lst (gs.map V.int)) nq _ _ eT
        refine ⟨_, _, lst_dp (same_new (o := .lst (gs.map V.int)) nq _ _ e16), lst_dp upd_same, (shp_ints 0 gs).shaped (by decide), (shp_ints 0 gs).shaped (by decide), _, rfl, iteN0 (eqv_same _ (shp_ints 0 gs).1) ?_⟩
        show tSeq _ _ _ _ (upd H16 q' (.lst (gs.map V.int)))
        generalize upd H16 q' (.lst (gs.map V.int)) = H17 at s17 eT ⊢
        refine ⟨_, rfl, _, rfl, _, rfl, rfl, g, n, wd, f, d, b, t, o, rfl, sh8 s17, by omega, bl, et, ho, fun H18 v s18 ov => ?_⟩
        rw [ho2] at ov
        have eT := s18 _ _ eT
        have s18 := s17.trans s18
        refine ⟨_, rfl, _, rfl, _, _, rfl, ov.al (.inr ⟨T1, _, some _, rfl, rfl, eT⟩) 1, fun H19 s19 => ⟨_, rfl, iteT ?_⟩⟩
        have eT := s19 _ _ eT
        have s19 := s18.trans s19
        refine ⟨_, rfl, _, rfl, _, _, dp3 s19, dp6 s19, shG, shG, _, rfl, iteE (eqv_same _ (gridD_shp 0 n _).1) ?_⟩
        refine ⟨_, rfl, _, rfl, iteDF (fun z => nomatch z) ⟨_, rfl, T1, _, _, _, rfl, rfl, .inl (.inl eT), rfl, _, rfl, ?_⟩⟩
        exact isN_int (fin s19)
end
end K46

/-! written lists: of numbers, of rows, of sheets -/
namespace Fa
open PySem PySem.Spec PyProof.Rows L2
def lits : List Int → TA
  | [] => tNil
  | n :: r => tCons (tC (.int n)) (lits r)
theorem lits_ok : ∀ (ns : List Int) (σ : L2.St) (H : Hp) (Q : List V → Hp → Prop), Q (ns.map V.int) H → lits ns σ H Q
  | [], _, _, _, q => q
  | n :: r, σ, H, Q, q => lits_ok r σ H (fun xs H2 => Q (.int n :: xs) H2) q
theorem litI {ns : List Int} {σ : L2.St} {H : Hp} {Q : VK} (hl : ns.length ≤ 900) (q : ∀ H' l, Same H H' → H l = none → H' l = some (.lst (ns.map V.int)) → Q (.ref l) H') : tLst (lits ns) σ H Q :=
  lits_ok ns σ H _ ⟨by rw [List.length_map]; exact Nat.le_of_lt (small1000 (by omega)), fun l nl => q _ l (same_new nl) nl upd_same⟩
def glits : List (List Int) → TA
  | [] => tNil
  | ns :: r => tCons (tLst (lits ns)) (glits r)
theorem glits_ok : ∀ (nss : List (List Int)) (σ : L2.St) (H : Hp) (Q : List V → Hp → Prop), (∀ ns ∈ nss, ns.length ≤ 900) →
    (∀ (H' : Hp) (rows : List Addr), Same H H' → (∀ r ∈ rows, H r = none) → rows.length = nss.length → rows.Nodup → (∀ (s : Nat) (r : Addr), rows[s]? = some r → H' r = some (.lst ((nss.getD s []).map V.int))) → Q (rows.map V.ref) H') → glits nss σ H Q
  | [], _, H, _, _, q => q H [] (Same.refl H) (fun _ z => (List.not_mem_nil z).elim) rfl List.nodup_nil fun s r e => by cases e
  | ns :: r, σ, H, Q, h, q => by
    show tLst (lits ns) σ H (fun x H1 => glits r σ H1 fun xs H2 => Q (x :: xs) H2)
    refine litI (h ns List.mem_cons_self) fun H1 l s1 nl e1 => ?_
    refine glits_ok r σ H1 _ (fun x hx => h x (List.mem_cons_of_mem _ hx)) fun H2 rows s2 fr cnt nd row => ?_
    refine q H2 (l :: rows) (s1.trans s2) (fun x hx => ?_) (by rw [List.length_cons, cnt]; rfl) (List.nodup_cons.mpr ⟨fun z => ?_, nd⟩) fun s x e => ?_
    · rcases List.mem_cons.mp hx with rfl | hx
      · exact nl
      · exact s1.free (fr x hx)
    · have := fr l z
      rw [e1] at this
      cases this
    · cases s with
      | zero =>
        cases e
        exact s2 _ _ e1
      | succ s => exact row s x e
def litF (nss : List (List Int)) : Nat → List Int := fun s => nss.getD s []
def litD (nss : List (List Int)) : PyData := gridD nss.length (litF nss)
theorem litG {nss : List (List Int)} {σ : L2.St} {H : Hp} {Q : VK} (hl : nss.length ≤ 900) (h : ∀ ns ∈ nss, ns.length ≤ 900)
    (q : ∀ H' g rows, Same H H' → H g = none → (∀ r ∈ rows, H r = none) → GridAt H' g rows nss.length (litF nss) → Q (.ref g) H') : tLst (glits nss) σ H Q := by
  refine glits_ok nss σ H _ h fun H1 rows s1 fr cnt nd row => ⟨by rw [List.length_map, cnt]; exact Nat.le_of_lt (small1000 (by omega)), fun g ng => ?_⟩
  have out : g ∉ rows := fun z => by
    obtain ⟨j, hj, e⟩ := List.mem_iff_getElem.mp z
    have := row j g (by rw [List.getElem?_eq_getElem hj, e])
    rw [ng] at this
    cases this
  exact q _ g rows (s1.trans (same_new ng)) (s1.free ng) fr ⟨upd_same, cnt, nd, out, fun s r e => (same_new ng) _ _ (row s r e)⟩
def gglits : List (List (List Int)) → TA
  | [] => tNil
  | g :: r => tCons (tLst (glits g)) (gglits r)
theorem gglits_ok {K : PySem.W.Frag} : ∀ (gs : List (List (List Int))) (σ : L2.St) (H : Hp) (Q : List V → Hp → Prop), (∀ g ∈ gs, g.length ≤ 900 ∧ ∀ ns ∈ g, ns.length ≤ 900) →
    (∀ (H' : Hp) (xs : List V), Same H H' → xs.length = gs.length → DpAll K H' xs (gs.map litD) → Q xs H') → gglits gs σ H Q
  | [], _, H, _, _, q => q H [] (Same.refl H) rfl .nil
  | g :: r, σ, H, Q, h, q => by
    obtain ⟨h1, h2⟩ := h g List.mem_cons_self
    show tLst (glits g) σ H (fun x H1 => gglits r σ H1 fun xs H2 => Q (x :: xs) H2)
    refine litG h1 h2 fun H1 a rows s1 _ _ G => ?_
    refine gglits_ok (K := K) r σ H1 _ (fun x hx => h x (List.mem_cons_of_mem _ hx)) fun H2 xs s2 l d => ?_
    exact q H2 (.ref a :: xs) (s1.trans s2) (by rw [List.length_cons, l]; rfl) (.cons ((G.same s2).dp) d)
theorem litGG {K : PySem.W.Frag} {gs : List (List (List Int))} {σ : L2.St} {H : Hp} {Q : VK} (hl : gs.length ≤ 900) (h : ∀ g ∈ gs, g.length ≤ 900 ∧ ∀ ns ∈ g, ns.length ≤ 900)
    (q : ∀ H' l, Same H H' → Dp K H' (.ref l) (.list (gs.map litD)) → Q (.ref l) H') : tLst (gglits gs) σ H Q := by
  refine gglits_ok (K := K) gs σ H _ h fun H1 xs s1 l d => ⟨by rw [l]; exact Nat.le_of_lt (small1000 (by omega)), fun g ng => ?_⟩
  exact q _ g (s1.trans (same_new ng)) (.lst (.inl (.inl upd_same)) (DpAll.same (same_new ng) _ _ d))
theorem nw {H : Hp} {p : Addr} {o : HO} (n : H p = none) : Same H (upd H p o) ∧ upd H p o p = some o := ⟨same_new n, upd_same⟩
end Fa

set_option maxHeartbeats 0
namespace K46
open PySem PySem.Spec PyProof.Rows L2 Fa
abbrev s_law : Stmt := topS 46
abbrev N_law : List Str := ["script", "bag", "turn", "shown_rows", "told"]
theorem sc_law : FnScope N_law ["script"] (defScope s_law) := ⟨rfl, rfl, rfl, by decide +kernel, rfl, by decide +kernel, by decide +kernel⟩
theorem tC_ok {v : V} {σ : L2.St} {H : Hp} {Q : VK} (h : Q v H) : tC v σ H Q := h
theorem tCons_ok {t : TE} {ts : TA} {σ : L2.St} {H : Hp} {Q : List V → Hp → Prop} (h : t σ H fun x H1 => ts σ H1 fun xs H2 => Q (x :: xs) H2) : tCons t ts σ H Q := h
theorem vr_lit {f : Nat → List Int} {n w d b : Nat} {t : Int} (bl : b < (f d).length) (et : (f d)[b]? = some t) (o : Rg) (no : Nrm o) (B : Bool) (ls hs : List Int)
    (hb : badN (numK f n w) ((d : Int) - (b : Int)) d = B) (hl : lows (numK f n w) t ((d : Int) - (b : Int)) d = ls) (hh : highs (numK f n w) t ((d : Int) - (b : Int)) d = hs)
    (h : ∀ k : Nat, rng o k ↔ B = false ∧ (∀ l ∈ ls, l ≤ (k : Int)) ∧ ∀ h ∈ hs, (k : Int) ≤ h) : VRis f n w d b t o := by
  obtain ⟨o', ho⟩ := vr_is (n := n) (w := w) bl et
  have e : o' = o := rng_ext ho.nrm no fun k => by
    rw [ho.iff k (by omega), ← allNN_iff, vals_iff bl et, hb, hl, hh, h k]
  rw [← e]
  exact ho
theorem sA : Shf 3 3 (litF [[3], [3, 4], [2, 4, 4]]) := ⟨by decide, by decide, by decide, by decide, by decide, by decide⟩
theorem sB : Shf 3 1 (litF [[3], [3], [2]]) := ⟨by decide, by decide, by decide, by decide, by decide, by decide⟩
theorem sC : Shf 2 2 (litF [[1], [1, 3]]) := ⟨by decide, by decide, by decide, by decide, by decide, by decide⟩
theorem sD : Shf 3 3 (litF [[1], [1, 3], [9, 3, 3]]) := ⟨by decide, by decide, by decide, by decide, by decide, by decide⟩
theorem sE : Shf 1 1 (litF [[0]]) := ⟨by decide, by decide, by decide, by decide, by decide, by decide⟩
theorem nrm_up (m : Nat) : Nrm (some ((m : Int), none)) := fun m' h e => by
  cases e
  exact ⟨by omega, fun _ z => nomatch z⟩
theorem nrm_bt {m l : Nat} (h : m ≤ l) : Nrm (some ((m : Int), some (l : Int))) := fun m' h e => by
  cases e
  exact ⟨by omega, fun _ z => by cases z; omega⟩
theorem vA : VRis (litF [[3], [3, 4], [2, 4, 4]]) 3 3 1 1 4 (some (3, some 4)) := vr_lit (by decide) rfl _ (nrm_bt (m := 3) (l := 4) (by decide)) false [3, 3] [6, 4] (by decide +kernel) (by decide +kernel) (by decide +kernel) fun k => by
  rw [rng_some]
  constructor
  · rintro ⟨h1, h2⟩
    have := h2 4 rfl
    refine ⟨rfl, fun l hl => ?_, fun l hl => ?_⟩
    · simp only [List.mem_cons, List.not_mem_nil, or_false] at hl
      omega
    · simp only [List.mem_cons, List.not_mem_nil, or_false] at hl
      omega
  · rintro ⟨_, h1, h2⟩
    have h1 := h1 _ List.mem_cons_self
    have h2 := h2 4 (by decide)
    exact ⟨by omega, fun _ z => by cases z; omega⟩
theorem vB : VRis (litF [[3], [3], [2]]) 3 1 1 0 3 (some (0, none)) := vr_lit (by decide) rfl _ (nrm_up 0) false [0, 0] [] (by decide +kernel) (by decide +kernel) (by decide +kernel) fun k => by
  rw [rng_some]
  constructor
  · rintro ⟨h1, h2⟩
    refine ⟨rfl, fun l hl => ?_, fun l hl => nomatch hl⟩
    simp only [List.mem_cons, List.not_mem_nil, or_false] at hl
    omega
  · intro _
    exact ⟨by omega, fun _ z => nomatch z⟩
theorem vC : VRis (litF [[1], [1, 3]]) 2 2 1 1 3 (some (1, some 2)) := vr_lit (by decide) rfl _ (nrm_bt (m := 1) (l := 2) (by decide)) false [1, 1] [2] (by decide +kernel) (by decide +kernel) (by decide +kernel) fun k => by
  rw [rng_some]
  constructor
  · rintro ⟨h1, h2⟩
    have := h2 2 rfl
    refine ⟨rfl, fun l hl => ?_, fun l hl => ?_⟩
    · simp only [List.mem_cons, List.not_mem_nil, or_false] at hl
      omega
    · simp only [List.mem_cons, List.not_mem_nil, or_false] at hl
      omega
  · rintro ⟨_, h1, h2⟩
    have h1 := h1 _ List.mem_cons_self
    have h2 := h2 2 (by decide)
    exact ⟨by omega, fun _ z => by cases z; omega⟩
theorem vD : VRis (litF [[1], [1, 3], [9, 3, 3]]) 3 3 0 0 1 (none) := vr_lit (by decide) rfl _ (fun _ _ z => (nomatch z)) true [2, 0] [3] (by decide +kernel) (by decide +kernel) (by decide +kernel) fun k => by
  constructor
  · exact fun z => absurd z rng_none
  · rintro ⟨z, _⟩
    cases z
theorem vE : VRis (litF [[0]]) 1 1 0 0 0 (some (0, none)) := vr_lit (by decide) rfl _ (nrm_up 0) false [0, 0] [] (by decide +kernel) (by decide +kernel) (by decide +kernel) fun k => by
  rw [rng_some]
  constructor
  · rintro ⟨h1, h2⟩
    refine ⟨rfl, fun l hl => ?_, fun l hl => nomatch hl⟩
    simp only [List.mem_cons, List.not_mem_nil, or_false] at hl
    omega
  · intro _
    exact ⟨by omega, fun _ z => nomatch z⟩
section
variable {P : Program} {w : World} {K : PySem.W.Frag} {mg : Str → Option Value} {base : Heap}
theorem kp_old {p : Addr} {H H1 H2 : Hp} (n : H p = none) (s : Same H H1) (k : Kp p H1 H2) : Same H H2 := fun b o e => k b o (fun z => by rw [z, n] at e; cases e) (s b o e)
def spLaw (K : PySem.W.Frag) : Sp := fun vs H Q _ => ∃ (a : Addr) (ns : List Int), vs = [.ref a] ∧ SqL K H a (ns.map V.int) ∧ ns.length ≤ 63 ∧ ∀ H', Q (.bl true) H'
theorem ok_law {f : Addr} {fd : FuncData} {k : Nat} (F : Fun K "law" "law" s_law f fd) {f__law_bag : Addr} {d__law_bag : FuncData} (F__law_bag : Fun K "_law_bag" "_law_bag" s__law_bag f__law_bag d__law_bag) (G__law_bag : FnOk P w K mg base CX0 k f__law_bag d__law_bag ["script"] (spBag K)) (b__law_bag : Binds K d__law_bag ["script"] []) (g__law_bag : mg "_law_bag" = some (.ref f__law_bag)) {f__law_draw : Addr} {d__law_draw : FuncData} (F__law_draw : Fun K "_law_draw" "_law_draw" s__law_draw f__law_draw d__law_draw) (G__law_draw : FnOk P w K mg base CX0 k f__law_draw d__law_draw ["bag", "wide"] spDraw) (b__law_draw : Binds K d__law_draw ["bag", "wide"] []) (g__law_draw : mg "_law_draw" = some (.ref f__law_draw)) {f__law_small_right : Addr} {d__law_small_right : FuncData} (F__law_small_right : Fun K "_law_small_right" "_law_small_right" s__law_small_right f__law_small_right d__law_small_right) (G__law_small_right : FnG P w K mg base k f__law_small_right d__law_small_right ["bag"] spSmall) (b__law_small_right : Binds K d__law_small_right ["bag"] []) (g__law_small_right : mg "_law_small_right" = some (.ref f__law_small_right)) {f__law_great_right : Addr} {d__law_great_right : FuncData} (F__law_great_right : Fun K "_law_great_right" "_law_great_right" s__law_great_right f__law_great_right d__law_great_right) (G__law_great_right : FnOk P w K mg base CX0 k f__law_great_right d__law_great_right ["bag", "many"] spGreat) (b__law_great_right : Binds K d__law_great_right ["bag", "many"] []) (g__law_great_right : mg "_law_great_right" = some (.ref f__law_great_right)) {f_value_range : Addr} {d_value_range : FuncData} (F_value_range : Fun K "value_range" "value_range" s_value_range f_value_range d_value_range) (G_value_range : FnOk P w K mg base CX0 k f_value_range d_value_range ["sheet", "day", "back"] spVRo) (b_value_range : Binds K d_value_range ["sheet", "day", "back"] []) (g_value_range : mg "value_range" = some (.ref f_value_range)) {f__law_alike : Addr} {d__law_alike : FuncData} (F__law_alike : Fun K "_law_alike" "_law_alike" s__law_alike f__law_alike d__law_alike) (G__law_alike : FnOk P w K mg base CX0 k f__law_alike d__law_alike ["found", "due"] (spAl 2)) (b__law_alike : Binds K d__law_alike ["found", "due"] []) (g__law_alike : mg "_law_alike" = some (.ref f__law_alike)) (m_range : mg "range" = none) : FnG P w K mg base (k + 1) f fd ["script"] (spLaw K) := by
  refine funG F sc_law (fun vs H Q E h => ?_) (fun cdv A outer s H vs Q E hr ng h => ?_)
  · obtain ⟨a, _, rfl, _⟩ := h
    rfl
  · obtain ⟨a0, ns, rfl, sq, hl, q⟩ := h
    refine ⟨_, (pss_cons (ps_set (i := 1) sc_law.nd rfl (by first | exact Or.inl rfl | exact Or.inr rfl) (pe_call G__law_bag (hr.mono (by omega)) (by rfl) g__law_bag F__law_bag.kp b__law_bag .nil pass0 (pa_cons (pv 0) pa_nil)))
  (pss_cons (ps_for PassesOwn.never rfl (pi_range1 (by rfl) m_range (pa_cons pe_int pa_nil)) (pg_name (i := 2) sc_law.nd rfl (by first | exact Or.inl rfl | exact Or.inr rfl)) (pss_one (ps_if (PW.pt (pw_or (pt_not (pt_val (Fa.pe_callG G__law_small_right (hr.mono (by omega)) ng (by rfl) g__law_small_right F__law_small_right.kp b__law_small_right (pa_cons (pv 1) pa_nil)))) (pw_or1 (pt_not (pt_val (pe_call G__law_great_right (hr.mono (by omega)) (by rfl) g__law_great_right F__law_great_right.kp b__law_great_right .nil pass0 (pa_cons (pv 1) (pa_cons (pe_op op_add pe_int (pe_call G__law_draw (hr.mono (by omega)) (by rfl) g__law_draw F__law_draw.kp b__law_draw .nil pass0 (pa_cons (pv 1) (pa_cons pe_int pa_nil)))) pa_nil)))))))) (pss_one (ps_ret pe_bl)) pss_nil)))
  (pss_cons (ps_if (pt_not (pt_val (pe_call G__law_great_right (hr.mono (by omega)) (by rfl) g__law_great_right F__law_great_right.kp b__law_great_right .nil pass0 (pa_cons (pv 1) (pa_cons pe_int pa_nil))))) (pss_one (ps_ret pe_bl)) pss_nil)
  (pss_cons (ps_set (i := 3) sc_law.nd rfl (by first | exact Or.inl rfl | exact Or.inr rfl) (pe_lst (pa_cons (pe_lst (pa_cons pe_int pa_nil)) (pa_cons (pe_lst (pa_cons pe_int (pa_cons pe_int pa_nil))) (pa_cons (pe_lst (pa_cons pe_int (pa_cons pe_int (pa_cons pe_int pa_nil)))) pa_nil)))))
  (pss_cons (ps_set (i := 4) sc_law.nd rfl (by first | exact Or.inl rfl | exact Or.inr rfl) (pe_lst (pa_cons (pe_call G_value_range (hr.mono (by omega)) (by rfl) g_value_range F_value_range.kp b_value_range .nil pass0 (pa_cons (pv 3) (pa_cons pe_int (pa_cons pe_int pa_nil)))) (pa_cons (pe_call G_value_range (hr.mono (by omega)) (by rfl) g_value_range F_value_range.kp b_value_range .nil pass0 (pa_cons (pe_lst (pa_cons (pe_lst (pa_cons pe_int pa_nil)) (pa_cons (pe_lst (pa_cons pe_int pa_nil)) (pa_cons (pe_lst (pa_cons pe_int pa_nil)) pa_nil)))) (pa_cons pe_int (pa_cons pe_int pa_nil)))) (pa_cons (pe_call G_value_range (hr.mono (by omega)) (by rfl) g_value_range F_value_range.kp b_value_range .nil pass0 (pa_cons (pe_lst (pa_cons (pe_lst (pa_cons pe_int pa_nil)) (pa_cons (pe_lst (pa_cons pe_int (pa_cons pe_int pa_nil))) pa_nil))) (pa_cons pe_int (pa_cons pe_int pa_nil)))) pa_nil)))))
  (pss_cons (ps_set (i := 4) sc_law.nd rfl (by first | exact Or.inl rfl | exact Or.inr rfl) (pe_op op_cat (pv 4) (pe_lst (pa_cons (pe_call G_value_range (hr.mono (by omega)) (by rfl) g_value_range F_value_range.kp b_value_range .nil pass0 (pa_cons (pe_lst (pa_cons (pe_lst (pa_cons pe_int pa_nil)) (pa_cons (pe_lst (pa_cons pe_int (pa_cons pe_int pa_nil))) (pa_cons (pe_lst (pa_cons pe_int (pa_cons pe_int (pa_cons pe_int pa_nil)))) pa_nil)))) (pa_cons pe_int (pa_cons pe_int pa_nil)))) (pa_cons (pe_call G_value_range (hr.mono (by omega)) (by rfl) g_value_range F_value_range.kp b_value_range .nil pass0 (pa_cons (pe_lst (pa_cons (pe_lst (pa_cons pe_int pa_nil)) pa_nil)) (pa_cons pe_int (pa_cons pe_int pa_nil)))) pa_nil)))))
  (pss_one (ps_ret (pe_call G__law_alike (hr.mono (by omega)) (by rfl) g__law_alike F__law_alike.kp b__law_alike .nil pass0 (pa_cons (pv 4) (pa_cons (pe_lst (pa_cons (pe_tup (pa_cons pe_int (pa_cons pe_int pa_nil))) (pa_cons (pe_tup (pa_cons pe_int (pa_cons pe_non pa_nil))) (pa_cons (pe_tup (pa_cons pe_int (pa_cons pe_int pa_nil))) (pa_cons pe_non (pa_cons (pe_tup (pa_cons pe_int (pa_cons pe_non pa_nil))) pa_nil)))))) pa_nil))))))))))), ?_⟩
    refine ⟨_, rfl, a0, ns, rfl, sq, hl, fun H1 p qq s1 np0 hB1 => ?_⟩
    refine ⟨8, rfl, by decide, by decide, ?_⟩
    refine for_range (lo := 0) (fun i σ H' => BagAt H' p qq ∧ ∃ x2, σ = [some (.ref a0), some (.ref p), x2, none, none]) ?_ ?_ ?_
    · exact ⟨hB1, _, rfl⟩
    · rintro i0 σ H2 hi0 ⟨hB2, x2, rfl⟩
      refine ⟨_, rfl, p, qq, rfl, hB2, fun H3 k3 hB3 => ⟨_, rfl, iteF ?_⟩⟩
      refine ⟨_, rfl, _, rfl, p, qq, 8, rfl, hB3, by decide, lt3000 (by decide), fun H4 r4 b4 hB4 r40 r41 => ⟨_, _, rfl, rfl, ?_⟩⟩
      obtain ⟨n, en, n1, n8⟩ : ∃ n : Nat, (1 : Int) + r4 = n ∧ 1 ≤ n ∧ n ≤ 8 := ⟨(1 + r4).toNat, by omega, by omega, by omega⟩
      exact ⟨p, qq, n, by rw [← en]; rfl, hB4, n1, by omega, fun H5 k5 hB5 => ⟨_, rfl, iteN0 rfl ⟨hB5, _, rfl⟩⟩⟩
    · rintro σ H2 ⟨hB2, x2, rfl⟩
      show tSeq _ _ _ _ _
      show tNext _ _ _
      unfold tNext
      dsimp only
      show tSeq _ _ _ _ _
      show tIfS _ _ _ _ _ _
      refine ⟨_, rfl, p, qq, 30, rfl, hB2, by decide, by decide, fun H3 k3 hB3 => ⟨_, rfl, iteN0 rfl ?_⟩⟩
      show tSeq _ _ _ _ _
      show tNext _ _ _
      unfold tNext
      dsimp only
      show tSeq _ _ _ _ _
      show tAsg _ _ _ _ _
      show tLst (glits [[3], [3, 4], [2, 4, 4]]) _ _ _
      refine litG (by decide) (by decide) fun H4 g1 r1 s4 ng1 nr1 G1 => ?_
      show tSeq _ _ _ _ _
      show tNext _ _ _
      unfold tNext
      dsimp only
      show tSeq _ _ _ _ _
      show tAsg _ _ _ _ _
      show tLst _ _ _ _
      show tCons _ _ _ _ _
      show tCall spVRo _ _ _ _ _ _
      refine ⟨_, rfl, g1, 3, 3, litF [[3], [3, 4], [2, 4, 4]], 1, 1, 4, _, rfl, ⟨⟨r1, G1⟩, sA⟩, by decide, by decide, rfl, vA, fun H5 v1 s5 o1 => ?_⟩
      show tCons _ _ _ _ _
      show tCall spVRo _ _ _ _ _ _
      show tCons _ _ _ _ _
      show tLst (glits [[3], [3], [2]]) _ _ _
      refine litG (by decide) (by decide) fun H6 g2 r2 s6 ng2 nr2 G2 => ?_
      refine ⟨g2, 3, 1, litF [[3], [3], [2]], 1, 0, 3, _, rfl, ⟨⟨r2, G2⟩, sB⟩, by decide, by decide, rfl, vB, fun H7 v2 s7 o2 => ?_⟩
      show tCons _ _ _ _ _
      show tCall spVRo _ _ _ _ _ _
      show tCons _ _ _ _ _
      show tLst (glits [[1], [1, 3]]) _ _ _
      refine litG (by decide) (by decide) fun H8 g3 r3 s8 ng3 nr3 G3 => ?_
      refine ⟨g3, 2, 2, litF [[1], [1, 3]], 1, 1, 3, _, rfl, ⟨⟨r3, G3⟩, sC⟩, by decide, by decide, rfl, vC, fun H9 v3 s9 o3 => ?_⟩
      have o1 := (((o1.same s6).same s7).same s8).same s9
      have o2 := (o2.same s8).same s9
      refine ⟨by show 3 ≤ sizeLine; decide, fun t1 nt1 => ?_⟩
      have et1 : upd H9 t1 (.lst [v1, v2, v3]) t1 = some (.lst [v1, v2, v3]) := upd_same
      have sn := same_new (o := .lst [v1, v2, v3]) nt1
      have o1 := o1.same sn
      have o2 := o2.same sn
      have o3 := o3.same sn
      show gName 4 (V.ref t1) _ (upd H9 t1 (.lst [v1, v2, v3])) _
      generalize upd H9 t1 (.lst [v1, v2, v3]) = H10 at et1 o1 o2 o3 ⊢
      refine ⟨_, rfl, ?_⟩
      show tLst _ _ _ _
      show tCons _ _ _ _ _
      show tCall spVRo _ _ _ _ _ _
      show tCons _ _ _ _ _
      show tLst (glits [[1], [1, 3], [9, 3, 3]]) _ _ _
      refine litG (by decide) (by decide) fun H11 g4 r4 s11 ng4 nr4 G4 => ?_
      refine ⟨g4, 3, 3, litF [[1], [1, 3], [9, 3, 3]], 0, 0, 1, _, rfl, ⟨⟨r4, G4⟩, sD⟩, by decide, by decide, rfl, vD, fun H12 v4 s12 o4 => ?_⟩
      show tCons _ _ _ _ _
      show tCall spVRo _ _ _ _ _ _
      show tCons _ _ _ _ _
      show tLst (glits [[0]]) _ _ _
      refine litG (by decide) (by decide) fun H13 g5 r5 s13 ng5 nr5 G5 => ?_
      refine ⟨g5, 1, 1, litF [[0]], 0, 0, 0, _, rfl, ⟨⟨r5, G5⟩, sE⟩, by decide, by decide, rfl, vE, fun H14 v5 s14 o5 => ?_⟩
      have s1014 := ((s11.trans s12).trans s13).trans s14
      have o1 := o1.same s1014
      have o2 := o2.same s1014
      have o3 := o3.same s1014
      have o4 := (o4.same s13).same s14
      have et1 := s1014 _ _ et1
      refine ⟨by show 2 ≤ sizeLine; decide, fun L3 nL3 => ?_⟩
      have sL := same_new (o := .lst [v4, v5]) nL3
      have eL3 : upd H14 L3 (.lst [v4, v5]) L3 = some (.lst [v4, v5]) := upd_same
      show rCat (.ref t1) (.ref L3) (upd H14 L3 (.lst [v4, v5])) _
      have et1 := sL _ _ et1
      have o1 := o1.same sL
      have o2 := o2.same sL
      have o3 := o3.same sL
      have o4 := o4.same sL
      have o5 := o5.same sL
      generalize upd H14 L3 (.lst [v4, v5]) = H15 at eL3 et1 o1 o2 o3 o4 o5 ⊢
      refine ⟨t1, L3, _, _, rfl, rfl, et1, eL3, by show 5 ≤ sizeLine; decide, fun C nC => ?_⟩
      have sC := same_new (o := .lst [v1, v2, v3, v4, v5]) nC
      have eC : upd H15 C (.lst [v1, v2, v3, v4, v5]) C = some (.lst [v1, v2, v3, v4, v5]) := upd_same
      show gName 4 (V.ref C) _ (upd H15 C (.lst [v1, v2, v3, v4, v5])) _
      have o1 := o1.same sC
      have o2 := o2.same sC
      have o3 := o3.same sC
      have o4 := o4.same sC
      have o5 := o5.same sC
      generalize upd H15 C (.lst [v1, v2, v3, v4, v5]) = H16 at eC o1 o2 o3 o4 o5 ⊢
      refine ⟨_, rfl, ?_⟩
      show tCons _ _ _ _ _
      show tLst _ _ _ _
      refine tCons_ok ⟨by show 2 ≤ sizeLine; decide, fun T1 nT1 => ?_⟩
      have s1 := same_new (o := .tup [.int 3, .int 4]) nT1
      have e1 : upd H16 T1 (.tup [.int 3, .int 4]) T1 = some (.tup [.int 3, .int 4]) := upd_same
      refine tCons_ok ⟨by show 2 ≤ sizeLine; decide, fun T2 nT2 => ?_⟩
      have s2 := same_new (o := .tup [.int 0, .non]) nT2
      have e2 : upd (upd H16 T1 (.tup [.int 3, .int 4])) T2 (.tup [.int 0, .non]) T2 = some (.tup [.int 0, .non]) := upd_same
      have e1 := s2 _ _ e1
      have s2 := s1.trans s2
      show tCons _ _ _ (upd (upd H16 T1 (.tup [.int 3, .int 4])) T2 (.tup [.int 0, .non])) _
      generalize upd (upd H16 T1 (.tup [.int 3, .int 4])) T2 (.tup [.int 0, .non]) = H17 at s2 e1 e2 ⊢
      refine tCons_ok ⟨by show 2 ≤ sizeLine; decide, fun T3 nT3 => ?_⟩
      refine tCons_ok (tC_ok ?_)
      refine tCons_ok ⟨by show 2 ≤ sizeLine; decide, fun T5 nT5 => ?_⟩
      refine ⟨by show 5 ≤ sizeLine; decide, fun DU nDU => ?_⟩
      have s3 := same_new (o := .tup [.int 1, .int 2]) nT3
      have e3 : upd H17 T3 (.tup [.int 1, .int 2]) T3 = some (.tup [.int 1, .int 2]) := upd_same
      have s5 := same_new (o := .tup [.int 0, .non]) nT5
      have e5 : upd (upd H17 T3 (.tup [.int 1, .int 2])) T5 (.tup [.int 0, .non]) T5 = some (.tup [.int 0, .non]) := upd_same
      have sD := same_new (o := .lst [.ref T1, .ref T2, .ref T3, .non, .ref T5]) nDU
      have eD : upd (upd (upd H17 T3 (.tup [.int 1, .int 2])) T5 (.tup [.int 0, .non])) DU (.lst [.ref T1, .ref T2, .ref T3, .non, .ref T5]) DU = some (.lst [.ref T1, .ref T2, .ref T3, .non, .ref T5]) := upd_same
      have e1 := sD _ _ (s5 _ _ (s3 _ _ e1))
      have e2 := sD _ _ (s5 _ _ (s3 _ _ e2))
      have e3 := sD _ _ (s5 _ _ e3)
      have e5 := sD _ _ e5
      have sA := ((s2.trans s3).trans s5).trans sD
      show spAl 2 [V.ref C, V.ref DU] (upd (upd (upd H17 T3 (.tup [.int 1, .int 2])) T5 (.tup [.int 0, .non])) DU (.lst [.ref T1, .ref T2, .ref T3, .non, .ref T5])) _ E0
      generalize upd (upd (upd H17 T3 (.tup [.int 1, .int 2])) T5 (.tup [.int 0, .non])) DU (.lst [.ref T1, .ref T2, .ref T3, .non, .ref T5]) = H18 at sA e1 e2 e3 e5 eD ⊢
      refine ⟨.ref C, .ref DU, rfl, .inr ⟨C, DU, _, _, true, rfl, rfl, sA _ _ eC, eD, rfl, by show 5 ≤ 900; decide, fun i u v eu ev => ?_⟩, fun H19 s19 => q _⟩
      rcases i with _ | _ | _ | _ | _ | i
      · cases eu
        cases ev
        exact (o1.same sA).al (.inr ⟨T1, 3, some 4, rfl, rfl, e1⟩) 0
      · cases eu
        cases ev
        exact (o2.same sA).al (.inr ⟨T2, 0, none, rfl, rfl, e2⟩) 0
      · cases eu
        cases ev
        exact (o3.same sA).al (.inr ⟨T3, 1, some 2, rfl, rfl, e3⟩) 0
      · cases eu
        cases ev
        exact (o4.same sA).al (.inl ⟨rfl, rfl⟩) 0
      · cases eu
        cases ev
        exact (o5.same sA).al (.inr ⟨T5, 0, none, rfl, rfl, e5⟩) 0
      · cases eu
end
end K46

set_option maxHeartbeats 0
namespace K46
open PySem PySem.Spec PyProof.Rows L2 Fa
def mkD (x : Str) (st : Stmt) : He.DefD := ⟨(x, none), x, x, defArgs st, defBody st, defScope st, [], []⟩
def fn : List He.DefD := ([mkD "is_integer" s_is_integer, mkD "is_between" s_is_between, mkD "is_row" s_is_row, mkD "is_sheet" s_is_sheet, mkD "check_sheet" s_check_sheet, mkD "check_day" s_check_day, mkD "told_number" s_told_number, mkD "gap_between" s_gap_between, mkD "away_from" s_away_from, mkD "end_of_away" s_end_of_away, mkD "fresh_on" s_fresh_on, mkD "start_of_fresh" s_start_of_fresh, mkD "_told_pairs" s__told_pairs, mkD "numbers_in" s_numbers_in, mkD "conflict_of" s_conflict_of, mkD "conflicts_in" s_conflicts_in, mkD "value_range" s_value_range, mkD "_values_at" s__values_at, mkD "_law_bag" s__law_bag, mkD "_law_stirred" s__law_stirred] : List He.DefD) ++ ([mkD "_law_draw" s__law_draw, mkD "_law_alike" s__law_alike, mkD "_law_pattern" s__law_pattern, mkD "_law_family" s__law_family, mkD "_law_rows" s__law_rows, mkD "_law_number" s__law_number, mkD "_law_gap" s__law_gap, mkD "_law_away" s__law_away, mkD "_law_fresh" s__law_fresh, mkD "_law_possible" s__law_possible, mkD "_law_with" s__law_with, mkD "_law_bent" s__law_bent, mkD "_law_small_right" s__law_small_right, mkD "_law_all_numbers" s__law_all_numbers, mkD "_law_due" s__law_due, mkD "_law_great_right" s__law_great_right, mkD "law" s_law] : List He.DefD)
def gls : List Str := ((["is_integer", "is_between", "is_row", "is_sheet", "check_sheet", "check_day", "told_number", "gap_between", "away_from", "end_of_away", "fresh_on", "start_of_fresh", "_told_pairs", "numbers_in", "conflict_of", "conflicts_in", "value_range", "_values_at", "_law_bag", "_law_stirred"] : List Str) ++ (["_law_draw", "_law_alike", "_law_pattern", "_law_family", "_law_rows", "_law_number", "_law_gap", "_law_away", "_law_fresh", "_law_possible", "_law_with", "_law_bent", "_law_small_right", "_law_all_numbers", "_law_due", "_law_great_right", "law"] : List Str))
def fre : List Str := ["abs", "all", "bool", "enumerate", "int", "isinstance", "len", "list", "max", "min", "range", "sorted", "str", "tuple", "type"]
def fa : List He.Fa := gls.map .glo ++ ([.int "MOST_DAYS" 30] ++ fre.map .free)
def exB (_ : PySem.W.Frag) : Bool := true
abbrev R : PySem.W.OpenRow := PySem.W.OpenLaw.row PySem.Challenge.rw_facesagain_k46_values_of_one_number
def loo : List Str := ((["FaceError", "InvalidSheet", "InvalidDay", "MOST_DAYS", "is_integer", "is_between", "is_row", "is_sheet", "check_sheet", "check_day", "told_number", "gap_between", "away_from", "end_of_away", "fresh_on", "start_of_fresh", "_told_pairs", "numbers_in", "conflict_of", "conflicts_in"] : List Str) ++ (["value_range", "_values_at", "_law_bag", "_law_stirred", "_law_draw", "_law_alike", "_law_pattern", "_law_family", "_law_rows", "_law_number", "_law_gap", "_law_away", "_law_fresh", "_law_possible", "_law_with", "_law_bent", "_law_small_right", "_law_all_numbers", "_law_due", "_law_great_right"] : List Str))
abbrev hk : PySem.W.Hook := He.hookX 6 fa fn [] [] exB
def ob (s : PySem.W.SharedT) : He.AlX := He.obsX 6 fa fn [] [] exB (HandSHeadRun.getT s)
theorem ob_eq (s : PySem.W.SharedT) : ob s = hk.obs s.abs := He.obsX_eq (HandSHeadRun.getT_eq s)
theorem run (w : World) : HandSHeadRun.RunEq R (PySem.W.view R.prog [46]) hk ob 4000 loo w := by
  intro os
  kernel_rfl
end K46

/-! a law's end, where tables of code objects are known (lambdas are made on the way) -/
namespace Fa
open PySem PySem.Spec PyProof.Rows L2 LamX
section
variable {P : Program} {w : World} {K : PySem.W.Frag} {mg mb : Str → Option Value} {k : Nat} {fa a : Addr} {fd : FuncData} {x : Str} {sp : Sp} {st : Shared} {vs : List Value} {ns : List Int} {cs : List (Addr × Addr)}
/-- the tables stand empty, outside of what is written -/
structure Empty (K : PySem.W.Frag) (h : Heap) (cs : List (Addr × Addr)) : Prop where
  tab : ∀ p ∈ cs, h.get? p.2 = some { cls := .none, data := .fields #[] }
  out : ∀ p ∈ cs, K.lookup p.2 = none
  hd : ∀ p ∈ cs, PySem.W.CodeHd h p.1 p.2
/-- the tables' places -/
abbrev plc (cs : List (Addr × Addr)) : List Addr := cs.map (·.2)
def Begun (M : Hp) (cs : List (Addr × Addr)) : Prop := ∀ p ∈ cs, M p.2 = some (.tbl #[])
theorem law_runT {M : Hp} (kin : K.In st.heap) (main : st.heap.Ns mainGlobals mg) (hb : st.heap.Ns builtinsNs mb) (boot : ∀ y : Str, y ≠ "__name__" → mb y = bootBuiltins y) (free : st.heap.NoLimit) (gens : st.gens = #[])
    (bmain : ∃ (bm : Addr) (ob : Obj), mg "__builtins__" = some (.ref bm) ∧ bm ≠ builtinsNs ∧ st.heap.get? bm = some ob ∧ ob.cls = .type "module" ∧ ob.dict = some builtinsNs ∧ ob.data = .plain)
    (em : Empty K st.heap cs) (at' : st.heap.get? a = some { cls := .type "list", data := .seq vs.toArray }) (room : Room k callerA)
    (F : ∀ base : Heap, K.In base → base.Ns mainGlobals mg → (∀ p ∈ cs, TabB base mg p.1 p.2) → FnG P w K mg base k fa fd [x] sp)
    (bnd : ∀ (s : Shared) (u : Value), BindsTo s fd ⟨[u], []⟩ [(x, u)]) (beg : Begun M cs) (only : ∀ b, M b = none ∨ b ∈ plc cs ∨ ∃ o xs, M b = some (.frz o (.lst xs)))
    (q : sp [.ref a] M (fun v _ => v = .bl true) E0) (hok : HOk P w M st.heap) (dom : ∀ b, M b ≠ none → b = a ∨ b ∈ plc cs) (notK : M a ≠ none → K.lookup a = none) :
    codeAny (model P w) callerA (.call (.ref fa) ⟨[.ref a], []⟩) (Well st) st := by
  have tabAt : ∀ b, b ∈ plc cs → st.heap.get? b = some { cls := .none, data := .fields #[] } := fun b hb => by
    obtain ⟨p, hp, rfl⟩ := List.mem_map.mp hb
    exact em.tab p hp
  -- what is neither the script nor a table is not tracked
  have plain : ∀ {b : Addr} {o : Obj}, st.heap.get? b = some o → (∀ l n, o.data ≠ .seq l n) → o.data ≠ .fields #[] → M b = none := fun {b o} e n1 n2 => by
    cases c : M b with
    | none => rfl
    | some u =>
      rcases dom b (by rw [c]; exact Option.some_ne_none _) with z | z
      · subst z
        rw [at'] at e
        cases e
        exact absurd rfl (n1 _ _)
      · rw [tabAt b z] at e
        cases e
        exact absurd rfl n2
  have dictly : ∀ {b : Addr} {o : Obj} {es : Array DictEntry} {ep : Nat}, st.heap.get? b = some o → o.data = .dict es ep → M b = none := fun {b o es ep} e d => plain e (fun l n z => by rw [d] at z; cases z) (fun z => by rw [d] at z; cases z)
  have toN : ∀ {b : Addr} {m : Str → Option Value}, st.heap.Ns b m → (hidT st.heap M).Ns b m := by
    rintro b m ⟨o, es, ep, e, d, r⟩
    exact ⟨o, es, ep, hidT_get e (dictly e d), d, r⟩
  have kin2 : K.In (hidT st.heap M) := fun b o e => by
    refine hidT_get (kin b o e) ?_
    cases c : M b with
    | none => rfl
    | some u =>
      rcases dom b (by rw [c]; exact Option.some_ne_none _) with z | z
      · subst z
        rw [notK (by rw [c]; exact Option.some_ne_none _)] at e
        cases e
      · obtain ⟨p, hp, rfl⟩ := List.mem_map.mp z
        rw [em.out p hp] at e
        cases e
  obtain ⟨mc, f1, f2⟩ := free
  have md : Mod K mg (hidT st.heap M) := ⟨kin2, toN main, ⟨mb, toN hb, boot⟩, ⟨mc, toN f1, f2⟩⟩
  have tb : ∀ p ∈ cs, TabB (hidT st.heap M) mg p.1 p.2 := fun p hp => by
    have tp := em.tab p hp
    refine ⟨?_, ?_, fun z => ?_⟩
    · obtain ⟨o, us, file, tf, flags, tg, inF, text, tt, e1, r1, r2, r3, r⟩ := em.hd p hp
      refine ⟨o, us, file, tf, flags, tg, inF, text, tt, hidT_get e1 (plain e1 (fun l n z => ?_) fun z => ?_), r1, r2, r3, r⟩
      · rw [r2] at z
        cases z
      · rw [r2] at z
        cases z
        simp at r3
    · obtain ⟨bm, ob, b1, b2, b3, b4, b5, b6⟩ := bmain
      refine ⟨bm, ob, b1, b2, fun z => ?_, fun z => ?_, hidT_get b3 (plain b3 (fun l n z => by rw [b6] at z; cases z) (fun z => by rw [b6] at z; cases z)), b4, b5, b6⟩
      · obtain ⟨o, es, ep, e, d, _⟩ := main
        rw [z, e] at b3
        cases b3
        rw [d] at b6
        cases b6
      · rw [z, tp] at b3
        cases b3
        cases b6
    · obtain ⟨o, es, ep, e, d, _⟩ := main
      rw [z, tp] at e
      cases e
      cases d
  have env : Env0 P w K mg (hidT st.heap M) callerA [] st M :=
    ⟨rfl, md, fun b o e => of_hidT e, Nat.le_of_eq (hidT_size _ _), trivial, fun b z => (List.not_mem_nil z).elim, hok, .of_eq gens⟩
  have go := (F _ kin2 (toN main) tb).runs callerA [] st M ⟨[.ref a], []⟩ [.ref a] [.ref a] _ _ room rfl env (bnd st (.ref a)) (.cons rfl .nil) q
  refine codeAny_mono go fun r s2 z => ?_
  match r, z with
  | .error _, z => exact z.elim
  | .ok .next, z => exact z.elim
  | .ok .brk, z => exact z.elim
  | .ok .cont, z => exact z.elim
  | .ok (.ret u), ⟨v, M2, os, bare, un, hok2, rv, eq⟩ =>
    cases (show v = .bl true from eq)
    cases (show u = Value.bool true from rv)
    have stay : ∀ b o, b ∉ plc cs → st.heap.get? b = some o → s2.heap.get? b = some o := fun b o nb e => by
      cases c : M b with
      | none => exact un.keep b o e c (fun z => (List.not_mem_nil z).elim) (by simp)
      | some u =>
        rcases only b with z | z | ⟨ob, xs, z⟩
        · rw [z] at c
          cases c
        · exact absurd z nb
        · have old := (hok b _ z).1
          have new := (hok2 b _ (un.frzs b ob _ z)).1
          rw [e] at old
          cases old
          exact new
    have grown : ∀ p ∈ cs, ∃ more : Array Value, s2.heap.get? p.2 = some { cls := .none, data := .fields more } := fun p hp => by
      obtain ⟨more, z⟩ := un.tbls p.2 #[] (beg p hp)
      exact ⟨_, hok2 p.2 _ z⟩
    refine ⟨rfl, ⟨fun b o e => ?_, fun b o e => ?_⟩, os, bare⟩
    · by_cases z : b ∈ plc cs
      · obtain ⟨p, hp, rfl⟩ := List.mem_map.mp z
        obtain ⟨more, em2⟩ := grown p hp
        rw [em.tab p hp] at e
        cases e
        exact .inr (.inl ⟨((em.hd p hp).tab (em.tab p hp)).isCodeTable, rfl, #[], more, rfl, by rw [Array.empty_append]; exact em2⟩)
      · exact .inl (stay b o z e)
    · by_cases z : b ∈ plc cs
      · obtain ⟨p, hp, rfl⟩ := List.mem_map.mp z
        obtain ⟨more, em2⟩ := grown p hp
        exact ⟨_, em2⟩
      · exact ⟨o, stay b o z e⟩
/-- where all starts: the script is locked (or written), the tables are empty -/
theorem law_callT (kin : K.In st.heap) (main : st.heap.Ns mainGlobals mg) (hb : st.heap.Ns builtinsNs mb) (boot : ∀ y : Str, y ≠ "__name__" → mb y = bootBuiltins y) (free : st.heap.NoLimit) (gens : st.gens = #[])
    (bmain : ∃ (bm : Addr) (ob : Obj), mg "__builtins__" = some (.ref bm) ∧ bm ≠ builtinsNs ∧ st.heap.get? bm = some ob ∧ ob.cls = .type "module" ∧ ob.dict = some builtinsNs ∧ ob.data = .plain)
    (em : Empty K st.heap cs) (at' : st.heap.get? a = some { cls := .type "list", data := .seq vs.toArray }) (isI : IntsAre vs ns) (size : ns.length ≤ sizeLine) (room : Room k callerA)
    (F : ∀ base : Heap, K.In base → base.Ns mainGlobals mg → (∀ p ∈ cs, TabB base mg p.1 p.2) → FnG P w K mg base k fa fd [x] sp)
    (bnd : ∀ (s : Shared) (u : Value), BindsTo s fd ⟨[u], []⟩ [(x, u)]) (q : ∀ M : Hp, Begun M cs → SqL K M a (ns.map V.int) → sp [.ref a] M (fun v _ => v = .bl true) E0) :
    codeAny (model P w) callerA (.call (.ref fa) ⟨[.ref a], []⟩) (Well st) st := by
  have rel := vals_ints isI
  have tabAt : ∀ b, b ∈ plc cs → st.heap.get? b = some { cls := .none, data := .fields #[] } := fun b hb => by
    obtain ⟨p, hp, rfl⟩ := List.mem_map.mp hb
    exact em.tab p hp
  have apart : a ∉ plc cs := fun z => by
    have e := tabAt a z
    rw [at'] at e
    have e := congrArg Obj.data (Option.some.inj e)
    cases e
  have mem : ∀ p ∈ cs, p.2 ∈ plc cs := fun p hp => List.mem_map.mpr ⟨p, hp, rfl⟩
  let ob : Obj := { cls := .type "list", data := .seq vs.toArray }
  by_cases c : ∃ o, K.lookup a = some o
  · obtain ⟨o, c⟩ := c
    have e := kin a o c
    rw [at'] at e
    cases e
    let M : Hp := fun b => if b ∈ plc cs then some (.tbl #[]) else none
    have inT : ∀ b, b ∈ plc cs → M b = some (.tbl #[]) := fun b z => if_pos z
    have offT : ∀ b, b ∉ plc cs → M b = none := fun b z => if_neg z
    have beg : Begun M cs := fun p hp => inT _ (mem p hp)
    refine law_runT (M := M) kin main hb boot free gens bmain em at' room F bnd beg (fun b => ?_) (q M beg (.inr ⟨_, vs.toArray, _, c, rfl, rfl, rfl, by rw [List.size_toArray, isI.length]; exact size, by simpa using rel⟩)) (fun b u z => ?_) (fun b z => ?_) fun z => absurd (offT a apart) z
    · by_cases z : b ∈ plc cs
      · exact .inr (.inl z)
      · exact .inl (offT b z)
    · by_cases y : b ∈ plc cs
      · rw [inT b y] at z
        cases z
        exact tabAt b y
      · rw [offT b y] at z
        cases z
    · by_cases y : b ∈ plc cs
      · exact .inr y
      · exact absurd (offT b y) z
  · have noK : K.lookup a = none := by
      cases d : K.lookup a with
      | none => rfl
      | some o => exact absurd ⟨o, d⟩ c
    let M : Hp := fun b => if b = a then some (.frz ob (.lst (ns.map V.int))) else if b ∈ plc cs then some (.tbl #[]) else none
    have Ma : M a = some (.frz ob (.lst (ns.map V.int))) := if_pos rfl
    have inT : ∀ b, b ∈ plc cs → M b = some (.tbl #[]) := fun b z => (if_neg (fun y => apart (by rw [← y]; exact z))).trans (if_pos z)
    have offT : ∀ b, b ≠ a → b ∉ plc cs → M b = none := fun b y z => (if_neg y).trans (if_neg z)
    have beg : Begun M cs := fun p hp => inT _ (mem p hp)
    refine law_runT (M := M) kin main hb boot free gens bmain em at' room F bnd beg (fun b => ?_) (q M beg (.inl (.inr ⟨ob, Ma⟩))) (fun b u z => ?_) (fun b z => ?_) fun _ => noK
    · by_cases y : b = a
      · subst y
        exact .inr (.inr ⟨_, _, Ma⟩)
      · by_cases z : b ∈ plc cs
        · exact .inr (.inl z)
        · exact .inl (offT b y z)
    · by_cases y : b = a
      · subst y
        rw [Ma] at z
        cases z
        exact ⟨at', by rw [List.length_map]; exact size, vs, _, rel, at'⟩
      · by_cases y2 : b ∈ plc cs
        · rw [inT b y2] at z
          cases z
          exact tabAt b y2
        · rw [offT b y y2] at z
          cases z
    · by_cases y : b = a
      · exact .inl y
      · by_cases y2 : b ∈ plc cs
        · exact .inr y2
        · exact absurd (offT b y y2) z
end
theorem walkT {l : PySem.W.OpenLaw} {n k : Nat} {q : Program} {loose : List Str} {XP : (Str → Option Value) → Heap → Prop} {YP : World → Heap → Prop} {d : DefRec} {x : Str}
    (most : l.most = some n) (small : n ≤ sizeLine) (plain : d.params.defaults = []) (room : Room k callerA)
    (F : ∀ (w : World) (mg : Str → Option Value) (fa : Addr) (h : Heap), YP w h → h.Ns mainGlobals mg → mg d.name = some (.ref fa) →
      ∃ (K : PySem.W.Frag) (fd : FuncData) (sp : Sp) (cs : List (Addr × Addr)), K.In h ∧ Empty K h cs ∧ (∀ (s : Shared) (u : Value), BindsTo s fd ⟨[u], []⟩ [(x, u)]) ∧
        (∀ (M : Hp) (a : Addr) (ns : List Int), ns.length ≤ n → (∀ z ∈ ns, Builtin.Int.intBits z ≤ 1048576) → Begun M cs → SqL K M a (ns.map V.int) → sp [.ref a] M (fun v _ => v = .bl true) E0) ∧
        ∀ base : Heap, K.In base → base.Ns mainGlobals mg → (∀ p ∈ cs, TabB base mg p.1 p.2) → FnG l.prog w K mg base k fa fd [x] sp) :
    PySem.W.WalkO q loose XP YP l.row.toRowW d [] (fun f vs => PySem.call f vs) := by
  refine Att.attach_callB most plain ?_
  intro w s0 s1 mg mb fa o pm cd doc a vs ns G Y ho hd hcd hmg at0 isI len bits gens
  obtain ⟨K, fd, sp, cs, kin, em, bnd, ask, go⟩ := F w mg fa _ Y G.T.g hmg
  exact law_callT kin G.T.g G.T.b G.T.builtins G.T.nolimit gens G.T.bmain em at0 isI (Nat.le_trans len small) room go bnd fun M h1 h2 => ask M a ns len bits h1 h2
end Fa

set_option maxHeartbeats 0
namespace K46
open PySem PySem.Spec PyProof.Rows L2 Fa
theorem facts {P : Program} {w : World} {K : PySem.W.Frag} {h : Heap} {mg : Str → Option Value} {f : Addr} (X : K.In h) (G : h.Ns mainGlobals mg) (hfa : mg ("law" : Str) = some (.ref f)) (cx : He.SaysX fa fn [] [] exB w h K) :
    ∃ fd : FuncData, (∀ (s : Shared) (v : Value), BindsTo s fd ⟨[v], []⟩ [("script", v)]) ∧ ∀ base : Heap, K.In base → base.Ns mainGlobals mg → FnG P w K mg base 7 f fd ["script"] (spLaw K) := by
  have c := cx.t.d
  have gl : ∀ x, x ∈ gls → mg x = some (.ref (He.ga K x)) := fun x hx => He.glo_ok X G (c.facts (List.mem_append_left _ (List.mem_map.mpr ⟨x, hx, rfl⟩)))
  have fr : ∀ x, x ∈ fre → mg x = none := fun x hx => He.free_ok X G (c.facts (List.mem_append_right _ (List.mem_append_right _ (List.mem_map.mpr ⟨x, hx, rfl⟩))))
  obtain ⟨_, g_MOST_DAYS⟩ := He.int_ok X G (x := "MOST_DAYS") (i := 30) (c.facts (List.mem_append_right _ (List.mem_append_left _ List.mem_cons_self)))
  obtain ⟨d0, F0⟩ := c.def_ 0 rfl
  obtain ⟨d1, F1⟩ := c.def_ 1 rfl
  obtain ⟨d2, F2⟩ := c.def_ 2 rfl
  obtain ⟨d3, F3⟩ := c.def_ 3 rfl
  obtain ⟨d4, F4⟩ := c.def_ 4 rfl
  obtain ⟨d5, F5⟩ := c.def_ 5 rfl
  obtain ⟨d6, F6⟩ := c.def_ 6 rfl
  obtain ⟨d7, F7⟩ := c.def_ 7 rfl
  obtain ⟨d8, F8⟩ := c.def_ 8 rfl
  obtain ⟨d9, F9⟩ := c.def_ 9 rfl
  obtain ⟨d10, F10⟩ := c.def_ 10 rfl
  obtain ⟨d11, F11⟩ := c.def_ 11 rfl
  obtain ⟨d12, F12⟩ := c.def_ 12 rfl
  obtain ⟨d13, F13⟩ := c.def_ 13 rfl
  obtain ⟨d14, F14⟩ := c.def_ 14 rfl
  obtain ⟨d15, F15⟩ := c.def_ 15 rfl
  obtain ⟨d16, F16⟩ := c.def_ 16 rfl
  obtain ⟨d17, F17⟩ := c.def_ 17 rfl
  obtain ⟨d18, F18⟩ := c.def_ 18 rfl
  obtain ⟨d19, F19⟩ := c.def_ 19 rfl
  obtain ⟨d20, F20⟩ := c.def_ 20 rfl
  obtain ⟨d21, F21⟩ := c.def_ 21 rfl
  obtain ⟨d22, F22⟩ := c.def_ 22 rfl
  obtain ⟨d23, F23⟩ := c.def_ 23 rfl
  obtain ⟨d24, F24⟩ := c.def_ 24 rfl
  obtain ⟨d25, F25⟩ := c.def_ 25 rfl
  obtain ⟨d26, F26⟩ := c.def_ 26 rfl
  obtain ⟨d27, F27⟩ := c.def_ 27 rfl
  obtain ⟨d28, F28⟩ := c.def_ 28 rfl
  obtain ⟨d29, F29⟩ := c.def_ 29 rfl
  obtain ⟨d30, F30⟩ := c.def_ 30 rfl
  obtain ⟨d31, F31⟩ := c.def_ 31 rfl
  obtain ⟨d32, F32⟩ := c.def_ 32 rfl
  obtain ⟨d33, F33⟩ := c.def_ 33 rfl
  obtain ⟨d34, F34⟩ := c.def_ 34 rfl
  obtain ⟨d35, F35⟩ := c.def_ 35 rfl
  obtain ⟨d36, F36⟩ := c.def_ 36 rfl
  have e := hfa.symm.trans (gl "law" (by decide))
  cases e
  have b := FunD.bindsA (ps := ["script"]) F36 fun _ _ _ _ _ _ us hl => match us, hl with | [_], _ => rfl
  have T0 : Fun K "is_integer" "is_integer" s_is_integer _ d0 := fun_of F0
  have T1 : Fun K "is_between" "is_between" s_is_between _ d1 := fun_of F1
  have T2 : Fun K "is_row" "is_row" s_is_row _ d2 := fun_of F2
  have T3 : Fun K "is_sheet" "is_sheet" s_is_sheet _ d3 := fun_of F3
  have T4 : Fun K "check_sheet" "check_sheet" s_check_sheet _ d4 := fun_of F4
  have T5 : Fun K "check_day" "check_day" s_check_day _ d5 := fun_of F5
  have T6 : Fun K "told_number" "told_number" s_told_number _ d6 := fun_of F6
  have T7 : Fun K "gap_between" "gap_between" s_gap_between _ d7 := fun_of F7
  have T8 : Fun K "away_from" "away_from" s_away_from _ d8 := fun_of F8
  have T9 : Fun K "end_of_away" "end_of_away" s_end_of_away _ d9 := fun_of F9
  have T10 : Fun K "fresh_on" "fresh_on" s_fresh_on _ d10 := fun_of F10
  have T11 : Fun K "start_of_fresh" "start_of_fresh" s_start_of_fresh _ d11 := fun_of F11
  have T12 : Fun K "_told_pairs" "_told_pairs" s__told_pairs _ d12 := fun_of F12
  have T13 : Fun K "numbers_in" "numbers_in" s_numbers_in _ d13 := fun_of F13
  have T14 : Fun K "conflict_of" "conflict_of" s_conflict_of _ d14 := fun_of F14
  have T15 : Fun K "conflicts_in" "conflicts_in" s_conflicts_in _ d15 := fun_of F15
  have T16 : Fun K "value_range" "value_range" s_value_range _ d16 := fun_of F16
  have T17 : Fun K "_values_at" "_values_at" s__values_at _ d17 := fun_of F17
  have T18 : Fun K "_law_bag" "_law_bag" s__law_bag _ d18 := fun_of F18
  have T19 : Fun K "_law_stirred" "_law_stirred" s__law_stirred _ d19 := fun_of F19
  have T20 : Fun K "_law_draw" "_law_draw" s__law_draw _ d20 := fun_of F20
  have T21 : Fun K "_law_alike" "_law_alike" s__law_alike _ d21 := fun_of F21
  have T22 : Fun K "_law_pattern" "_law_pattern" s__law_pattern _ d22 := fun_of F22
  have T23 : Fun K "_law_family" "_law_family" s__law_family _ d23 := fun_of F23
  have T24 : Fun K "_law_rows" "_law_rows" s__law_rows _ d24 := fun_of F24
  have T25 : Fun K "_law_number" "_law_number" s__law_number _ d25 := fun_of F25
  have T26 : Fun K "_law_gap" "_law_gap" s__law_gap _ d26 := fun_of F26
  have T27 : Fun K "_law_away" "_law_away" s__law_away _ d27 := fun_of F27
  have T28 : Fun K "_law_fresh" "_law_fresh" s__law_fresh _ d28 := fun_of F28
  have T29 : Fun K "_law_possible" "_law_possible" s__law_possible _ d29 := fun_of F29
  have T30 : Fun K "_law_with" "_law_with" s__law_with _ d30 := fun_of F30
  have T31 : Fun K "_law_bent" "_law_bent" s__law_bent _ d31 := fun_of F31
  have T32 : Fun K "_law_small_right" "_law_small_right" s__law_small_right _ d32 := fun_of F32
  have T33 : Fun K "_law_all_numbers" "_law_all_numbers" s__law_all_numbers _ d33 := fun_of F33
  have T34 : Fun K "_law_due" "_law_due" s__law_due _ d34 := fun_of F34
  have T35 : Fun K "_law_great_right" "_law_great_right" s__law_great_right _ d35 := fun_of F35
  have T36 : Fun K "law" "law" s_law _ d36 := fun_of F36
  have b0 := T0.binds (ps := ["thing"]) fun _ _ _ _ _ _ us hl => match us, hl with | [_], _ => rfl
  have b1 := T1.binds (ps := ["thing", "least", "most"]) fun _ _ _ _ _ _ us hl => match us, hl with | [_, _, _], _ => rfl
  have b2 := T2.binds (ps := ["thing", "length"]) fun _ _ _ _ _ _ us hl => match us, hl with | [_, _], _ => rfl
  have b3 := T3.binds (ps := ["thing"]) fun _ _ _ _ _ _ us hl => match us, hl with | [_], _ => rfl
  have b4 := T4.binds (ps := ["sheet"]) fun _ _ _ _ _ _ us hl => match us, hl with | [_], _ => rfl
  have b5 := T5.binds (ps := ["sheet", "day"]) fun _ _ _ _ _ _ us hl => match us, hl with | [_, _], _ => rfl
  have b6 := T6.binds (ps := ["sheet", "first", "last"]) fun _ _ _ _ _ _ us hl => match us, hl with | [_, _, _], _ => rfl
  have b7 := T7.binds (ps := ["sheet", "first", "second"]) fun _ _ _ _ _ _ us hl => match us, hl with | [_, _, _], _ => rfl
  have b8 := T8.binds (ps := ["sheet", "day"]) fun _ _ _ _ _ _ us hl => match us, hl with | [_, _], _ => rfl
  have b9 := T9.binds (ps := ["sheet", "day"]) fun _ _ _ _ _ _ us hl => match us, hl with | [_, _], _ => rfl
  have b10 := T10.binds (ps := ["sheet", "day"]) fun _ _ _ _ _ _ us hl => match us, hl with | [_, _], _ => rfl
  have b11 := T11.binds (ps := ["sheet", "day"]) fun _ _ _ _ _ _ us hl => match us, hl with | [_, _], _ => rfl
  have b12 := T12.binds (ps := ["sheet"]) fun _ _ _ _ _ _ us hl => match us, hl with | [_], _ => rfl
  have b13 := T13.binds (ps := ["sheet"]) fun _ _ _ _ _ _ us hl => match us, hl with | [_], _ => rfl
  have b14 := T14.binds (ps := ["sheet"]) fun _ _ _ _ _ _ us hl => match us, hl with | [_], _ => rfl
  have b15 := T15.binds (ps := ["sheet"]) fun _ _ _ _ _ _ us hl => match us, hl with | [_], _ => rfl
  have b16 := T16.binds (ps := ["sheet", "day", "back"]) fun _ _ _ _ _ _ us hl => match us, hl with | [_, _, _], _ => rfl
  have b17 := T17.binds (ps := ["sheet", "numbers", "day", "back"]) fun _ _ _ _ _ _ us hl => match us, hl with | [_, _, _, _], _ => rfl
  have b18 := T18.binds (ps := ["script"]) fun _ _ _ _ _ _ us hl => match us, hl with | [_], _ => rfl
  have b19 := T19.binds (ps := ["bag", "wide"]) fun _ _ _ _ _ _ us hl => match us, hl with | [_, _], _ => rfl
  have b20 := T20.binds (ps := ["bag", "wide"]) fun _ _ _ _ _ _ us hl => match us, hl with | [_, _], _ => rfl
  have b21 := T21.binds (ps := ["found", "due"]) fun _ _ _ _ _ _ us hl => match us, hl with | [_, _], _ => rfl
  have b22 := T22.binds (ps := ["bag", "many"]) fun _ _ _ _ _ _ us hl => match us, hl with | [_, _], _ => rfl
  have b23 := T23.binds (ps := ["bag", "many", "size", "far"]) fun _ _ _ _ _ _ us hl => match us, hl with | [_, _, _, _], _ => rfl
  have b24 := T24.binds (ps := ["family", "many", "wide"]) fun _ _ _ _ _ _ us hl => match us, hl with | [_, _, _], _ => rfl
  have b25 := T25.binds (ps := ["told", "begin", "end_here"]) fun _ _ _ _ _ _ us hl => match us, hl with | [_, _, _], _ => rfl
  have b26 := T26.binds (ps := ["told", "a", "b"]) fun _ _ _ _ _ _ us hl => match us, hl with | [_, _, _], _ => rfl
  have b27 := T27.binds (ps := ["told", "a"]) fun _ _ _ _ _ _ us hl => match us, hl with | [_, _], _ => rfl
  have b28 := T28.binds (ps := ["told", "b"]) fun _ _ _ _ _ _ us hl => match us, hl with | [_, _], _ => rfl
  have b29 := T29.binds (ps := ["told"]) fun _ _ _ _ _ _ us hl => match us, hl with | [_], _ => rfl
  have b30 := T30.binds (ps := ["told", "spot", "ago", "number"]) fun _ _ _ _ _ _ us hl => match us, hl with | [_, _, _, _], _ => rfl
  have b31 := T31.binds (ps := ["bag", "told", "far"]) fun _ _ _ _ _ _ us hl => match us, hl with | [_, _, _], _ => rfl
  have b32 := T32.binds (ps := ["bag"]) fun _ _ _ _ _ _ us hl => match us, hl with | [_], _ => rfl
  have b33 := T33.binds (ps := ["told"]) fun _ _ _ _ _ _ us hl => match us, hl with | [_], _ => rfl
  have b34 := T34.binds (ps := ["told", "spot", "ago"]) fun _ _ _ _ _ _ us hl => match us, hl with | [_, _, _], _ => rfl
  have b35 := T35.binds (ps := ["bag", "many"]) fun _ _ _ _ _ _ us hl => match us, hl with | [_, _], _ => rfl
  have m_abs := fr "abs" (by decide)
  have m_all := fr "all" (by decide)
  have m_bool := fr "bool" (by decide)
  have m_enumerate := fr "enumerate" (by decide)
  have m_int := fr "int" (by decide)
  have m_isinstance := fr "isinstance" (by decide)
  have m_len := fr "len" (by decide)
  have m_list := fr "list" (by decide)
  have m_max := fr "max" (by decide)
  have m_min := fr "min" (by decide)
  have m_range := fr "range" (by decide)
  have m_sorted := fr "sorted" (by decide)
  have m_str := fr "str" (by decide)
  have m_tuple := fr "tuple" (by decide)
  have m_type := fr "type" (by decide)
  have g0 := gl "is_integer" (by decide)
  have g1 := gl "is_between" (by decide)
  have g2 := gl "is_row" (by decide)
  have g3 := gl "is_sheet" (by decide)
  have g4 := gl "check_sheet" (by decide)
  have g5 := gl "check_day" (by decide)
  have g6 := gl "told_number" (by decide)
  have g7 := gl "gap_between" (by decide)
  have g8 := gl "away_from" (by decide)
  have g9 := gl "end_of_away" (by decide)
  have g10 := gl "fresh_on" (by decide)
  have g11 := gl "start_of_fresh" (by decide)
  have g12 := gl "_told_pairs" (by decide)
  have g13 := gl "numbers_in" (by decide)
  have g14 := gl "conflict_of" (by decide)
  have g15 := gl "conflicts_in" (by decide)
  have g16 := gl "value_range" (by decide)
  have g17 := gl "_values_at" (by decide)
  have g18 := gl "_law_bag" (by decide)
  have g19 := gl "_law_stirred" (by decide)
  have g20 := gl "_law_draw" (by decide)
  have g21 := gl "_law_alike" (by decide)
  have g22 := gl "_law_pattern" (by decide)
  have g23 := gl "_law_family" (by decide)
  have g24 := gl "_law_rows" (by decide)
  have g25 := gl "_law_number" (by decide)
  have g26 := gl "_law_gap" (by decide)
  have g27 := gl "_law_away" (by decide)
  have g28 := gl "_law_fresh" (by decide)
  have g29 := gl "_law_possible" (by decide)
  have g30 := gl "_law_with" (by decide)
  have g31 := gl "_law_bent" (by decide)
  have g32 := gl "_law_small_right" (by decide)
  have g33 := gl "_law_all_numbers" (by decide)
  have g34 := gl "_law_due" (by decide)
  have g35 := gl "_law_great_right" (by decide)
  refine ⟨d36, fun s v => b s [v] rfl, fun base _ _ => ?_⟩
  have G18 : FnOk P w K mg base CX0 1 _ d18 ["script"] (spBag K) := ok_bag (k := 0) (F := T18)  (m_int := m_int) (m_abs := m_abs)
  have G19 : FnOk P w K mg base CX0 1 _ d19 ["bag", "wide"] spDraw := ok_stirred (k := 0) (F := T19)  (m_int := m_int) (m_range := m_range)
  have G20 : FnOk P w K mg base CX0 2 _ d20 ["bag", "wide"] spDraw := ok_draw (k := 1) (F := T20) (F__law_stirred := T19) (G__law_stirred := G19.mono (by decide)) (b__law_stirred := b19) (g__law_stirred := g19) (m_int := m_int) (m_len := m_len)
  have G22 : FnOk P w K mg base CX0 3 _ d22 ["bag", "many"] spPat0 := ok_pat0 (k := 2) (F := T22) (F__law_draw := T20) (G__law_draw := G20.mono (by decide)) (b__law_draw := b20) (g__law_draw := g20) (m_tuple := m_tuple) (m_range := m_range)
  have G23 : FnOk P w K mg base CX0 4 _ d23 ["bag", "many", "size", "far"] spFam1 := ok_fam1 (k := 3) (F := T23) (F__law_draw := T20) (G__law_draw := G20.mono (by decide)) (b__law_draw := b20) (g__law_draw := g20) (F__law_pattern := T22) (G__law_pattern := G22.mono (by decide)) (b__law_pattern := b22) (g__law_pattern := g22) (m_range := m_range) (m_sorted := m_sorted) (m_list := m_list)
  have G24 : FnOk P w K mg base CX0 1 _ d24 ["family", "many", "wide"] spRows := ok_rows (k := 0) (F := T24)  (m_range := m_range) (m_len := m_len)
  have G31 : FnOk P w K mg base CX0 3 _ d31 ["bag", "told", "far"] spBent := ok_bent (k := 2) (F := T31) (F__law_draw := T20) (G__law_draw := G20.mono (by decide)) (b__law_draw := b20) (g__law_draw := g20) (m_list := m_list) (m_range := m_range) (m_len := m_len) (m_max := m_max)
  have G25 : FnOk P w K mg base CX0 1 _ d25 ["told", "begin", "end_here"] spU := ok_bnum (k := 0) (F := T25)  
  have G26 : FnOk P w K mg base CX0 2 _ d26 ["told", "a", "b"] spGapB := ok_bgap (k := 1) (F := T26) (F__law_number := T25) (G__law_number := G25.mono (by decide)) (b__law_number := b25) (g__law_number := g25) 
  have G27 : FnOk P w K mg base CX0 2 _ d27 ["told", "a"] spAwF := ok_baway (k := 1) (F := T27) (F__law_number := T25) (G__law_number := G25.mono (by decide)) (b__law_number := b25) (g__law_number := g25) (m_len := m_len) (m_min := m_min)
  have G28 : FnOk P w K mg base CX0 2 _ d28 ["told", "b"] spFrO := ok_bfresh (k := 1) (F := T28) (F__law_number := T25) (G__law_number := G25.mono (by decide)) (b__law_number := b25) (g__law_number := g25) (m_len := m_len) (m_max := m_max)
  have G29 : FnOk P w K mg base CX0 3 _ d29 ["told"] spPos := ok_pos (k := 2) (F := T29) (F__law_gap := T26) (G__law_gap := G26.mono (by decide)) (b__law_gap := b26) (g__law_gap := g26) (F__law_away := T27) (G__law_away := G27.mono (by decide)) (b__law_away := b27) (g__law_away := g27) (F__law_fresh := T28) (G__law_fresh := G28.mono (by decide)) (b__law_fresh := b28) (g__law_fresh := g28) (m_len := m_len) (m_range := m_range) (m_min := m_min)
  have G30 : FnOk P w K mg base CX0 1 _ d30 ["told", "spot", "ago", "number"] spWith := ok_with (k := 0) (F := T30)  (m_list := m_list)
  have G0 : FnOk P w K mg base CX0 1 _ d0 ["thing"] spIsInt := ok_isint (k := 0) (F := T0)  (m_type := m_type) (m_int := m_int)
  have G2 : FnOk P w K mg base CX0 2 _ d2 ["thing", "length"] spRow := ok_row (k := 1) (F := T2) (F_is_integer := T0) (G_is_integer := G0.mono (by decide)) (b_is_integer := b0) (g_is_integer := g0) (m_type := m_type) (m_list := m_list) (m_len := m_len) (m_all := m_all)
  have G3 : FnOk P w K mg base CX0 3 _ d3 ["thing"] spIsSh := ok_issh (k := 2) (F := T3) (F_is_row := T2) (G_is_row := G2.mono (by decide)) (b_is_row := b2) (g_is_row := g2) (g_MOST_DAYS := g_MOST_DAYS) (m_type := m_type) (m_list := m_list) (m_len := m_len) (m_all := m_all) (m_min := m_min) (m_enumerate := m_enumerate)
  have G4 : FnOk P w K mg base CX0 4 _ d4 ["sheet"] spCkSh := ok_cksh (k := 3) (F := T4) (F_is_sheet := T3) (G_is_sheet := G3.mono (by decide)) (b_is_sheet := b3) (g_is_sheet := g3) 
  have G1 : FnOk P w K mg base CX0 2 _ d1 ["thing", "least", "most"] spBetw := ok_betw (k := 1) (F := T1) (F_is_integer := T0) (G_is_integer := G0.mono (by decide)) (b_is_integer := b0) (g_is_integer := g0) 
  have G5 : FnOk P w K mg base CX0 3 _ d5 ["sheet", "day"] spCkDay := ok_ckday (k := 2) (F := T5) (F_is_between := T1) (G_is_between := G1.mono (by decide)) (b_is_between := b1) (g_is_between := g1) (m_len := m_len)
  have G6 : FnOk P w K mg base CX0 1 _ d6 ["sheet", "first", "last"] spU := ok_toldU (k := 0) (F := T6)  
  have G7 : FnOk P w K mg base CX0 2 _ d7 ["sheet", "first", "second"] spGapB := ok_gapb (k := 1) (F := T7) (F_told_number := T6) (G_told_number := G6.mono (by decide)) (b_told_number := b6) (g_told_number := g6) 
  have G12 : FnOk P w K mg base CX0 1 _ d12 ["sheet"] spPairs := ok_pairs (k := 0) (F := T12)  (m_len := m_len) (m_min := m_min) (m_range := m_range)
  have G9 : FnOk P w K mg base CX0 1 _ d9 ["sheet", "day"] spEndA := ok_enda (k := 0) (F := T9)  (m_len := m_len) (m_min := m_min)
  have G8 : FnOk P w K mg base CX0 2 _ d8 ["sheet", "day"] spAwF := ok_awf (k := 1) (F := T8) (F_end_of_away := T9) (G_end_of_away := G9.mono (by decide)) (b_end_of_away := b9) (g_end_of_away := g9) (F_told_number := T6) (G_told_number := G6.mono (by decide)) (b_told_number := b6) (g_told_number := g6) 
  have G11 : FnOk P w K mg base CX0 1 _ d11 ["sheet", "day"] spStF := ok_stf (k := 0) (F := T11)  (m_len := m_len) (m_max := m_max)
  have G10 : FnOk P w K mg base CX0 2 _ d10 ["sheet", "day"] spFrO := ok_fro (k := 1) (F := T10) (F_start_of_fresh := T11) (G_start_of_fresh := G11.mono (by decide)) (b_start_of_fresh := b11) (g_start_of_fresh := g11) (F_told_number := T6) (G_told_number := G6.mono (by decide)) (b_told_number := b6) (g_told_number := g6) 
  have G13 : FnOk P w K mg base CX0 3 _ d13 ["sheet"] spNums := ok_nums (k := 2) (F := T13) (F_gap_between := T7) (G_gap_between := G7.mono (by decide)) (b_gap_between := b7) (g_gap_between := g7) (F__told_pairs := T12) (G__told_pairs := G12.mono (by decide)) (b__told_pairs := b12) (g__told_pairs := g12) (F_away_from := T8) (G_away_from := G8.mono (by decide)) (b_away_from := b8) (g_away_from := g8) (F_fresh_on := T10) (G_fresh_on := G10.mono (by decide)) (b_fresh_on := b10) (g_fresh_on := g10) (F_end_of_away := T9) (G_end_of_away := G9.mono (by decide)) (b_end_of_away := b9) (g_end_of_away := g9) (F_start_of_fresh := T11) (G_start_of_fresh := G11.mono (by decide)) (b_start_of_fresh := b11) (g_start_of_fresh := g11) (m_len := m_len) (m_range := m_range)
  have G17 : FnOk P w K mg base CX0 1 _ d17 ["sheet", "numbers", "day", "back"] spVals := ok_vals (k := 0) (F := T17)  (m_max := m_max) (m_min := m_min)
  have G16 : FnOk P w K mg base CX0 5 _ d16 ["sheet", "day", "back"] spVRo := ok_vrO (k := 4) (F := T16) (F_check_sheet := T4) (G_check_sheet := G4.mono (by decide)) (b_check_sheet := b4) (g_check_sheet := g4) (F_check_day := T5) (G_check_day := G5.mono (by decide)) (b_check_day := b5) (g_check_day := g5) (F_is_between := T1) (G_is_between := G1.mono (by decide)) (b_is_between := b1) (g_is_between := g1) (F_numbers_in := T13) (G_numbers_in := G13.mono (by decide)) (b_numbers_in := b13) (g_numbers_in := g13) (F__values_at := T17) (G__values_at := G17.mono (by decide)) (b__values_at := b17) (g__values_at := g17) (m_len := m_len)
  have G21 : FnOk P w K mg base CX0 4 _ d21 ["found", "due"] (spAl 2) := ok_alike (k := 1) (F := T21) (g__law_alike := g21) (b__law_alike := b21) (m_isinstance := m_isinstance) (m_list := m_list) (m_tuple := m_tuple) (m_len := m_len) (m_range := m_range) (m_all := m_all) (m_bool := m_bool) (m_int := m_int) (m_str := m_str) 2
  have G32 : FnG P w K mg base 6 _ d32 ["bag"] spSmall := ok_small (k := 5) (F := T32) (F__law_draw := T20) (G__law_draw := G20.mono (by decide)) (b__law_draw := b20) (g__law_draw := g20) (F__law_family := T23) (G__law_family := G23.mono (by decide)) (b__law_family := b23) (g__law_family := g23) (F__law_rows := T24) (G__law_rows := G24.mono (by decide)) (b__law_rows := b24) (g__law_rows := g24) (F__law_bent := T31) (G__law_bent := G31.mono (by decide)) (b__law_bent := b31) (g__law_bent := g31) (F__law_possible := T29) (G__law_possible := G29.mono (by decide)) (b__law_possible := b29) (g__law_possible := g29) (F__law_with := T30) (G__law_with := G30.mono (by decide)) (b__law_with := b30) (g__law_with := g30) (F_value_range := T16) (G_value_range := G16.mono (by decide)) (b_value_range := b16) (g_value_range := g16) (F__law_alike := T21) (G__law_alike := G21.mono (by decide)) (b__law_alike := b21) (g__law_alike := g21) (m_len := m_len) (m_range := m_range) (m_list := m_list)
  have G33 : FnOk P w K mg base CX0 3 _ d33 ["told"] spAllN := ok_alln (k := 2) (F := T33) (F__law_gap := T26) (G__law_gap := G26.mono (by decide)) (b__law_gap := b26) (g__law_gap := g26) (F__law_away := T27) (G__law_away := G27.mono (by decide)) (b__law_away := b27) (g__law_away := g27) (F__law_fresh := T28) (G__law_fresh := G28.mono (by decide)) (b__law_fresh := b28) (g__law_fresh := g28) (m_len := m_len) (m_range := m_range) (m_min := m_min)
  have G34 : FnOk P w K mg base CX0 4 _ d34 ["told", "spot", "ago"] spDue := ok_due (k := 3) (F := T34) (F__law_all_numbers := T33) (G__law_all_numbers := G33.mono (by decide)) (b__law_all_numbers := b33) (g__law_all_numbers := g33) (F__law_with := T30) (G__law_with := G30.mono (by decide)) (b__law_with := b30) (g__law_with := g30) (m_len := m_len) (m_range := m_range) (m_min := m_min) (m_max := m_max)
  have G15 : FnOk P w K mg base CX0 4 _ d15 ["sheet"] spConf := ok_conf (k := 3) (F := T15) (F_numbers_in := T13) (G_numbers_in := G13.mono (by decide)) (b_numbers_in := b13) (g_numbers_in := g13) (m_sorted := m_sorted)
  have G14 : FnOk P w K mg base CX0 5 _ d14 ["sheet"] spPoss := ok_confof (k := 4) (F := T14) (F_check_sheet := T4) (G_check_sheet := G4.mono (by decide)) (b_check_sheet := b4) (g_check_sheet := g4) (F_conflicts_in := T15) (G_conflicts_in := G15.mono (by decide)) (b_conflicts_in := b15) (g_conflicts_in := g15) (m_len := m_len)
  have G35 : FnOk P w K mg base CX0 6 _ d35 ["bag", "many"] spGreat := ok_great (k := 5) (F := T35) (F__law_draw := T20) (G__law_draw := G20.mono (by decide)) (b__law_draw := b20) (g__law_draw := g20) (F__law_family := T23) (G__law_family := G23.mono (by decide)) (b__law_family := b23) (g__law_family := g23) (F__law_rows := T24) (G__law_rows := G24.mono (by decide)) (b__law_rows := b24) (g__law_rows := g24) (F__law_bent := T31) (G__law_bent := G31.mono (by decide)) (b__law_bent := b31) (g__law_bent := g31) (F__law_with := T30) (G__law_with := G30.mono (by decide)) (b__law_with := b30) (g__law_with := g30) (F_value_range := T16) (G_value_range := G16.mono (by decide)) (b_value_range := b16) (g_value_range := g16) (F__law_due := T34) (G__law_due := G34.mono (by decide)) (b__law_due := b34) (g__law_due := g34) (F__law_alike := T21) (G__law_alike := G21.mono (by decide)) (b__law_alike := b21) (g__law_alike := g21) (F_conflict_of := T14) (G_conflict_of := G14.mono (by decide)) (b_conflict_of := b14) (g_conflict_of := g14) (m_len := m_len) (m_range := m_range) (m_list := m_list) (m_min := m_min)
  exact ok_law (k := 6) (F := T36) (F__law_bag := T18) (G__law_bag := G18.mono (by decide)) (b__law_bag := b18) (g__law_bag := g18) (F__law_draw := T20) (G__law_draw := G20.mono (by decide)) (b__law_draw := b20) (g__law_draw := g20) (F__law_small_right := T32) (G__law_small_right := G32.mono (by decide)) (b__law_small_right := b32) (g__law_small_right := g32) (F__law_great_right := T35) (G__law_great_right := G35.mono (by decide)) (b__law_great_right := b35) (g__law_great_right := g35) (F_value_range := T16) (G_value_range := G16.mono (by decide)) (b_value_range := b16) (g_value_range := g16) (F__law_alike := T21) (G__law_alike := G21.mono (by decide)) (b__law_alike := b21) (g__law_alike := g21) (m_range := m_range)
end K46
open PySem PySem.W PySem.Calls PyProof.Rows
theorem PySem.Challenge.cw_facesagain_k46_values_of_one_number_holds : PySem.Challenge.rw_facesagain_k46_values_of_one_number.Holds := by
  w_on; o_law
  refine HandSHeadRun.head_any (r := OpenLaw.row PySem.Challenge.rw_facesagain_k46_values_of_one_number) (q := view (OpenLaw.row PySem.Challenge.rw_facesagain_k46_values_of_one_number).prog [46]) (H := K46.hk) (ob := K46.ob) (M := 4000) (loose := K46.loo) (d := HandSHeadRun.topDef (OpenLaw.row PySem.Challenge.rw_facesagain_k46_values_of_one_number).prog 46) (kwd := []) K46.ob_eq
    (by kernel_rfl) (fun s => by kernel_rfl) K46.run (by kernel_rfl) (by kernel_rfl) (by kernel_rfl) (by rfl) (by first | assumption | decide +kernel) (by decide +kernel) ⟨rfl, rfl, rfl, rfl, rfl, by decide +kernel⟩ ?hw ?hc
  case hw => w_witness2
  case hc =>
    refine Fa.walkG (l := PySem.Challenge.rw_facesagain_k46_values_of_one_number) (n := 63) (k := 7) (x := "script") rfl (by decide) (by kernel_rfl) ⟨rfl, by decide, by decide⟩ ?_
    intro w mg fa h Y G hmg0
    obtain ⟨K, KX, c⟩ := Y
    have hmg : mg ("law" : PySem.Str) = some (.ref fa) := by
      have e : (HandSHeadRun.topDef (OpenLaw.row PySem.Challenge.rw_facesagain_k46_values_of_one_number).prog 46).name = ("law" : PySem.Str) := by kernel_rfl
      rw [← e]
      exact hmg0
    obtain ⟨fd, hb, hF⟩ := K46.facts (P := (PySem.Challenge.rw_facesagain_k46_values_of_one_number).prog) (w := w) KX G hmg c
    exact ⟨K, fd, K46.spLaw K, KX, hb, fun H a ns hl _ hS => ⟨a, ns, rfl, hS, hl, fun _ => rfl⟩, hF⟩
