import PyProof.Rows.All
import Wide.All
import OpenK.AllK
import Wide.FinOn
import HandS.ForMost
import HandS.ExcValue
import HandS.ExcInit
import HandS.IsInst
import HandS.ExcIs
import HandS.ExcField
import HandS.Wide
import HandS.WideBits
import HandS.MakeKwOnly
import KE.KExcIs
import HandS.Defaults
import HandS.HeadEnd
import HandS.HeadHook4
import HandS.Head2
import HandS.Conv
import HandS.TupAny
import HandS.SortOrd
import HandS.SortRule
import PyProof.ReprRoads
import HandS.NamedTupSort
import HandS.Walk
import HandS.Iter
import HandS.Zip
import HandS.Words
import HandS.Ends
import PyProof.TypeEq
import PyProof.InstEq
import PyProof.ReprLen
import PyProof.FitsInt
import HandS.RaiseMore
import HandS.Style
import KE.DatumOrd
import HandS.DictComp
import HandS.Flt
import HandS.DictTup
import KE.KDictWalk
import HandS.EndTab
import HandS.NestedK
import KE.KDictItemsList
import KE.KDictZip
import KE.GoesMore
import KE.GoesEnum
import HandS.Deep
import PySem.Challenge.RW_facesagain_k21_once_and_daily
set_option Elab.async false
set_option linter.all false
set_option maxRecDepth 100000
/-! exceptions of own classes as values: made with an own __init__ (positional, keywords), their fields, isinstance -/
namespace PySem
namespace Fa
open PySem.W PySem.Calls PyProof.Rows PySem.HandSPX
section
variable {prog : Program} {w : World} {A : Around} {E : Value → Shared → Prop} {R : Result → Shared → Prop} {h : Heap} {g : Array GenState} {d : Drawn} {t : Nat} {os : OsState}
variable {nm q : Str} {C N : Addr} {bs bm bmB : List Value} {hdct : Bool} {sn : List Str} {sub : List Value} {ab : Bool} {col : Option Bool} {dd : Option Addr} {k0 k1 k2 k3 k5 : Option Value} {B newId initId : String}
theorem kw_check (F : ExcBaseFacts B newId initId bmB) (same : ∀ X : String, bm.contains (.type X) = bmB.contains (.type X)) {us : List Value} {kw : List (Str × Value)} {Q : Unit → Shared → Prop}
    (oC : h.get? C = some (excClassObj nm q C N bs bm hdct sn sub ab col dd k0 k1 k2 k3 k5 newId)) (fin : Q () ⟨h, g, d, t, os⟩) : wpAny (model prog w) A (checkBuiltinCall newId ⟨.ref C :: us, kw⟩) Q E ⟨h, g, d, t, os⟩ := by
  have c1 : (Value.ref C :: bm).contains (.type B) = true := by rw [List.contains_cons, same, F.hasB, Bool.or_true]
  have c2 := F.noStar
  simp only [checkBuiltinCall, F.newKind, F.newSplit, F.newRow]
  repeat (first
    | refine wpAny_loadPart_at oC ?_
    | (refine wpAny_isSubtype_exc oC ?_; rw [c1])
    | refine wpAny_staticBase_exc oC ?_
    | refine wpAny_madeBy_exc oC ?_
    | simp only [bne_self_eq_false, Bool.false_eq_true, if_false]
    | wp_step)
  exact fin
theorem kw_new (F : ExcBaseFacts B newId initId bmB) (same : ∀ X : String, bm.contains (.type X) = bmB.contains (.type X)) {us : List Value} {kw : List (Str × Value)}
    (oC : h.get? C = some (excClassObj nm q C N bs bm hdct sn sub ab col dd k0 k1 k2 k3 k5 newId))
    (fin : R (.ok (.ret (.ref (h.objs.size + 1)))) ⟨(h.push { cls := .type "tuple", data := .seq us.toArray }).push { cls := .ref C, data := .fields #[.ref h.objs.size, .none, .none, .none, .bool false, .none] }, g, d, t, os⟩)
    (hu : us.length ≤ sizeLine) : codeAny (model prog w) A (.builtin newId ⟨.ref C :: us, kw⟩) R ⟨h, g, d, t, os⟩ := by
  have c0 := F.ends
  have c1 : (Value.ref C :: bm).contains (.type B) = true := by rw [List.contains_cons, same, F.hasB, Bool.or_true]
  have c2 : (Value.ref C :: bm).contains (.type "AttributeError") = false := by rw [List.contains_cons, same, F.noAttr]; rfl
  have c3 : (Value.ref C :: bm).contains (.type "NameError") = false := by rw [List.contains_cons, same, F.noName]; rfl
  refine codeAny_builtinAt F.entry ?_
  unfold Builtin.«BaseException.__new__»
  refine wpAt_bind ?_
  show wpAt _ _ _ (stack >>= _) _ _ _
  refine wpAt_bind (wpAt_stack fun p below => wpAt_of_wpAny ?_)
  wp_walk
  refine wpAt_of_wpAny ?_
  rw [F.owner]
  repeat (first
    | with_reducible refine wpAny_madeHere_exc F.canon oC ?_
    | with_reducible refine wpAny_loadPart_at oC ?_
    | (with_reducible refine wpAny_isSubtype_exc oC ?_; first | rw [c1] | rw [c2] | rw [c3])
    | wp_step)
  show R _ _
  rw [Heap.size_push]
  exact fin
theorem kw_type_call (F : ExcBaseFacts B newId initId bmB) (same : ∀ X : String, bm.contains (.type X) = bmB.contains (.type X)) {us : List Value} {kw : List (Str × Value)} {fI : Addr} {Q : Fin → Shared → Prop}
    (oC : h.get? C = some (excClassObj nm q C N bs bm hdct sn sub ab col dd k0 k1 k2 k3 k5 newId))
    (hi : W.Looks (model prog w) h (typeLookup (.ref C) "__init__") (some (.ref fI))) (hb : ∀ self, W.Looks (model prog w) h (bindSpecial (.ref fI) self) (.ref fI, [self])) (hu : us.length ≤ sizeLine)
    (run : codeAny (model prog w) A (.call (.ref fI) ⟨.ref (h.objs.size + 1) :: us, kw⟩)
      (fun r s' => match r with | .ok (.ret v) => v = .none ∧ Q (.done (.ret (.ref (h.objs.size + 1)))) s' | .ok _ => False | .error e => E e s')
      ⟨(h.push (W.kdv_tup us)).push (excO C h.objs.size), g, d, t, os⟩) :
    wpAny (model prog w) A (Builtin.«type.__call__» ⟨.ref C :: us, kw⟩) Q E ⟨h, g, d, t, os⟩ := by
  repeat (first
    | with_reducible refine wpAny_loadPart_at oC ?_
    | with_reducible refine wpAny_madeBy_exc oC ?_
    | wp_step)
  refine codeAny_call_builtin_code (Code.quiet_builtin _ F.quiet) (kw_check F same oC ?_)
  refine kw_new F same oC ?_ hu
  show wpAny _ _ _ _ _ _
  have kk : ∀ b o, h.get? b = some o → ((h.push (W.kdv_tup us)).push (excO C h.objs.size)).get? b = some o := fun b o e =>
    Heap.get?_push_of_some _ (Heap.get?_push_of_some _ e)
  have oC1 := kk _ _ oC
  have oE : ((h.push (W.kdv_tup us)).push (excO C h.objs.size)).get? (h.objs.size + 1) = some (excO C h.objs.size) := by
    heap_get
  have cC : (Value.ref C :: bm).contains (.ref C) = true := by
    simp
  have i1 := hi.keeps kk
  have b1 := (hb (.ref (h.objs.size + 1))).keeps kk
  unfold isInstance
  repeat (first
    | with_reducible refine wpAny_loadPart_at oE ?_
    | (with_reducible refine wpAny_isSubtype_exc oC1 ?_; rw [cC])
    | wp_step)
  show wpAny _ _ (typeLookup (.ref C) _) _ _ _
  refine i1.at ?_
  refine wpAny_holding (wpAny_bind (b1.at ?_))
  refine wpAny_bind (wpAny_call (codeAny_mono run fun r s' z => ?_))
  rcases r with e | (v | _ | _ | _) <;> first | exact z | exact z.elim | skip
  obtain ⟨rfl, z⟩ := z
  first
    | exact wpAny_pure (wpAny_pure z)
    | (wp_walk; exact z)
theorem kw_own (F : ExcBaseFacts B newId initId bmB) (same : ∀ X : String, bm.contains (.type X) = bmB.contains (.type X)) {us : List Value} {kw : List (Str × Value)} {fI : Addr}
    (oC : h.get? C = some (excClassObj nm q C N bs bm hdct sn sub ab col dd k0 k1 k2 k3 k5 newId))
    (hi : W.Looks (model prog w) h (typeLookup (.ref C) "__init__") (some (.ref fI))) (hb : ∀ self, W.Looks (model prog w) h (bindSpecial (.ref fI) self) (.ref fI, [self])) (hu : us.length ≤ sizeLine)
    (run : codeAny (model prog w) (A.under (.builtin "type.__call__" ⟨.ref C :: us, kw⟩)) (.call (.ref fI) ⟨.ref (h.objs.size + 1) :: us, kw⟩) (W.InitBack (h.objs.size + 1) R)
      ⟨(h.push (W.kdv_tup us)).push (excO C h.objs.size), g, d, t, os⟩) :
    codeAny (model prog w) A (.call (.ref C) ⟨us, kw⟩) R ⟨h, g, d, t, os⟩ := by
  have f1 := tc_lookup
  have f2 := tc_bind (.ref C)
  have hTy : (⟨h, g, d, t, os⟩ : Shared).TypeIs (.ref C) "type" := ⟨_, oC, rfl⟩
  refine codeAny_of_tree ?_
  show wpAny _ _ (callAny (.ref C) _) _ _ _
  repeat (any_goals (first
    | assumption
    | with_reducible refine wpAny_loadPart_at oC ?_
    | wp_step))
  refine ⟨rfl, ?_⟩
  refine codeAny_call_builtin_at (Code.quiet_builtin _ (by decide +kernel)) entry_typeCall (wpAny_check_type_call_sub oC (kw_type_call F same oC hi hb hu ?_))
  refine codeAny_mono run fun r s' z => ?_
  rcases r with e | (v | _ | _ | _) <;> exact z
end
end Fa
end PySem

namespace Fa
open PySem PySem.Spec PyProof.Rows L2
/-- C(e, .., k = v, ..), an own exception with its own __init__, as a value -/
def tMkV (C : Addr) (n m : Nat) (sp : Sp) (gV : List V → List V → List V) (t tk : TA) : TE := fun σ H Q => t σ H fun vs H1 => tk σ H1 fun zs H2 =>
  vs.length = n ∧ n ≤ 1000 ∧ zs.length = m ∧ ∀ a, H2 a = none → sp (gV (.ref a :: vs) zs) (upd H2 a (exo a C none)) (fun v H3 => v = .non ∧ Q (.ref a) H3) (fun _ _ _ => False)
section
variable {X : Cx} {CX : CXT} {k n : Nat} {fI C : Addr} {fd : FuncData} {ps ks : List Str} {sp : Sp} {x : Str} {p pos : Pos} {e : Expr} {es : List Expr} {kws : List Keyword} {t tk : TA} {g : List Value → List Value → List Value} {gV : List V → List V → List V}
theorem run_mkV {pins : List (Addr × Obj)} {σ : L2.St} {H : Hp} {s : Shared} {Q : VK} {us ws : List Value} {vs zs : List V} (T : OexC X.K C) (iC : PySem.W.findIn X.K (.ref C) "__init__" = some (some (.ref fI)))
    (tI : PySem.W.typeIn X.K (.ref fI) = some (.type "function")) (F1 : FnOk X.prog X.w X.K X.mg X.base CX k fI fd ps sp) (hr : Room (k + 1) X.A) (hb : KBn X.K fd ps (n + 1) ks g gV) (hx : Passes CX X (fun _ _ _ => False))
    (I : Inv X pins σ H s) (r : Vals vs us) (rz : Vals zs ws) (l1 : vs.length = n) (l0 : n ≤ 1000) (l2 : zs.length = ks.length)
    (h : ∀ a, H a = none → sp (gV (.ref a :: vs) zs) (upd H a (exo a C none)) (fun v H3 => v = .non ∧ Q (.ref a) H3) (fun _ _ _ => False)) :
    wpAny (model X.prog X.w) X.A (call (.ref C) us (ks.zip ws)) (EP X pins σ Q) X.xe s := by
  obtain ⟨nm, q, N, bs, bm, sn, sub, ab, col, dd, k0, k1, k2, k3, k5, hC, hbm⟩ := T.cls
  obtain ⟨hp, gg, dr, t1, os⟩ := s
  have big : hp.objs.size ≤ hp.objs.size + 1 := Nat.le_succ _
  have hq := h (hp.objs.size + 1) (I.hok.fresh big)
  have kk : ∀ b o, hp.get? b = some o → ((hp.push (PySem.W.kdv_tup us)).push (PySem.HandSPX.excO C hp.objs.size)).get? b = some o := fun b o e =>
    Heap.get?_push_of_some _ (Heap.get?_push_of_some _ e)
  have oE : ((hp.push (PySem.W.kdv_tup us)).push (PySem.HandSPX.excO C hp.objs.size)).get? (hp.objs.size + 1) = some (PySem.HandSPX.excO C hp.objs.size) := by
    heap_get
  have I2 : Inv X pins σ (upd H (hp.objs.size + 1) (exo (hp.objs.size + 1) C none)) ⟨(hp.push (PySem.W.kdv_tup us)).push (PySem.HandSPX.excO C hp.objs.size), gg, dr, t1, os⟩ :=
    I.laid (t' := t1) (a := hp.objs.size + 1) (o := exo (hp.objs.size + 1) C none) kk big (exo_ok oE)
  have r1 : Vals (V.ref (hp.objs.size + 1) :: vs) (Value.ref (hp.objs.size + 1) :: us) := .cons rfl r
  have r2 := hb.rel r1 rz
  have n1 : (Value.ref (hp.objs.size + 1) :: us).length = n + 1 := by
    rw [List.length_cons, ← r.length, l1]
  have hus : us.length ≤ sizeLine := by
    rw [← r.length, l1, sizeLine_eq]
    omega
  refine wpAny_call (PySem.Fa.kw_own F.excBase_ValueError (fun Y => PySem.HandSPX.refsVE_contains Y bm hbm) (I.kIn _ _ hC) (PySem.W.looks_findIn I.kIn iC) (fun self => PySem.W.bind_fn I.kIn self tI) hus
    (codeAny_mono (F1.run _ X.stack _ _ ⟨Value.ref (hp.objs.size + 1) :: us, ks.zip ws⟩ (g (Value.ref (hp.objs.size + 1) :: us) ws) _ _ (fun _ _ _ => False) (hr.make C us (ks.zip ws))
      (I2.env0.make C us (ks.zip ws)) (hb.to _ (Value.ref (hp.objs.size + 1) :: us) ws I2.kIn n1 (rz.length.symm.trans l2)) r2 hq) fun r s' hq' => ?_))
  cases r with
  | error er => exact hx pins σ _ _ er s' I2 hq'
  | ok fl =>
    cases fl with
    | ret u =>
      obtain ⟨v, H', I3, rv, ev, q3⟩ := I2.after hq'
      subst ev
      exact ⟨rv, V.ref (hp.objs.size + 1), H', I3, rfl, q3⟩
    | next => exact False.elim hq'
    | brk => exact False.elim hq'
    | cont => exact False.elim hq'
theorem pe_mkV (T : OexC X.K C) (iC : PySem.W.findIn X.K (.ref C) "__init__" = some (some (.ref fI))) (tI : PySem.W.typeIn X.K (.ref fI) = some (.type "function"))
    (F1 : FnOk X.prog X.w X.K X.mg X.base CX k fI fd ps sp) (hr : Room (k + 1) X.A) (hg : Gl X x) (hm : X.mg x = some (.ref C)) (hb : KBn X.K fd ps (n + 1) [] g gV) (hx : Passes CX X (fun _ _ _ => False)) (ha : PA X (e :: es) t)
    (hdb : (x == ("__debug__" : Str)) = false := by decide) (he : starEach (e :: es) X.env = (false, eval e X.env) :: starEach es X.env := by rfl) (hpl : (backTo pos (starEach es X.env)).any (·.1) = false := by rfl) :
    PE X (.Call (.Name x p) (e :: es) [] pos) (tMkV C n 0 sp gV t tNil) := by
  refine ⟨fun pins s σ H Q I h => ?_⟩
  refine wpAny_Call_Name_kw (ld_glob I hg hm ?_ hdb)
  refine PySem.W.callWith_K (h₀ := X.base) I.ok.mod.kin T.kC (thn (ha.run pos pins s σ H _ I h) fun us s1 ⟨vs, H1, I1, r1, l1, l0, l2, q1⟩ => ⟨I1.kIn, ?_⟩) he hpl
  exact run_mkV (ks := []) (ws := []) (zs := []) T iC tI F1 hr hb hx I1 r1 .nil l1 l0 l2 q1
theorem pe_mkVK (T : OexC X.K C) (iC : PySem.W.findIn X.K (.ref C) "__init__" = some (some (.ref fI))) (tI : PySem.W.typeIn X.K (.ref fI) = some (.type "function"))
    (F1 : FnOk X.prog X.w X.K X.mg X.base CX k fI fd ps sp) (hr : Room (k + 1) X.A) (hg : Gl X x) (hm : X.mg x = some (.ref C)) (hb : KBn X.K fd ps 1 ks g gV) (hx : Passes CX X (fun _ _ _ => False)) (hkw : PK X kws tk)
    (hall : (backToKw pos (keywordEach kws X.env)).all (·.1.isSome) = true := by rfl) (hks : (backToKw pos (keywordEach kws X.env)).filterMap (·.1) = ks := by rfl) (hdb : (x == ("__debug__" : Str)) = false := by decide)
    (hpl : ((backTo pos (starEach [] X.env)).any (·.1) || (backToKw pos (keywordEach kws X.env)).any (·.1.isNone)) = false := by rfl) :
    PE X (.Call (.Name x p) [] kws pos) (tMkV C 0 ks.length sp gV tNil tk) := by
  refine ⟨fun pins s σ H Q I h => ?_⟩
  refine wpAny_Call_Name_kw (ld_glob I hg hm ?_ hdb)
  refine PySem.W.callWith_KW0 (h₀ := X.base) I.ok.mod.kin T.kC hall ?_ hpl
  refine thn (hkw.run pos pins s σ H _ I h) fun ws s2 ⟨zs, H2, I2, rz, l1, l0, l2, q2⟩ => ⟨I2.kIn, ?_⟩
  rw [hks]
  exact run_mkV (us := []) (vs := []) T iC tI F1 hr hb hx I2 .nil rz rfl l0 l2 q2
end
/-- at a: an exception of the class at C, with these fields -/
def ExcAt (H : Hp) (a C : Addr) (fs : List (Str × V)) : Prop := (H a = some (ExO (.ref C) a) ∧ fs = []) ∨ ∃ d, H a = some (exo a C (some d)) ∧ H d = some (exd d fs)
theorem ExcAt.same {H H' : Hp} {a C : Addr} {fs : List (Str × V)} (e : Same H H') (h : ExcAt H a C fs) : ExcAt H' a C fs := by
  rcases h with ⟨h, z⟩ | ⟨d, h1, h2⟩
  · exact .inl ⟨e _ _ h, z⟩
  · exact .inr ⟨d, e _ _ h1, e _ _ h2⟩
theorem ExcAt.inst {P : Program} {w : World} {H : Hp} {h : Heap} {a C : Addr} {fs : List (Str × V)} (hok : HOk P w H h) (x : ExcAt H a C fs) : ∃ o od, PySem.W.InstAt h a o C od := by
  rcases x with ⟨x, _⟩ | ⟨d, x1, x2⟩
  · have y : ObjOk P w H h a (.ext fun h => ∃ (oe : Obj) (vs : Array Value), h.get? a = some oe ∧ Zc (.ref C) none oe ∧ oe.data = .fields vs ∧ vs[1]? = some .none ∧ vs[2]? = some .none ∧ 4 < vs.size) := hok a _ x
    obtain ⟨oe, vs, e, z, dt, _⟩ := y.1
    exact ⟨oe, none, e, z.1, by unfold PySem.W.notCls; rw [dt] <;> rfl, by rw [z.2]; trivial⟩
  · obtain ⟨t1, e⟩ := exo_at hok x1
    obtain ⟨mA, ⟨od, es, ep, e2, _⟩, _⟩ := exd_at hok x2
    exact ⟨_, some od, e, rfl, rfl, e2⟩
/-- what isinstance and a field's read ask of the class -/
structure KxC (K : PySem.W.Frag) (C : Addr) : Prop where
  cl : (PySem.W.clsIn K C).isSome = true
  ga : PySem.W.findIn K (.ref C) "__getattribute__" = some (some (.builtin "BaseException.__getattribute__"))
  gg : PySem.W.findIn K (.ref C) "__getattr__" = some none
  sb : PySem.W.subIn K (.ref C) (.type "BaseException") = some true
  ca : PySem.W.findIn K (.ref C) "__class__" = some (some (.builtin "object.__class__"))
  cg : PySem.W.specialIn K (.builtin "object.__class__") "__get__" = some (some (.builtin "getset_descriptor.__get__"))
  tk : PySem.W.takesIn K (.builtin "object.__class__") = some true
  mr : PySem.W.mroIn K C (.type "object") = some true
/-- isinstance(x, c), x an exception of an own class -/
def rIsiE (K : PySem.W.Frag) : List V → Hp → VK → Prop := fun xs H Q => ∃ (a C : Addr) (fs : List (Str × V)) (c : V) (u : Value) (b : Bool), xs = [.ref a, c] ∧ ExcAt H a C fs ∧ KxC K C ∧ ClsV c u ∧ PySem.W.kitOne K (.ref C) u = some b ∧ Q (.bl b) H
theorem call_isiE {X : Cx} : CallR X (.builtin "isinstance") (rIsiE X.K) := by
  intro pins s σ H xs us Q I r h
  obtain ⟨a, C, fs, c, u, b, rfl, ex, k, kc, e, q⟩ := h
  obtain ⟨u1, u2, rfl, r1, r2⟩ := vals2 r
  have e2 := kc.eq r2
  subst e2
  cases (show u1 = Value.ref a from r1)
  obtain ⟨o, od, J⟩ := ex.inst I.hok
  exact PySem.W.kia_one (PySem.W.kitx_exc k.cl k.ga k.gg k.sb k.ca k.cg k.tk k.mr) I.kIn J e (fun z => nomatch z) fun tk => ⟨.bl b, H, I.tok tk, rfl, q⟩
/-- e.f, e an exception of an own class that keeps it -/
def tXfV (K : PySem.W.Frag) (f : Str) (te : TE) : TE := fun σ H Q => te σ H fun x H1 => ∃ (a C d : Addr) (fs : List (Str × V)) (v : V), x = .ref a ∧ H1 a = some (exo a C (some d)) ∧ H1 d = some (exd d fs) ∧ XfC K C ∧
  PySem.W.findIn K (.ref C) f = some none ∧ fs.lookup f = some v ∧ Q v H1
theorem pe_xfV {X : Cx} {e : Expr} {te : TE} {pos : Pos} {n : Str} (he : PE X e te) (hb : attributeBase e n X.env (eval e X.env) = eval e X.env := by rfl) : PE X (.Attribute e n pos) (tXfV X.K n te) := by
  refine ⟨fun pins s σ H Q I h => ?_⟩
  refine attr_of hb (thn (he.run pins s σ H _ I h) fun u s1 hh => ?_)
  obtain ⟨x, H1, I1, rx, a, C, d, fs, v, ex, ea, ed, T, hno, l, q⟩ := hh
  subst ex
  obtain rfl : u = Value.ref a := rx
  obtain ⟨t1, hx⟩ := exo_at I1.hok ea
  obtain ⟨mA, hns, hr⟩ := exd_at I1.hok ed
  obtain ⟨od, ho, hl⟩ := lookIn_ns hns
  obtain ⟨u, hu, ru⟩ := RelO.some_of (v := v) (o := mA n) (by rw [← l]; exact hr n)
  have J : PySem.W.InstAt s1.heap a { cls := .ref C, dict := some d, data := .fields #[.ref t1, .none, .none, .none, .bool false, .none] } C (some od) := ⟨hx, rfl, rfl, ho⟩
  exact HandSPX.exc_get I1.kIn J T.ga T.gg T.exC (PySem.W.findObj_own T.hdC hno rfl (by rw [hl, hu])) (handed_of ru) ⟨v, H1, I1.tok _, ru, q⟩
/-! ### powers of any size -/
def CPowW (i j : Int) : Prop := 0 ≤ j ∧ j ≤ 64 ∧ ∃ n, i.natAbs < 2 ^ n ∧ n ≤ 1000000
theorem op_powW {X : Cx} : OpR X (binaryOp .Pow) (rI CPowW fun i j => .int (i ^ j.toNat)) := opI fun i j _ _ _ _ _ hc q => by
  obtain ⟨h0, h1, n, hn, hs⟩ := hc
  refine pow_int h0 ?_ q
  have b := PyProof.Rows.intBits_le hn
  have e : (2 : Int) ^ 27 = 134217728 := by decide
  have m : (Builtin.Int.intBits i : Int) * j ≤ 1000000 * 64 := Int.mul_le_mul (by omega) h1 h0 (by omega)
  omega
end Fa

namespace Fa
open PySem PySem.Spec PyProof.Rows L2
section
variable {K : PySem.W.Frag} {x qual : Str} {st : Stmt} {f : Addr} {fd : FuncData} {ps ks : List Str} {n : Nat}
/-- a def without defaults, from the head's facts -/
theorem fun_of (F : FunD K x qual (defArgs st) (defBody st) (defScope st) [] [] f fd) : Fun K x qual st f fd := by
  obtain ⟨oc, od, dV, kV, doc, pm, an, cdv, ct, osl, e, lk, hcd, hD, _⟩ := F.ex
  rcases hD with ⟨_, z⟩ | ⟨z, _⟩
  · subst z
    exact ⟨⟨oc, od, kV, doc, pm, an, cdv, ct, osl, e, lk, hcd⟩, F.kp⟩
  · exact absurd rfl z
/-- how its arguments bind, where some are written by name -/
theorem kbn_of (F : Fun K x qual st f fd) (g : {α : Type} → List α → List α → List α) (hrel : ∀ {vs zs : List V} {us ws : List Value}, Vals vs us → Vals zs ws → Vals (g vs zs) (g us ws))
    (h : ∀ (kV doc pm : Value) (an : Option Addr) (cdv ct : Value) (us ws : List Value), us.length = n → ws.length = ks.length → bindArgs (PySem.W.fnOf x qual (defArgs st) (defBody st) (defScope st) .none kV doc pm an cdv ct) ⟨us, ks.zip ws⟩ = pure (ps.zip (g us ws))) :
    KBn K fd ps n ks (fun us ws => g us ws) (fun vs zs => g vs zs) := by
  obtain ⟨oc, od, kV, doc, pm, an, cdv, ct, osl, e, lk, hcd⟩ := F.ex
  subst e
  exact ⟨fun s us ws _ h1 h2 => .of_eq (h kV doc pm an cdv ct us ws h1 h2), fun r1 r2 => hrel r1 r2⟩
end
/-! ### rules whose reading names the written part by a letter (for blocks) -/
section
variable (K : PySem.W.Frag) {X : Cx}
theorem ixL (h : X.K = K := by rfl) : IxR X (rIxL K) := h ▸ ix_list
theorem ixT (h : X.K = K := by rfl) : IxR X (rIxT K) := h ▸ ix_tup
theorem slL (h : X.K = K := by rfl) : SlR X (rSlL K) := h ▸ sl_list
def rLenQ : List V → Hp → VK → Prop := fun xs H Q => ∃ p ys, xs = [.ref p] ∧ (SqL K H p ys ∨ SqT K H p ys) ∧ Q (.int ys.length) H
theorem lenQ (h : X.K = K := by rfl) : CallR X (.builtin "len") (rLenQ K) := h ▸ call_len_seq
theorem isiQ (h : X.K = K := by rfl) : CallR X (.builtin "isinstance") (rIsi K) := h ▸ call_isi
theorem isiTQ (h : X.K = K := by rfl) : CallR X (.builtin "isinstance") (rIsiT K) := h ▸ call_isiT
theorem isiEQ (h : X.K = K := by rfl) : CallR X (.builtin "isinstance") (rIsiE K) := h ▸ call_isiE
def rTupQ : List V → Hp → VK → Prop := fun xs H Q => ∃ p ys, xs = [.ref p] ∧ ((SqL K H p ys ∧ ∀ l, H l = none → Q (.ref l) (upd H l (.tup ys))) ∨ (SqT K H p ys ∧ Q (.ref p) H))
theorem tupQ (h : X.K = K := by rfl) : CallR X (.type "tuple") (rTupQ K) := h ▸ call_tuple_of
def rLstQ : List V → Hp → VK → Prop := fun xs H Q => ∃ p ys, xs = [.ref p] ∧ (SqL K H p ys ∨ SqT K H p ys) ∧ ∀ l, H l = none → Q (.ref l) (upd H l (.lst ys))
theorem lstQ (h : X.K = K := by rfl) : CallR X (.type "list") (rLstQ K) := h ▸ call_list_of
theorem allQ (hc : X.calm = true) (h : X.K = K := by rfl) : CallR X (.builtin "all") (rAll K) := h ▸ cr_all hc
theorem eqQ (hu : X.A.units + 64 < cLine) (h : X.K = K := by rfl) : OpR X (compareOp .Eq) (rEqD K) := h ▸ op_eqD hu
theorem neQ (hu : X.A.units + 64 < cLine) (h : X.K = K := by rfl) : OpR X (compareOp .NotEq) (rNeD K) := h ▸ op_neD hu
theorem inQ (h : X.K = K := by rfl) : OpR X (compareOp .In) (rIn K false) := h ▸ op_in_seq
theorem listQ {tg l : Expr} {tl : TE} (hl : PE X l tl) (h : X.K = K := by rfl) : PI X tg l (iList K tl) := h ▸ pi_list hl
end
/-! ### small things of readings -/
theorem yes_if {σ : L2.St} {H : Hp} {A B : Hp → Prop} (h : A H) : tYes σ H (fun b H3 => if b = true then A H3 else B H3) := by
  show (if true = true then A H else B H)
  rw [if_pos rfl]
  exact h
theorem same_new {H : Hp} {p : Addr} {o : HO} (h : H p = none) : Same H (upd H p o) := fun b x e => by
  rw [upd_ne (ne_of_none e h)]
  exact e
theorem cut_map (ns : List Int) (lo hi : Option Int) : ∃ ms : List Int, cutV (ns.map V.int) lo hi = ms.map V.int ∧ ms.length ≤ ns.length := by
  refine ⟨(ns.drop (HT.sIx (ns.map V.int).length 0 lo)).take (HT.sIx (ns.map V.int).length (ns.map V.int).length hi - HT.sIx (ns.map V.int).length 0 lo), ?_, ?_⟩
  · unfold cutV
    rw [List.map_take, List.map_drop]
  · rw [List.length_take, List.length_drop]
    omega
def But (p : Addr) (H H' : Hp) : Prop := ∀ b, b ≠ p → H' b = H b
theorem But.refl (p : Addr) (H : Hp) : But p H H := fun _ _ => rfl
theorem But.trans {p : Addr} {H H1 H2 : Hp} (a : But p H H1) (b : But p H1 H2) : But p H H2 := fun c h => (b c h).trans (a c h)
theorem But.upd {p : Addr} {H H1 : Hp} {o : HO} (a : But p H H1) : But p H (upd H1 p o) := fun c h => (upd_ne h).trans (a c h)
/-- all that was tracked stands, but at p -/
def Kp (p : Addr) (H H' : Hp) : Prop := ∀ b o, b ≠ p → H b = some o → H' b = some o
theorem Kp.refl (p : Addr) (H : Hp) : Kp p H H := fun _ _ _ h => h
theorem Kp.trans {p : Addr} {H H1 H2 : Hp} (a : Kp p H H1) (b : Kp p H1 H2) : Kp p H H2 := fun c o n h => b c o n (a c o n h)
theorem But.kp {p : Addr} {H H1 : Hp} (a : But p H H1) : Kp p H H1 := fun c o n h => (a c n).trans h
theorem kp_same {p : Addr} {H H1 : Hp} (a : Same H H1) : Kp p H H1 := fun c o _ h => a c o h
theorem Kp.free {p b : Addr} {H H1 : Hp} (a : Kp p H H1) (n : b ≠ p) (h : H1 b = none) : H b = none := by
  cases e : H b with
  | none => rfl
  | some o =>
    rw [a b o n e] at h
    cases h
theorem kp_new {p b : Addr} {H : Hp} {o : HO} (h : H b = none) : Kp p H (upd H b o) := fun c u _ e => by
  rw [upd_ne (ne_of_none e h)]
  exact e
/-- and one more object that was not tracked at the start may change -/
theorem Kp.mut {p b : Addr} {H H1 : Hp} {o : HO} (a : Kp p H H1) (h : H b = none) : Kp p H (upd H1 b o) := fun c u n e => by
  rw [upd_ne (ne_of_none e h)]
  exact a c u n e
theorem nat_lt_pow {x : Int} {n : Nat} (h0 : 0 < x) (h : x < 2 ^ n) : x.natAbs < 2 ^ n := by
  have e : ((2 ^ n : Nat) : Int) = (2 : Int) ^ n := by
    rw [Int.natCast_pow]
    rfl
  omega
theorem iteDS {c A B : Prop} [Decidable c] (hc : c) (h : A) : if decide c = true then A else B := by
  rw [decide_eq_true hc]
  exact iteT h
theorem int_at {ms : List Int} {i : Nat} {x : V} (h : (ms.map V.int)[i]? = some x) : ∃ n, ms[i]? = some n ∧ x = V.int n := by
  rw [List.getElem?_map] at h
  cases e : ms[i]? with
  | none =>
    rw [e] at h
    cases h
  | some z =>
    rw [e] at h
    exact ⟨z, rfl, (Option.some.inj h).symm⟩
end Fa

namespace Fa
open PySem PySem.Spec PyProof.Rows L2
/-! ### what the head tells of the exception classes, as one look -/
def oexB (K : PySem.W.Frag) (C : Addr) : Bool := (match K.lookup C with
  | some ⟨.type "type", _, .cls cd, sl⟩ => (match cd.mro, sl.toList with
    | .ref C' :: bm, [_, _, _, _, some (.builtin n), _] => C' == C && (n == "ValueError.__new__" && (!cd.hasDel && (cd.hasDict && PySem.HandSPX.refsVE bm)))
    | _, _ => false)
  | _ => false) && (He.eqO (PySem.W.findIn K (.ref C) "__setattr__") (some (some (.builtin "object.__setattr__"))) && (decide (PySem.W.subIn K (.ref C) (.type "BaseException") = some true) && (decide (PySem.W.typeIn K (.ref C) = some (.type "type")) && PySem.W.keepIn K (.ref C))))
theorem oexB_ok {K : PySem.W.Frag} {C : Addr} (q : oexB K C = true) : OexC K C := by
  unfold oexB at q
  obtain ⟨q, q2⟩ := He.ba q
  obtain ⟨q2, q3⟩ := He.ba q2
  obtain ⟨q3, q4⟩ := He.ba q3
  obtain ⟨q4, q5⟩ := He.ba q4
  refine ⟨?_, He.eqO_ok q2, of_decide_eq_true q3, of_decide_eq_true q4, q5⟩
  split at q
  · rename_i dd cd sl ho
    split at q
    · rename_i C' bm k0 k1 k2 k3 n k5 hm hs
      simp only [Bool.and_eq_true, beq_iff_eq, Bool.not_eq_true'] at q
      obtain ⟨rfl, rfl, hdel, hd1, ht⟩ := q
      obtain ⟨nm, bs, mro, ns, qn, hd, sn, sub, ab, col, del⟩ := cd
      dsimp only at hm hdel hd1
      subst hm hdel hd1
      have hsl : sl = #[k0, k1, k2, k3, some (.builtin "ValueError.__new__"), k5] := by
        obtain ⟨l⟩ := sl
        simp only at hs
        rw [hs]
      subst hsl
      exact ⟨nm, qn, ns, bs, bm, sn, sub, ab, col, dd, k0, k1, k2, k3, k5, ho, ht⟩
    · cases q
  · cases q
def kxB (K : PySem.W.Frag) (C : Addr) : Bool := (PySem.W.clsIn K C).isSome && (He.eqO (PySem.W.findIn K (.ref C) "__getattribute__") (some (some (.builtin "BaseException.__getattribute__"))) && (He.eqO (PySem.W.findIn K (.ref C) "__getattr__") (some none) &&
  (decide (PySem.W.subIn K (.ref C) (.type "BaseException") = some true) && (He.eqO (PySem.W.findIn K (.ref C) "__class__") (some (some (.builtin "object.__class__"))) && (He.eqO (PySem.W.specialIn K (.builtin "object.__class__") "__get__") (some (some (.builtin "getset_descriptor.__get__"))) &&
  (decide (PySem.W.takesIn K (.builtin "object.__class__") = some true) && decide (PySem.W.mroIn K C (.type "object") = some true)))))))
theorem kxB_ok {K : PySem.W.Frag} {C : Addr} (q : kxB K C = true) : KxC K C := by
  obtain ⟨h1, q⟩ := He.ba q
  obtain ⟨h2, q⟩ := He.ba q
  obtain ⟨h3, q⟩ := He.ba q
  obtain ⟨h4, q⟩ := He.ba q
  obtain ⟨h5, q⟩ := He.ba q
  obtain ⟨h6, q⟩ := He.ba q
  obtain ⟨h7, h8⟩ := He.ba q
  exact ⟨h1, He.eqO_ok h2, He.eqO_ok h3, of_decide_eq_true h4, He.eqO_ok h5, He.eqO_ok h6, of_decide_eq_true h7, of_decide_eq_true h8⟩
theorem all_lt {n : Nat} {f : Nat → Bool} (h : (List.range n).all f = true) : ∀ i, i < n → f i = true := fun i hi => List.all_eq_true.mp h i (List.mem_range.mpr hi)
end Fa

namespace Fa
open PySem PySem.Spec PyProof.Rows L2
/-! ### data: how deep, comparable with itself, shown -/
/-- no dict in it, texts fit, at most n deep -/
def Shp (n : Nat) (d : PyData) : Prop := PyData.canLay0 d = true ∧ PyData.depth d ≤ n
theorem shp_int (n : Nat) (i : Int) : Shp n (.int i) := ⟨rfl, Nat.zero_le _⟩
theorem shp_bool (n : Nat) (b : Bool) : Shp n (.bool b) := ⟨rfl, Nat.zero_le _⟩
theorem shp_all {n : Nat} : ∀ {ds : List PyData}, (∀ d ∈ ds, Shp n d) → PyData.canLayAll0 ds = true ∧ PyData.depthAll ds ≤ n
  | [], _ => ⟨rfl, Nat.zero_le _⟩
  | d :: ds, h => by
    obtain ⟨h1, h2⟩ := h d List.mem_cons_self
    obtain ⟨h3, h4⟩ := shp_all fun e he => h e (List.mem_cons_of_mem _ he)
    refine ⟨?_, ?_⟩
    · show (PyData.canLay0 d && PyData.canLayAll0 ds) = true
      rw [h1, h3]
      rfl
    · show max (PyData.depth d) (PyData.depthAll ds) ≤ n
      omega
theorem shp_list {n : Nat} {ds : List PyData} (h : ∀ d ∈ ds, Shp n d) : Shp (n + 1) (.list ds) := by
  obtain ⟨h1, h2⟩ := shp_all h
  exact ⟨h1, by show PyData.depthAll ds + 1 ≤ n + 1; omega⟩
theorem shp_tuple {n : Nat} {ds : List PyData} (h : ∀ d ∈ ds, Shp n d) : Shp (n + 1) (.tuple ds) := by
  obtain ⟨h1, h2⟩ := shp_all h
  exact ⟨h1, by show PyData.depthAll ds + 1 ≤ n + 1; omega⟩
theorem Shp.shaped {n : Nat} {d : PyData} (h : Shp n d) (hn : n ≤ 64) : SeqAt.shaped d = true := by
  unfold SeqAt.shaped
  rw [h.1, decide_eq_true (show PyData.depth d ≤ 64 by have := h.2; omega)]
  rfl
theorem shp_ints (n : Nat) (l : List Int) : Shp (n + 1) (.list (l.map PyData.int)) := shp_list fun d hd => by
  obtain ⟨i, _, rfl⟩ := List.mem_map.mp hd
  exact shp_int _ _
mutual
theorem eqv_same : ∀ d : PyData, PyData.canLay0 d = true → PyData.eqv d d = true
  | .none, _ => rfl
  | .bool b, _ => by rw [PyData.eqv, beq_self_eq_true]
  | .int i, _ => by rw [PyData.eqv, beq_self_eq_true]
  | .str x, _ => by rw [PyData.eqv, beq_self_eq_true]
  | .list xs, h => by
    rw [PyData.eqv]
    exact eqv_sames xs h
  | .tuple xs, h => by
    rw [PyData.eqv]
    exact eqv_sames xs h
  | .dict _, h => by cases h
theorem eqv_sames : ∀ ds : List PyData, PyData.canLayAll0 ds = true → PyData.eqvAll ds ds = true
  | [], _ => rfl
  | d :: ds, h => by
    obtain ⟨h1, h2⟩ := He.ba (show (PyData.canLay0 d && PyData.canLayAll0 ds) = true from h)
    show (PyData.eqv d d && PyData.eqvAll ds ds) = true
    rw [eqv_same d h1, eqv_sames ds h2]
    rfl
end
theorem dp_ints {K : PySem.W.Frag} {H : Hp} : ∀ l : List Int, DpAll K H (l.map V.int) (l.map PyData.int)
  | [] => .nil
  | _ :: r => .cons (.int _) (dp_ints r)
mutual
theorem Dp.same {K : PySem.W.Frag} {H H' : Hp} (s : Same H H') : ∀ (d : PyData) (v : V), Dp K H v d → Dp K H' v d
  | .none, _, h => by cases h; exact .non
  | .bool b, _, h => by cases h; exact .bl b
  | .int i, _, h => by cases h; exact .int i
  | .str x, _, h => by cases h; exact .str x
  | .list ds, _, h => by
    cases h with
    | lst hs ha => exact .lst (s.seq hs) (DpAll.same s ds _ ha)
  | .tuple ds, _, h => by
    cases h with
    | tup hs ha =>
      refine .tup ?_ (DpAll.same s ds _ ha)
      rcases hs with (h | ⟨o, h⟩) | h
      · exact .inl (.inl (s _ _ h))
      · exact .inl (.inr ⟨o, s _ _ h⟩)
      · exact .inr h
  | .dict _, _, h => by cases h
theorem DpAll.same {K : PySem.W.Frag} {H H' : Hp} (s : Same H H') : ∀ (ds : List PyData) (vs : List V), DpAll K H vs ds → DpAll K H' vs ds
  | [], _, h => by cases h; exact .nil
  | d :: ds, _, h => by
    cases h with
    | cons h1 h2 => exact .cons (Dp.same s d _ h1) (DpAll.same s ds _ h2)
end
/-! ### an equality whose two sides are one datum -/
theorem iteN0 {b : Bool} {A B : Prop} (hb : b = true) (h : B) : if (!b) = true then A else B := by
  rw [hb]
  exact iteF h
theorem iteN1 {b : Bool} {A B : Prop} (hb : b = false) (h : A) : if (!b) = true then A else B := by
  rw [hb]
  exact iteT h
/-! ### repr of data: the guards of the calls around hold nothing -/
def rRepr (K : PySem.W.Frag) : List V → Hp → VK → Prop := fun xs H Q => ∃ (a : Addr) (d : PyData), xs = [.ref a] ∧ Dp K H (.ref a) d ∧ PyData.depth d ≤ 64 ∧ PyData.showable d = true ∧ PyData.hasDict d = false ∧ d.shown.length ≤ sizeLine ∧ Q (.str d.shown) H
theorem call_repr {X : Cx} (gd : X.A.guards = some []) (hu : X.A.units + 66 < cLine) : CallR X (.builtin "repr") (rRepr X.K) := by
  intro pins s σ H xs us Q I r h
  obtain ⟨a, d, rfl, hd, h1, h2, h3, h4, q⟩ := h
  obtain ⟨u, rfl, r1⟩ := vals1 r
  cases (show u = Value.ref a from r1)
  obtain ⟨as, rd⟩ := Dp.reads I d _ _ hd r1
  refine repr_of_reads' rd h2 (fun z => by rw [h3] at z; cases z) gd (by omega) (fun _ _ e => e) (fun h' u tk hk => ?_) h4
  exact ⟨.str d.shown, H, I.kept (t' := tk) (fun b o e => hk b o e), ⟨u, rfl⟩, q⟩
end Fa

namespace K21
open PySem PySem.Spec PyProof.Rows L2 Fa
def topS (i : Nat) : Stmt := PySem.Challenge.pw_facesagain_k21_once_and_daily.main.body.getD i (.Pass ⟨0, 0, 0, 0⟩)
abbrev s__law_jar : Stmt := topS 54
abbrev N__law_jar : List Str := ["script", "k", "cell_here"]
theorem sc__law_jar : FnScope N__law_jar ["script", "k"] (defScope s__law_jar) := ⟨rfl, rfl, rfl, by decide +kernel, rfl, by decide +kernel, by decide +kernel⟩
abbrev s__law_dip : Stmt := topS 55
abbrev N__law_dip : List Str := ["jar", "many", "digit", "mixed"]
theorem sc__law_dip : FnScope N__law_dip ["jar", "many"] (defScope s__law_dip) := ⟨rfl, rfl, rfl, by decide +kernel, rfl, by decide +kernel, by decide +kernel⟩
abbrev s__law_many : Stmt := topS 56
abbrev N__law_many : List Str := ["jar"]
theorem sc__law_many : FnScope N__law_many ["jar"] (defScope s__law_many) := ⟨rfl, rfl, rfl, by decide +kernel, rfl, by decide +kernel, by decide +kernel⟩
/-- the jar: digits left, what is mixed, the draws (at most B) -/
def JarAt (H : Hp) (p : Addr) (B : Int) : Prop := ∃ a b c : Int, H p = some (.lst [.int a, .int b, .int c]) ∧ 0 ≤ a ∧ 0 ≤ b ∧ b < 10 ^ 46 ∧ 0 ≤ c ∧ c ≤ B
theorem JarAt.mono {H : Hp} {p : Addr} {B B' : Int} (h : JarAt H p B) (l : B ≤ B') : JarAt H p B' := by
  obtain ⟨a, b, c, hp, h1, h2, h3, h4, h5⟩ := h
  exact ⟨a, b, c, hp, h1, h2, h3, h4, by omega⟩
theorem JarAt.same {H H' : Hp} {p : Addr} {B : Int} (h : JarAt H p B) (s : Same H H') : JarAt H' p B := by
  obtain ⟨a, b, c, hp, r⟩ := h
  exact ⟨a, b, c, s _ _ hp, r⟩
theorem JarAt.ne {H : Hp} {p b : Addr} {B : Int} (h : JarAt H p B) (n : H b = none) : b ≠ p := by
  obtain ⟨_, _, _, hp, _⟩ := h
  exact (ne_of_none hp n).symm
theorem JarAt.far {H : Hp} {p b : Addr} {B : Int} {o : HO} (h : JarAt H p B) (n : b ≠ p) : JarAt (upd H b o) p B := by
  obtain ⟨x, y, c, hp, r⟩ := h
  exact ⟨x, y, c, by rw [upd_ne n.symm]; exact hp, r⟩
theorem e18 : (10 : Int) ^ Int.toNat 18 = 1000000000000000000 := by decide +kernel
theorem e43 : (10 : Int) ^ Int.toNat 43 = 10000000000000000000000000000000000000000000 := by decide +kernel
theorem e46 : (10 : Int) ^ Int.toNat 46 = 10000000000000000000000000000000000000000000000 := by decide +kernel
theorem e46' : (10 : Int) ^ 46 = 10000000000000000000000000000000000000000000000 := by decide +kernel
theorem e47 : (10 : Int) ^ Int.toNat 47 = 100000000000000000000000000000000000000000000000 := by decide +kernel
theorem e26 : (10 : Int) ^ Int.toNat 26 = 100000000000000000000000000 := by decide +kernel
theorem e200 : (2 : Nat) ^ 200 = 1606938044258990275541962092341162602522202993782792835301376 := by decide +kernel
theorem pw10 {n : Int} (h0 : 0 ≤ n) (h : n ≤ 64) : CPowW 10 n := ⟨h0, h, 10, by decide, by decide⟩
theorem bnd {x c : Int} (h1 : 0 ≤ x) (h2 : x < 100000000000000000000000000000000000000000000091) (h3 : 0 ≤ c) (h4 : c ≤ 1000000000) : (x + 35000021 * (c + 1)).natAbs < 2 ^ 200 := by
  rw [e200]
  omega
def spJar (K : PySem.W.Frag) : Sp := fun vs H Q _ => ∃ (a : Addr) (ns : List Int) (k : Int), vs = [.ref a, .int k] ∧ SqL K H a (ns.map V.int) ∧ 0 ≤ k ∧ k ≤ 100 ∧ ∀ H' p, Same H H' → H p = none → JarAt H' p 0 → Q (.ref p) H'
def spDip : Sp := fun vs H Q _ => ∃ (p : Addr) (m B : Int), vs = [.ref p, .int m] ∧ JarAt H p B ∧ B ≤ 1000000000 ∧ 0 < m ∧ m < 2 ^ 3000 ∧ ∀ H' r, But p H H' → JarAt H' p (B + 1) → 0 ≤ r → r < m → Q (.int r) H'
section
variable {P : Program} {w : World} {K : PySem.W.Frag} {mg : Str → Option Value} {base : Heap}
theorem ok_jar {f : Addr} {fd : FuncData} {k : Nat} (F : Fun K "_law_jar" "_law_jar" s__law_jar f fd) (m_int : mg "int" = none) (m_abs : mg "abs" = none) (m_len : mg "len" = none) (m_max : mg "max" = none) : FnOk P w K mg base CX0 (k + 1) f fd ["script", "k"] (spJar K) := by
  refine F.ok sc__law_jar (fun vs H Q E h => ?_) (fun cdv A outer s H vs Q E hr h => ?_)
  · obtain ⟨a, ns, k, rfl, _⟩ := h
    rfl
  · obtain ⟨a, ns, k, rfl, hS, k0, k1, q⟩ := h
    refine ⟨_, (pss_cons (ps_set (i := 2) sc__law_jar.nd rfl (by first | exact Or.inl rfl | exact Or.inr rfl) (pe_ifExp (pt_cmpR op_lt (pv 1) (pe_callB (Fa.lenQ K) (by rfl) m_len PySem.boot_len (pa_cons (pv 0) pa_nil)) (nomark _)) (pe_callB call_abs (by rfl) m_abs PyProof.Rows.boot_abs (pa_cons (pe_ix (Fa.ixL K) (pv 0) (pv 1) (fun _ _ => rfl)) pa_nil)) pe_int))
  (pss_one (ps_ret (pe_lst (pa_cons (pe_callB (call_max2 rfl) (by rfl) m_max PyProof.Rows.boot_max (pa_cons pe_int (pa_cons (pe_op op_sub (pv 2) (pe_op Fa.op_powW pe_int pe_int)) pa_nil))) (pa_cons (pe_op op_add (pe_op op_mul (pe_op op_mod (pe_callTy call_int1 (by rfl) m_int PyProof.Rows.boot_int (pa_cons (pv 2) pa_nil)) (pe_op op_add (pe_op Fa.op_powW pe_int pe_int) pe_int)) pe_int) (pe_op op_mul pe_int (pv 1))) (pa_cons pe_int pa_nil))))))), ?_⟩
    have fin : ∀ x : Int, 0 ≤ x → 0 ≤ x % (10 ^ Int.toNat 43 + 57) * 101 + 70001 * k ∧ x % (10 ^ Int.toNat 43 + 57) * 101 + 70001 * k < 10 ^ 46 := fun x h => by
      have h1 := Int.emod_nonneg x (show (10 : Int) ^ Int.toNat 43 + 57 ≠ 0 by rw [e43]; decide)
      have h2 := Int.emod_lt_of_pos x (show (0 : Int) < (10 : Int) ^ Int.toNat 43 + 57 by rw [e43]; decide)
      rw [e43] at h1 h2 ⊢
      rw [e46']
      omega
    refine ⟨_, rfl, _, rfl, a, _, rfl, .inl hS, _, _, rfl, rfl, _, rfl, ite2 (fun e => ?_) (fun e => ?_)⟩
    · have hk : k < (ns.map V.int).length := of_decide_eq_true e
      rw [List.length_map] at hk
      obtain ⟨j, rfl⟩ : ∃ j : Nat, k = j := ⟨k.toNat, by omega⟩
      have hj : j < ns.length := by omega
      refine ⟨_, rfl, _, rfl, _, _, _, _, rfl, rfl, hS, atI_nat (v := .int ns[j]) ?_, _, rfl, ?_⟩
      · rw [List.getElem?_map, List.getElem?_eq_getElem hj]
        rfl
      have ab : 0 ≤ (if ns[j] < 0 then -ns[j] else ns[j]) := by split <;> omega
      generalize (if ns[j] < 0 then -ns[j] else ns[j]) = x at ab ⊢
      refine ⟨_, rfl, _, _, rfl, rfl, pw10 (by decide) (by decide), _, _, rfl, rfl, _, _, rfl, ?_⟩
      refine ⟨_, rfl, .inl ⟨_, rfl, _, _, rfl, rfl, pw10 (by decide) (by decide), _, _, rfl, rfl, _, _, rfl, rfl, (by show (0 : Int) < _; rw [e43]; decide), _, _, rfl, rfl, .inr ⟨by decide, by decide⟩, _, rfl, _, _, rfl, rfl, .inl ⟨by decide, by decide⟩, _, _, rfl, rfl, by show 3 ≤ sizeLine; decide, fun p np => ?_⟩⟩
      obtain ⟨f1, f2⟩ := fin x ab
      refine q _ p (same_new np) np ⟨_, _, _, upd_same, ?_, f1, f2, Int.le_refl _, Int.le_refl _⟩
      split <;> omega
    · refine ⟨_, rfl, _, _, rfl, rfl, pw10 (by decide) (by decide), _, _, rfl, rfl, _, _, rfl, ?_⟩
      refine ⟨_, rfl, .inl ⟨_, rfl, _, _, rfl, rfl, pw10 (by decide) (by decide), _, _, rfl, rfl, _, _, rfl, rfl, (by show (0 : Int) < _; rw [e43]; decide), _, _, rfl, rfl, .inr ⟨by decide, by decide⟩, _, rfl, _, _, rfl, rfl, .inl ⟨by decide, by decide⟩, _, _, rfl, rfl, by show 3 ≤ sizeLine; decide, fun p np => ?_⟩⟩
      obtain ⟨f1, f2⟩ := fin 0 (Int.le_refl _)
      refine q _ p (same_new np) np ⟨_, _, _, upd_same, ?_, f1, f2, Int.le_refl _, Int.le_refl _⟩
      split <;> omega
theorem ok_dip {f : Addr} {fd : FuncData} {k : Nat} (F : Fun K "_law_dip" "_law_dip" s__law_dip f fd) (m_int : mg "int" = none) : FnOk P w K mg base CX0 (k + 1) f fd ["jar", "many"] spDip := by
  refine F.ok sc__law_dip (fun vs H Q E h => ?_) (fun cdv A outer s H vs Q E hr h => ?_)
  · obtain ⟨p, m, B, rfl, _⟩ := h
    rfl
  · obtain ⟨p, m, B, rfl, ⟨a, b, c, hp, a0, b0, b1, c0, c1⟩, hB, m0, m1, q⟩ := h
    refine ⟨_, (pss_cons (ps_if (pt_cmpR op_gt (pe_ix (Fa.ixL K) (pv 0) pe_int (fun _ _ => rfl)) pe_int (nomark _)) (pss_cons (ps_set (i := 2) sc__law_dip.nd rfl (by first | exact Or.inl rfl | exact Or.inr rfl) (pe_op op_mod (pe_callTy call_int1 (by rfl) m_int PyProof.Rows.boot_int (pa_cons (pe_ix (Fa.ixL K) (pv 0) pe_int (fun _ _ => rfl)) pa_nil)) (pv 1)))
  (pss_cons (ps_asg (pe_op op_fdivW (pe_ix (Fa.ixL K) (pv 0) pe_int (fun _ _ => rfl)) (pv 1)) (pg_sub (pv 0) pe_int set_list))
  (pss_one (ps_ret (pv 2))))) pss_nil)
  (pss_cons (ps_asg (pe_op op_add (pe_ix (Fa.ixL K) (pv 0) pe_int (fun _ _ => rfl)) pe_int) (pg_sub (pv 0) pe_int set_list))
  (pss_cons (ps_set (i := 3) sc__law_dip.nd rfl (by first | exact Or.inl rfl | exact Or.inr rfl) (pe_op op_mod (pe_callTy call_int1 (by rfl) m_int PyProof.Rows.boot_int (pa_cons (pe_op Fa.op_powW (pe_op op_add (pe_ix (Fa.ixL K) (pv 0) pe_int (fun _ _ => rfl)) (pe_op op_mul pe_int (pe_ix (Fa.ixL K) (pv 0) pe_int (fun _ _ => rfl)))) pe_int) pa_nil)) (pe_op op_add (pe_op Fa.op_powW pe_int pe_int) pe_int)))
  (pss_cons (ps_set (i := 3) sc__law_dip.nd rfl (by first | exact Or.inl rfl | exact Or.inr rfl) (pe_op op_mod (pe_callTy call_int1 (by rfl) m_int PyProof.Rows.boot_int (pa_cons (pe_op Fa.op_powW (pe_op op_add (pv 3) (pe_op op_mul pe_int (pe_ix (Fa.ixL K) (pv 0) pe_int (fun _ _ => rfl)))) pe_int) pa_nil)) (pe_op op_add (pe_op Fa.op_powW pe_int pe_int) pe_int)))
  (pss_one (ps_ret (pe_op op_mod (pe_callTy call_int1 (by rfl) m_int PyProof.Rows.boot_int (pa_cons (pe_op op_fdivW (pv 3) pe_int) pa_nil)) (pv 1)))))))), ?_⟩
    have wl : m.natAbs.log2 < 9000 := (wide_div (i := 0) m0 (nat_lt_pow m0 m1) (by decide) (by decide)).2
    refine ⟨_, rfl, _, _, _, _, rfl, rfl, .inl (.inl hp), rfl, _, _, rfl, rfl, _, rfl, ite2 (fun e => ?_) (fun e => ?_)⟩
    · refine ⟨_, rfl, _, _, _, _, rfl, rfl, .inl (.inl hp), rfl, .inl ⟨_, rfl, _, rfl, _, _, rfl, rfl, m0, ?_⟩⟩
      refine ⟨_, rfl, _, _, _, _, rfl, rfl, .inl (.inl hp), rfl, _, rfl, _, _, rfl, rfl, ⟨m0, wl⟩, _, rfl, p, _, _, 0, rfl, rfl, hp, rfl, _, rfl, ?_⟩
      exact q _ _ (But.refl p H).upd ⟨_, b, c, upd_same, Int.ediv_nonneg a0 (by omega), b0, b1, c0, by omega⟩ (Int.emod_nonneg _ (by omega)) (Int.emod_lt_of_pos _ m0)
    · refine ⟨_, rfl, _, _, _, _, rfl, rfl, .inl (.inl hp), rfl, _, _, rfl, rfl, _, rfl, p, _, _, 2, rfl, rfl, hp, rfl, ?_⟩
      rw [e46'] at b1
      refine ⟨_, rfl, _, _, _, _, rfl, rfl, .inl (.inl upd_same), rfl, _, rfl, _, _, _, _, rfl, rfl, .inl (.inl upd_same), rfl, _, _, rfl, rfl, .inl ⟨by decide, by decide⟩, _, _, rfl, rfl, _, _, rfl, rfl, ⟨by decide, by decide, 200, by rw [e200]; omega, by decide⟩, .inl ⟨_, rfl, ?_⟩⟩
      refine ⟨_, _, rfl, rfl, pw10 (by decide) (by decide), _, _, rfl, rfl, _, _, rfl, rfl, (by show (0 : Int) < _; rw [e47]; decide), ?_⟩
      have g1 := Int.emod_nonneg ((b + 60000049 * (c + 1)) ^ Int.toNat 3) (show (10 : Int) ^ Int.toNat 47 + 91 ≠ 0 by rw [e47]; decide)
      have g2 := Int.emod_lt_of_pos ((b + 60000049 * (c + 1)) ^ Int.toNat 3) (show (0 : Int) < (10 : Int) ^ Int.toNat 47 + 91 by rw [e47]; decide)
      have g3 : (10 : Int) ^ Int.toNat 47 + 91 = 100000000000000000000000000000000000000000000091 := by rw [e47]; rfl
      have g4 := Int.lt_of_lt_of_le g2 (Int.le_of_eq g3)
      refine ⟨_, rfl, _, rfl, _, _, _, _, rfl, rfl, .inl (.inl upd_same), rfl, _, _, rfl, rfl, .inl ⟨by decide, by decide⟩, _, _, rfl, rfl, _, _, rfl, rfl, ⟨by decide, by decide, 200, bnd g1 g4 c0 (by omega), by decide⟩, .inl ⟨_, rfl, ?_⟩⟩
      refine ⟨_, _, rfl, rfl, pw10 (by decide) (by decide), _, _, rfl, rfl, _, _, rfl, rfl, (by show (0 : Int) < _; rw [e46]; decide), ?_⟩
      refine ⟨_, rfl, _, _, rfl, rfl, ⟨by decide, by decide⟩, .inl ⟨_, rfl, _, rfl, _, _, rfl, rfl, m0, ?_⟩⟩
      refine q _ _ (But.refl p H).upd ⟨a, b, _, upd_same, a0, b0, by rw [e46']; exact b1, by omega, by omega⟩ (Int.emod_nonneg _ (by omega)) (Int.emod_lt_of_pos _ m0)
end
end K21

/-! sorted of a family's tuples (pattern, many) -/
namespace Fa
open PySem PySem.Spec PyProof.Rows L2
theorem lex_eq : ∀ xs ys : List Int, HT.lexLt xs ys = false → HT.lexLt ys xs = false → xs = ys
  | [], [], _, _ => rfl
  | [], _ :: _, h, _ => by cases h
  | _ :: _, [], _, h => by cases h
  | x :: xs, y :: ys, h1, h2 => by
    rw [HT.lexLt_cons] at h1 h2
    by_cases e : x = y
    · rw [if_pos e] at h1
      rw [if_pos e.symm] at h2
      rw [e, lex_eq xs ys h1 h2]
    · rw [if_neg e] at h1
      rw [if_neg (fun z => e z.symm)] at h2
      have := of_decide_eq_false h1
      have := of_decide_eq_false h2
      omega
def lexF (p q : List Int × Int) : Bool := if p.1 = q.1 then decide (p.2 < q.2) else HT.lexLt p.1 q.1
theorem lexF_eq {p q : List Int × Int} (h : p.1 = q.1) : lexF p q = decide (p.2 < q.2) := if_pos h
theorem lexF_ne {p q : List Int × Int} (h : ¬ p.1 = q.1) : lexF p q = HT.lexLt p.1 q.1 := if_neg h
theorem swo_lexF {α : Type} (k : α → List Int × Int) : SrtO.Swo fun v u => lexF (k v) (k u) := by
  refine ⟨fun x y h => ?_, fun x y z h1 h2 => ?_⟩
  · by_cases e : (k x).1 = (k y).1
    · rw [lexF_eq e] at h
      rw [lexF_eq e.symm]
      have := of_decide_eq_true h
      exact decide_eq_false (by omega)
    · rw [lexF_ne e] at h
      rw [lexF_ne fun z => e z.symm]
      exact NtL.lex_asym _ _ h
  · by_cases e1 : (k y).1 = (k x).1
    · rw [lexF_eq e1] at h1
      by_cases e2 : (k z).1 = (k y).1
      · rw [lexF_eq e2] at h2
        rw [lexF_eq (e2.trans e1)]
        have := of_decide_eq_false h1
        have := of_decide_eq_false h2
        exact decide_eq_false (by omega)
      · rw [lexF_ne e2] at h2
        rw [lexF_ne fun q => e2 (q.trans e1.symm), ← e1]
        exact h2
    · rw [lexF_ne e1] at h1
      by_cases e2 : (k z).1 = (k y).1
      · rw [lexF_ne fun q => e1 (e2.symm.trans q), e2]
        exact h1
      · rw [lexF_ne e2] at h2
        by_cases e3 : (k z).1 = (k x).1
        · rw [e3] at h2
          exact absurd (lex_eq _ _ h1 h2) e1
        · rw [lexF_ne e3]
          exact NtL.lex_tr _ _ _ h1 h2
/-- v is the tuple (pattern, many) -/
def IsFm (h : Heap) (v : Value) (p : List Int × Int) : Prop := ∃ a b o t n its, v = .ref a ∧ h.get? a = some o ∧ o.cls = .type "tuple" ∧ o.data = .seq #[.ref b, .int p.2 t] n ∧ IsTup h b its ∧ IntsAre its.toList p.1
theorem isTup_keeps {h h' : Heap} {b : Addr} {its : Array Value} (t : IsTup h b its) (k : ∀ b o, h.get? b = some o → o.cls = .type "tuple" → h'.get? b = some o) : IsTup h' b its := by
  obtain ⟨o, ho, hc, r⟩ := t
  exact ⟨o, k _ _ ho hc, hc, r⟩
theorem IsFm.keeps {h h' : Heap} {v : Value} {p : List Int × Int} (f : IsFm h v p) (k : ∀ b o, h.get? b = some o → o.cls = .type "tuple" → h'.get? b = some o) : IsFm h' v p := by
  obtain ⟨a, b, o, t, n, its, e, ho, hc, hd, ht, hi⟩ := f
  exact ⟨a, b, o, t, n, its, e, k _ _ ho hc, hc, hd, isTup_keeps ht k, hi⟩
theorem reads_ints {h : Heap} : ∀ {us : List Value} {ns : List Int}, IntsAre us ns → ∃ as, ReadsAll h us (ns.map PyData.int) as
  | _, _, .nil => ⟨_, .nil⟩
  | _, _, .cons _ _ r => by
    obtain ⟨as, q⟩ := reads_ints (h := h) r
    exact ⟨_, .cons (.int _ _) q⟩
theorem reads_tup {h : Heap} {b : Addr} {its : Array Value} {ns : List Int} (t : IsTup h b its) (i : IntsAre its.toList ns) : ∃ as, Reads h (.ref b) (.tuple (ns.map PyData.int)) as := by
  obtain ⟨o, ho, hc, n, hd⟩ := t
  obtain ⟨as, q⟩ := reads_ints (h := h) i
  exact ⟨_, .tuple ho hc hd q⟩
theorem eqvAll_ints : ∀ l m : List Int, PyData.eqvAll (l.map PyData.int) (m.map PyData.int) = decide (l = m)
  | [], [] => by rw [decide_eq_true rfl] <;> rfl
  | [], _ :: _ => by rw [decide_eq_false (fun z => by cases z)] <;> rfl
  | _ :: _, [] => by rw [decide_eq_false (fun z => by cases z)] <;> rfl
  | x :: l, y :: m => by
    show (PyData.eqv (.int x) (.int y) && PyData.eqvAll (l.map PyData.int) (m.map PyData.int)) = _
    rw [eqvAll_ints l m, PyData.eqv]
    by_cases e : x = y
    · subst e
      by_cases e2 : l = m
      · subst e2
        rw [decide_eq_true rfl, decide_eq_true rfl, beq_self_eq_true] <;> rfl
      · rw [decide_eq_false e2, decide_eq_false (fun z => e2 (List.cons.inj z).2), Bool.and_false]
    · rw [decide_eq_false (fun z => e (List.cons.inj z).1), beq_eq_false_iff_ne.mpr e, Bool.false_and]
theorem eqv_tints (l m : List Int) : PyData.eqv (.tuple (l.map PyData.int)) (.tuple (m.map PyData.int)) = decide (l = m) := by
  rw [PyData.eqv, eqvAll_ints]
theorem eqv_lints (l m : List Int) : PyData.eqv (.list (l.map PyData.int)) (.list (m.map PyData.int)) = decide (l = m) := by
  rw [PyData.eqv, eqvAll_ints]
theorem canLay_ints : ∀ l : List Int, PyData.canLayAll0 (l.map PyData.int) = true
  | [] => rfl
  | _ :: r => canLay_ints r
theorem depth_ints : ∀ l : List Int, PyData.depthAll (l.map PyData.int) = 0
  | [] => rfl
  | _ :: r => by
    show max 0 (PyData.depthAll (r.map PyData.int)) = 0
    rw [depth_ints r]
    rfl
section
variable {prog : Program} {w : World} {A : Around} {s : Shared}
theorem fm_cmp {vs : List Value} {k : Value → List Int × Int} (hu : A.units + 1 < cLine) (hp : ∀ v ∈ vs, IsFm s.heap v (k v)) : SrtO.Cmp prog w A s (tuples' false) (fun p => p.1 ∈ vs) (SrtO.lt2 fun v u => lexF (k v) (k u)) := by
  intro p q hm hm'
  have h1 := hp _ hm
  have h2 := hp _ hm'
  show wpAny (model prog w) A (keyLt' (tuples' false) p.1 q.1) (fun r s' => s' = s ∧ r = lexF (k p.1) (k q.1)) (fun _ _ => False) s
  generalize k p.1 = x at h1 ⊢
  generalize k q.1 = y at h2 ⊢
  obtain ⟨a, b, o, t, n, its, e, ho, hc, hd, ht, hi⟩ := h1
  obtain ⟨a', b', o', t', n', its', e', ho', hc', hd', ht', hi'⟩ := h2
  rw [e, e']
  refine PySem.W.kat_lt ho hd ho' hd' ?_
  show PySem.W.KatLex prog w A false (decide (2 < 2)) _ [(.ref b, .ref b'), (.int x.2 t, .int y.2 t')] 0 s
  obtain ⟨as1, r1⟩ := reads_tup ht hi
  obtain ⟨as2, r2⟩ := reads_tup ht' hi'
  refine PySem.W.kat_cons (SeqAt.eqAt_reads _ _ A s _ _ _ _ r1 r2 (canLay_ints _) (canLay_ints _) ?_ prog w _ _ ?_)
  · have d1 : PyData.depth (.tuple (x.1.map PyData.int)) = 1 := by
      show PyData.depthAll _ + 1 = 1
      rw [depth_ints]
    rw [d1]
    have := Nat.min_le_left 1 (PyData.depth (.tuple (y.1.map PyData.int)))
    omega
  rw [eqv_tints]
  refine PySem.W.kat_go (fun e1 => ?_) (fun e1 => ?_)
  · have ex : x.1 = y.1 := of_decide_eq_true e1
    refine PySem.W.kat_yes (PySem.W.kat_cons (SeqAt.EqAt.int_int x.2 t y.2 t' prog w _ _ ?_))
    refine PySem.W.kat_go (fun e2 => ?_) (fun e2 => ?_)
    · have ey : x.2 = y.2 := by simpa using e2
      refine PySem.W.kat_yes (PySem.W.kat_nil ⟨rfl, ?_⟩)
      rw [lexF_eq ex, ey]
      exact (decide_eq_false (Int.lt_irrefl _)).symm
    · refine PySem.W.kat_no (PySem.W.kat_one _ _ (PyProof.Rows.lt_int ?_))
      exact (show s = s ∧ decide (x.2 < y.2) = lexF x y from ⟨rfl, (lexF_eq ex).symm⟩)
  · have ex : ¬ x.1 = y.1 := of_decide_eq_false e1
    refine PySem.W.kat_no (PySem.W.kat_one _ _ (HT.lt_tupInts ht ht' hi hi' (by omega) ?_))
    exact (show s = s ∧ HT.lexLt x.1 y.1 = lexF x y from ⟨rfl, (lexF_ne ex).symm⟩)
theorem firstsF {h : Heap} : ∀ {vs : List Value}, (∀ v ∈ vs, ∃ p, IsFm h v p) → ∃ fs : List Value, PySem.W.KatTups h vs fs ∧ fs.length = vs.length ∧ ∀ f ∈ fs, ∃ b o, f = Value.ref b ∧ h.get? b = some o ∧ o.cls = .type "tuple"
  | [], _ => ⟨[], PySem.W.KatTups.nil, rfl, fun _ hm => nomatch hm⟩
  | v :: vs, hp => by
    obtain ⟨fs, h1, h2, h3⟩ := firstsF (vs := vs) fun v' hm => hp v' (List.mem_cons_of_mem _ hm)
    obtain ⟨p, a, b, o, t, n, its, e, ho, hc, hd, ⟨o2, ho2, hc2, _⟩, _⟩ := hp v List.mem_cons_self
    subst e
    refine ⟨.ref b :: fs, PySem.W.KatTups.cons ho hc hd rfl h1, by rw [List.length_cons, List.length_cons, h2], fun f hm => ?_⟩
    rcases List.mem_cons.mp hm with rfl | hm
    · exact ⟨b, o2, rfl, ho2, hc2⟩
    · exact h3 f hm
theorem fm_sortable {a : Addr} {vs : List Value} {k : Value → List Int × Int} (hu : A.units + 1 < cLine) (h0 : 0 < vs.length) (hp : ∀ v ∈ vs, IsFm s.heap v (k v)) (ha : ∀ o, s.heap.get? a = some o → o.cls ≠ .type "tuple") : SrtO.SortableO prog w A s a vs fun v u => lexF (k v) (k u) := by
  intro h' keep
  have kk : ∀ b o, s.heap.get? b = some o → o.cls = .type "tuple" → h'.get? b = some o := fun b o e c => keep b o (fun z => by subst z; exact ha o e c) e
  have hp' : ∀ v ∈ vs, IsFm h' v (k v) := fun v hm => (hp v hm).keeps kk
  obtain ⟨fs, h1, h2, h3⟩ := firstsF fun v hm => ⟨_, hp' v hm⟩
  refine ⟨tuples' false, fun Q E hq => ?_, fm_cmp hu hp'⟩
  refine PySem.W.kat_kind (T := .type "tuple") h1 (by omega) (fun f hm => ?_) (by rfl) ?_
  · obtain ⟨b, o, rfl, ho, hc⟩ := h3 f hm
    intro A2 Q2 E2 s2 k2 q2
    exact wpAny_typeOf (T := "tuple") ⟨_, k2 _ _ ho, hc⟩ q2
  · have e : (Value.type "tuple" != Value.type "tuple") = false := by decide +kernel
    rw [e]
    exact hq
end
abbrev ltF (k : V → List Int × Int) (x y : V) : Bool := lexF (k x) (k y)
/-- sorted(xs), xs a list of tuples (pattern, many) -/
def rSortF (K : PySem.W.Frag) : List V → Hp → VK → Prop := fun vs H Q => ∃ (a : Addr) (xs : List V) (k : V → List Int × Int), vs = [V.ref a] ∧ SqL K H a xs ∧ (∀ x ∈ xs, ∃ t b, x = V.ref t ∧ H t = some (.tup [.ref b, .int (k x).2]) ∧ H b = some (.tup ((k x).1.map V.int))) ∧
  ∀ ys p, SrtO.Srtd (ltF k) ys → ys.Perm xs → H p = none → Q (.ref p) (upd H p (.lst ys))
theorem cr_sortF {X : Cx} (hu : X.A.units + 64 < cLine) : CallR X (.builtin "sorted") (rSortF X.K) := by
  intro pins s σ H vs us Q I r h
  obtain ⟨a, xs, k, rfl, hs, hx, q⟩ := h
  obtain ⟨its, rv, hl, hz⟩ := I.list hs
  obtain ⟨u, rfl, ru⟩ := vals1 r
  obtain rfl : u = Value.ref a := ru
  obtain ⟨e1, e2⟩ := refs_back rv fun x m => by
    obtain ⟨t, _, e, _⟩ := hx x m
    exact ⟨t, e⟩
  have fm : ∀ v ∈ its, IsFm s.heap v (k (backV v)) := fun v hv => by
    obtain ⟨t, rfl⟩ := e2 v hv
    have hm : V.ref t ∈ xs := by
      rw [e1]
      exact List.mem_map.mpr ⟨_, hv, rfl⟩
    obtain ⟨t', b, e, ht, hb⟩ := hx _ hm
    cases e
    obtain ⟨_, its2, r2, o, ho, hc, n, hd⟩ := I.hok _ _ ht
    obtain ⟨u1, u2, rfl, ri, rj⟩ := vals2 r2
    obtain rfl : u1 = Value.ref b := ri
    obtain ⟨t2, rfl⟩ := rj
    obtain ⟨_, its3, r3, ht3⟩ := I.hok _ _ hb
    exact ⟨t, b, o, t2, n, its3.toArray, rfl, ho, hc, hd, ht3, intsAre_of r3⟩
  refine SrtO.sorted_ord (swo_lexF fun u => k (backV u)) hl.isList (by rw [← rv.length]; exact hz) (fun h2 h₁ a' ha kk => ?_) fun out h1 h2 => ?_
  · refine fm_sortable (s := { s with heap := h₁ }) (by show X.A.units + 1 + 1 + 1 < cLine; omega) (by omega) (fun v hm => (fm v hm).keeps fun b o e _ => (kk b o e).2) fun o e => ?_
    have e' : some o = some (seqObj "list" its.toArray 0) := e.symm.trans ha
    cases e'
    intro c
    exact absurd (Value.type.inj c) (by decide)
  · have h3 : ∀ u ∈ out, ∃ a, u = Value.ref a := fun u hu => e2 u (h2.perm.mem_iff.mp hu)
    have hb : (out.map backV).Perm xs := by
      rw [e1]
      exact h2.perm.map backV
    obtain ⟨n, hn⟩ := PyProof.Rows.sortedAll_at s.heap its out.toArray
    refine ⟨.ref (s.heap.objs.size + 1), upd H (s.heap.objs.size + 1) (.lst (out.map backV)), I.laid (t' := s.toks) (fun b o e => PyProof.Rows.sortedAll_old e) (Nat.le_succ _) ⟨?_, out, n, vals_back h3, hn⟩, rfl, q _ _ (SrtO.srtd_map h1) hb (I.hok.fresh (Nat.le_succ _))⟩
    rw [hb.length_eq]
    exact hz
theorem sortF (K : PySem.W.Frag) {X : Cx} (hu : X.A.units + 64 < cLine) (h : X.K = K := by rfl) : CallR X (.builtin "sorted") (rSortF K) := h ▸ cr_sortF hu
end Fa

/-! families: patterns with how many; in a heap; in a dict while it is filled -/
namespace Fa
open PySem PySem.Spec PyProof.Rows L2
/-- a pattern of days below n -/
structure Pat (n : Int) (ds : List Int) : Prop where
  ne : ds ≠ []
  asc : ds.Pairwise (· < ·)
  bd : ∀ d ∈ ds, 0 ≤ d ∧ d < n
abbrev Fm : Type := List (List Int × Int)
/-- a family: ascending, unlike patterns, each at least once and at most c times -/
structure Fam (n c : Int) (fam : Fm) : Prop where
  asc : fam.Pairwise fun p q => HT.lexLt p.1 q.1 = true
  pat : ∀ p ∈ fam, Pat n p.1
  bd : ∀ p ∈ fam, 1 ≤ p.2 ∧ p.2 ≤ c
/-- at t: the tuple (pattern, many) -/
def FmAt (H : Hp) (x : V) (p : List Int × Int) : Prop := ∃ t b, x = .ref t ∧ H t = some (.tup [.ref b, .int p.2]) ∧ H b = some (.tup (p.1.map V.int))
def FamAt (H : Hp) (a : Addr) (fam : Fm) : Prop := ∃ xs : List V, H a = some (.lst xs) ∧ Paired (FmAt H) xs fam
theorem FmAt.keep {H H' : Hp} {x : V} {p : List Int × Int} (h : FmAt H x p) (k : ∀ b xs, H b = some (.tup xs) → H' b = some (.tup xs)) : FmAt H' x p := by
  obtain ⟨t, b, e, h1, h2⟩ := h
  exact ⟨t, b, e, k _ _ h1, k _ _ h2⟩
theorem FamAt.keep {H H' : Hp} {a : Addr} {fam : Fm} (h : FamAt H a fam) (ha : ∀ xs, H a = some (.lst xs) → H' a = some (.lst xs)) (k : ∀ b xs, H b = some (.tup xs) → H' b = some (.tup xs)) : FamAt H' a fam := by
  obtain ⟨xs, e, p⟩ := h
  exact ⟨xs, ha _ e, L2.Paired.mapP p fun _ _ q => q.keep k⟩
theorem FamAt.same {H H' : Hp} {a : Addr} {fam : Fm} (h : FamAt H a fam) (s : Same H H') : FamAt H' a fam := h.keep (fun _ e => s _ _ e) fun _ _ e => s _ _ e
theorem paired_len {α β : Type} {F : α → β → Prop} {l : List α} {m : List β} (h : Paired F l m) : l.length = m.length := Paired.length h
theorem paired_at {α β : Type} {F : α → β → Prop} : ∀ {l : List α} {m : List β} {i : Nat} {x : α}, Paired F l m → l[i]? = some x → ∃ y, m[i]? = some y ∧ F x y
  | _, _, _, _, .nil, e => by simp at e
  | _, _, 0, _, .cons r _, e => by
    simp at e
    subst e
    exact ⟨_, rfl, r⟩
  | _, _, i + 1, x, .cons _ t, e => by
    obtain ⟨y, h1, h2⟩ := paired_at (i := i) (x := x) t (by simpa using e)
    exact ⟨y, by simpa using h1, h2⟩
/-! ### the dict of a family while it is filled -/
structure KvOk (n c : Int) (i : Nat) (kvs : List (List Key × V)) : Prop where
  nd : (kvs.map (·.1)).Nodup
  len : kvs.length ≤ i
  ok : ∀ kv ∈ kvs, ∃ ds m, kv = (ds.map Sum.inl, V.int m) ∧ Pat n ds ∧ 1 ≤ m ∧ m ≤ c * i
theorem kvOk_nil {n c : Int} : KvOk n c 0 [] := ⟨List.nodup_nil, Nat.le_refl _, fun _ h => nomatch h⟩
theorem kvOk_get {n c : Int} {i : Nat} {kvs : List (List Key × V)} (h : KvOk n c i kvs) (c0 : 0 ≤ c) (k : List Key) : ∃ m, (valV kvs k).getD (.int 0) = .int m ∧ 0 ≤ m ∧ m ≤ c * i := by
  unfold valV
  cases e : kvs.find? fun kv => decide (kv.1 = k) with
  | none => exact ⟨0, rfl, Int.le_refl _, Int.mul_nonneg c0 (by omega)⟩
  | some kv =>
    obtain ⟨ds, m, rfl, _, h1, h2⟩ := h.ok kv (List.mem_of_find?_eq_some e)
    exact ⟨m, rfl, by omega, h2⟩
theorem kvOk_put {n c : Int} {i : Nat} {kvs : List (List Key × V)} (h : KvOk n c i kvs) (c0 : 0 ≤ c) {ds : List Int} {m : Int} (p : Pat n ds) (h1 : 1 ≤ m) (h2 : m ≤ c * (i + 1)) : KvOk n c (i + 1) (putK kvs (ds.map Sum.inl) (.int m)) := by
  have up : ∀ kv ∈ kvs, ∃ ds m, kv = (ds.map Sum.inl, V.int m) ∧ Pat n ds ∧ 1 ≤ m ∧ m ≤ c * ((i + 1 : Nat) : Int) := fun kv hk => by
    obtain ⟨d, m, e, q, b1, b2⟩ := h.ok kv hk
    refine ⟨d, m, e, q, b1, ?_⟩
    have : c * ((i + 1 : Nat) : Int) = c * i + c := by
      rw [Int.natCast_add]
      rw [Int.mul_add]
      show c * i + c * 1 = _
      rw [Int.mul_one]
    omega
  unfold putK
  by_cases e : (kvs.any fun kv => decide (kv.1 = ds.map Sum.inl)) = true
  · rw [if_pos e]
    refine ⟨?_, ?_, fun kv hk => ?_⟩
    · rw [List.map_map, show ((fun x : List Key × V => x.1) ∘ fun kv : List Key × V => if kv.1 = ds.map Sum.inl then (kv.1, V.int m) else kv) = fun kv => kv.1 by
        funext kv
        show (if kv.1 = ds.map Sum.inl then (kv.1, V.int m) else kv).1 = kv.1
        split <;> rfl]
      exact h.nd
    · rw [List.length_map]
      have := h.len
      omega
    · obtain ⟨kv0, h0, rfl⟩ := List.mem_map.mp hk
      by_cases q : kv0.1 = ds.map Sum.inl
      · rw [if_pos q, q]
        exact ⟨ds, m, rfl, p, h1, by rw [Int.natCast_add]; exact h2⟩
      · rw [if_neg q]
        exact up kv0 h0
  · rw [if_neg e]
    refine ⟨?_, ?_, fun kv hk => ?_⟩
    · rw [List.map_append, List.nodup_append]
      refine ⟨h.nd, List.pairwise_singleton _ _, fun a ha b hb => ?_⟩
      have hb' : b = ds.map Sum.inl := List.mem_singleton.mp hb
      intro z
      refine e (List.any_eq_true.mpr ?_)
      obtain ⟨kv, h0, e0⟩ := List.mem_map.mp ha
      exact ⟨kv, h0, decide_eq_true (e0.trans (z.trans hb'))⟩
    · rw [List.length_append]
      have := h.len
      simp only [List.length_singleton]
      omega
    · rcases List.mem_append.mp hk with hk | hk
      · exact up kv hk
      · rw [List.mem_singleton.mp hk]
        exact ⟨ds, m, rfl, p, h1, by rw [Int.natCast_add]; exact h2⟩
/-- the family of the dict's pairs, in the dict's order -/
def famOf (kvs : List (List Key × V)) : Fm := kvs.map fun kv => (kv.1.map fun | .inl i => i | .inr _ => 0, match kv.2 with | .int m => m | _ => 0)
theorem famOf_at {n c : Int} {i : Nat} {kvs : List (List Key × V)} (h : KvOk n c i kvs) {j : Nat} {k : List Key} {v : V} (e : kvs[j]? = some (k, v)) : ∃ ds m, k = ds.map Sum.inl ∧ v = .int m ∧ (famOf kvs)[j]? = some (ds, m) := by
  obtain ⟨ds, m, e2, _⟩ := h.ok (k, v) (List.mem_of_getElem? e)
  obtain ⟨rfl, rfl⟩ := Prod.mk.inj e2
  refine ⟨ds, m, rfl, rfl, ?_⟩
  unfold famOf
  rw [List.getElem?_map, e]
  show some ((ds.map Sum.inl).map _, m) = some (ds, m)
  rw [List.map_map, show ((fun | .inl i => i | .inr _ => 0 : Key → Int) ∘ Sum.inl) = id from rfl, List.map_id]
theorem famOf_all {n c : Int} {i : Nat} {kvs : List (List Key × V)} (h : KvOk n c i kvs) : (∀ p ∈ famOf kvs, Pat n p.1 ∧ 1 ≤ p.2 ∧ p.2 ≤ c * i) ∧ ((famOf kvs).map (·.1)).Nodup ∧ (famOf kvs).length = kvs.length := by
  have key : ∀ kv ∈ kvs, ∃ ds m, kv = (ds.map Sum.inl, V.int m) ∧ Pat n ds ∧ 1 ≤ m ∧ m ≤ c * i := h.ok
  refine ⟨fun p hp => ?_, ?_, ?_⟩
  · obtain ⟨j, hj, e⟩ := List.mem_iff_getElem.mp hp
    have hj' : j < kvs.length := by
      unfold famOf at hj
      rw [List.length_map] at hj
      exact hj
    have e1 : kvs[j]? = some (kvs[j].1, kvs[j].2) := List.getElem?_eq_getElem hj'
    obtain ⟨ds, m, k1, v1, e2⟩ := famOf_at h e1
    rw [List.getElem?_eq_getElem hj, e] at e2
    obtain ⟨d2, m2, e3, q⟩ := key kvs[j] (List.getElem_mem hj')
    have e4 : (kvs[j].1, kvs[j].2) = (d2.map Sum.inl, V.int m2) := e3
    obtain ⟨z1, z2⟩ := Prod.mk.inj e4
    rw [k1] at z1
    rw [v1] at z2
    have d : ds = d2 := (List.map_inj_right fun _ _ hh => Sum.inl.inj hh).mp z1
    have mm : m = m2 := V.int.inj z2
    rw [Option.some.inj e2, d, mm]
    exact q
  · unfold famOf
    rw [List.map_map]
    have nd := h.nd
    have : ∀ l : List (List Key × V), (∀ kv ∈ l, ∃ ds m, kv = (ds.map Sum.inl, V.int m) ∧ Pat n ds ∧ 1 ≤ m ∧ m ≤ c * i) → (l.map (·.1)).Nodup → (l.map ((·.1) ∘ fun kv : List Key × V => ((kv.1.map fun | .inl i => i | .inr _ => 0 : List Int), (match kv.2 with | .int m => m | _ => 0 : Int)))).Nodup := by
      intro l hl hn
      induction l with
      | nil => exact List.nodup_nil
      | cons a l ih =>
        rw [List.map_cons, List.nodup_cons] at hn ⊢
        refine ⟨fun hm => hn.1 ?_, ih (fun kv hk => hl kv (List.mem_cons_of_mem _ hk)) hn.2⟩
        obtain ⟨b, hb, eb⟩ := List.mem_map.mp hm
        obtain ⟨d1, m1, e1, _⟩ := hl a List.mem_cons_self
        obtain ⟨d2, m2, e2, _⟩ := hl b (List.mem_cons_of_mem _ hb)
        subst e1 e2
        have q : (d2.map Sum.inl : List Key).map (fun | .inl i => i | .inr _ => 0) = (d1.map Sum.inl : List Key).map (fun | .inl i => i | .inr _ => 0) := eb
        rw [List.map_map, List.map_map, show ((fun | .inl i => i | .inr _ => 0 : Key → Int) ∘ Sum.inl) = id from rfl, List.map_id, List.map_id] at q
        subst q
        exact List.mem_map.mpr ⟨_, hb, rfl⟩
    exact this kvs key nd
  · unfold famOf
    rw [List.length_map]
/-- unlike patterns in order: ascending -/
theorem sorted_fam {k : V → List Int × Int} {ys : List V} (hs : SrtO.Srtd (ltF k) ys) (nd : (ys.map fun y => (k y).1).Nodup) : (ys.map k).Pairwise fun p q => HT.lexLt p.1 q.1 = true := by
  rw [List.pairwise_map]
  have nd' : ys.Pairwise fun x y => (k x).1 ≠ (k y).1 := List.pairwise_map.mp nd
  have hs' : ys.Pairwise fun x y => ltF k y x = false := hs
  refine (hs'.and nd').imp fun {x y} h => ?_
  have h1 : lexF (k y) (k x) = false := h.1
  rw [lexF_ne fun z => h.2 z.symm] at h1
  cases e : HT.lexLt (k x).1 (k y).1 with
  | true => rfl
  | false => exact absurd (lex_eq _ _ e h1) h.2
theorem ints_inj : ∀ {l m : List Int}, l.map V.int = m.map V.int → l = m
  | [], [], _ => rfl
  | [], _ :: _, h => by cases h
  | _ :: _, [], h => by cases h
  | x :: l, y :: m, h => by
    obtain ⟨h1, h2⟩ := List.cons.inj h
    rw [V.int.inj h1, ints_inj h2]
theorem FmAt.inj {H : Hp} {x : V} {p q : List Int × Int} (h : FmAt H x p) (h' : FmAt H x q) : p = q := by
  obtain ⟨t, b, rfl, h1, h2⟩ := h
  obtain ⟨t', b', e, h3, h4⟩ := h'
  cases e
  rw [h1] at h3
  have e2 := HO.tup.inj (Option.some.inj h3)
  obtain ⟨e3, e4⟩ := List.cons.inj e2
  cases e3
  have e5 := V.int.inj (List.cons.inj e4).1
  rw [h2] at h4
  have e6 := ints_inj (HO.tup.inj (Option.some.inj h4))
  exact Prod.ext e6 e5
theorem fm_key {H : Hp} {xs : List V} {fam : Fm} (h : Paired (FmAt H) xs fam) : ∃ k : V → List Int × Int, xs.map k = fam ∧ ∀ x ∈ xs, FmAt H x (k x) := by
  classical
  refine ⟨fun x => if e : ∃ p, FmAt H x p then e.choose else ([], 0), ?_, ?_⟩
  · induction h with
    | nil => rfl
    | cons r t ih =>
      rw [List.map_cons, ih]
      refine congrArg (· :: _) ?_
      have e : ∃ p, FmAt H _ p := ⟨_, r⟩
      rw [dif_pos e]
      exact e.choose_spec.inj r
  · intro x hx
    obtain ⟨i, hi, e⟩ := List.mem_iff_getElem.mp hx
    obtain ⟨y, _, hy⟩ := paired_at h (by rw [List.getElem?_eq_getElem hi, e])
    have e : ∃ p, FmAt H x p := ⟨_, hy⟩
    show FmAt H x (if e : ∃ p, FmAt H x p then e.choose else ([], 0))
    rw [dif_pos e]
    exact e.choose_spec
theorem paired_map {H : Hp} {k : V → List Int × Int} : ∀ {ys : List V}, (∀ y ∈ ys, FmAt H y (k y)) → Paired (FmAt H) ys (ys.map k)
  | [], _ => .nil
  | _ :: _, h => .cons (h _ List.mem_cons_self) (paired_map fun y hy => h y (List.mem_cons_of_mem _ hy))
/-- the sorted list is a family -/
theorem fam_of_sorted {H : Hp} {n c : Int} {i : Nat} {kvs : List (List Key × V)} {xs ys : List V} {k : V → List Int × Int} (hk : KvOk n c i kvs) (e : xs.map k = famOf kvs) (hx : ∀ x ∈ xs, FmAt H x (k x)) (hs : SrtO.Srtd (ltF k) ys) (hp : ys.Perm xs) :
    Paired (FmAt H) ys (ys.map k) ∧ Fam n (c * i) (ys.map k) ∧ (ys.map k).length ≤ i := by
  obtain ⟨h1, h2, h3⟩ := famOf_all hk
  have pm : (ys.map k).Perm (famOf kvs) := by
    rw [← e]
    exact hp.map k
  refine ⟨paired_map fun y hy => hx y (hp.mem_iff.mp hy), ⟨sorted_fam hs ?_, fun p hm => (h1 p (pm.mem_iff.mp hm)).1, fun p hm => (h1 p (pm.mem_iff.mp hm)).2⟩, ?_⟩
  · have q := pm.map (·.1)
    rw [List.map_map] at q
    exact q.nodup_iff.mpr h2
  · rw [pm.length_eq, h3]
    exact hk.len
theorem valV_at {κ : Type} [DecidableEq κ] : ∀ {kvs : List (κ × V)} {j : Nat} {k : κ} {v : V}, (kvs.map (·.1)).Nodup → kvs[j]? = some (k, v) → valV kvs k = some v
  | [], _, _, _, _, e => by simp at e
  | a :: l, 0, k, v, _, e => by
    simp at e
    subst e
    exact valV_pos rfl
  | a :: l, j + 1, k, v, nd, e => by
    rw [List.map_cons, List.nodup_cons] at nd
    have e' : l[j]? = some (k, v) := by simpa using e
    rw [valV_neg fun z => nd.1 (by
      rw [z]
      exact List.mem_map.mpr ⟨_, List.mem_of_getElem? e', rfl⟩)]
    exact valV_at nd.2 e'
theorem paired_snoc {α β : Type} {F : α → β → Prop} : ∀ {l : List α} {m : List β} {a : α} {b : β}, Paired F l m → F a b → Paired F (l ++ [a]) (m ++ [b])
  | _, _, _, _, .nil, h => .cons h .nil
  | _, _, _, _, .cons r t, h => .cons r (paired_snoc t h)
end Fa

namespace K21
open PySem PySem.Spec PyProof.Rows L2 Fa
abbrev s__law_days : Stmt := topS 57
abbrev N__law_days : List Str := ["jar", "count_here", "way_here", "begin", "wide", "found", "spot"]
theorem sc__law_days : FnScope N__law_days ["jar", "count_here"] (defScope s__law_days) := ⟨rfl, rfl, rfl, by decide +kernel, rfl, by decide +kernel, by decide +kernel⟩
def spMany : Sp := fun vs H Q _ => ∃ (p : Addr) (B : Int), vs = [.ref p] ∧ JarAt H p B ∧ B ≤ 900000000 ∧ ∀ H' r, Kp p H H' → JarAt H' p (B + 2) → 1 ≤ r → r ≤ 100000000000000000000000000 → Q (.int r) H'
def spDays : Sp := fun vs H Q _ => ∃ (p : Addr) (n B : Int), vs = [.ref p, .int n] ∧ JarAt H p B ∧ B ≤ 900000000 ∧ 1 ≤ n ∧ n ≤ 30 ∧
  ∀ H' t ds, Kp p H H' → H t = none → H' t = some (.tup (ds.map V.int)) → Pat n ds → JarAt H' p (B + 40) → Q (.ref t) H'
theorem lt3000 {x : Int} (h : x ≤ 100000000000000000000000000000000) : x < 2 ^ 3000 := by
  have e : (100000000000000000000000000000000 : Int) < 2 ^ 3000 := by decide +kernel
  omega
section
variable {P : Program} {w : World} {K : PySem.W.Frag} {mg : Str → Option Value} {base : Heap}
theorem ok_many {f fD : Addr} {fd fdD : FuncData} {k : Nat} (F : Fun K "_law_many" "_law_many" s__law_many f fd) (F__law_dip : Fun K "_law_dip" "_law_dip" s__law_dip fD fdD) (G__law_dip : FnOk P w K mg base CX0 k fD fdD ["jar", "many"] spDip) (b__law_dip : Binds K fdD ["jar", "many"] [])
    (g__law_dip : mg "_law_dip" = some (.ref fD)) : FnOk P w K mg base CX0 (k + 1) f fd ["jar"] spMany := by
  refine F.ok sc__law_many (fun vs H Q E h => ?_) (fun cdv A outer s H vs Q E hr h => ?_)
  · obtain ⟨p, B, rfl, _⟩ := h
    rfl
  · obtain ⟨p, B, rfl, hJ, hB, q⟩ := h
    refine ⟨_, (pss_one (ps_ret (pe_op op_add pe_int (pe_call G__law_dip (hr.mono (by omega)) (by rfl) g__law_dip F__law_dip.kp b__law_dip .nil pass0 (pa_cons (pv 0) (pa_cons (pe_ix (Fa.ixL K) (pe_lst (pa_cons pe_int (pa_cons pe_int (pa_cons (pe_op Fa.op_powW pe_int pe_int) pa_nil)))) (pe_call G__law_dip (hr.mono (by omega)) (by rfl) g__law_dip F__law_dip.kp b__law_dip .nil pass0 (pa_cons (pv 0) (pa_cons pe_int pa_nil))) (fun _ _ => rfl)) pa_nil)))))), ?_⟩
    refine ⟨_, rfl, _, _, rfl, rfl, pw10 (by decide) (by decide), by show 3 ≤ sizeLine; decide, fun l nl => ?_⟩
    have nlp := hJ.ne nl
    refine ⟨_, rfl, p, 3, B, rfl, hJ.far nlp, by omega, by decide, lt3000 (by decide), fun H1 r1 b1 hJ1 r0 r3 => ?_⟩
    obtain ⟨m, eA, m0, m1⟩ : ∃ m : Int, atI [V.int 3, V.int 50, V.int (10 ^ Int.toNat 26)] r1 = some (V.int m) ∧ 0 < m ∧ m ≤ 100000000000000000000000000 := by
      have e : r1 = 0 ∨ r1 = 1 ∨ r1 = 2 := by omega
      rcases e with rfl | rfl | rfl
      · exact ⟨3, rfl, by decide, by decide⟩
      · exact ⟨50, rfl, by decide, by decide⟩
      · exact ⟨10 ^ Int.toNat 26, rfl, by rw [e26]; decide, by rw [e26]; decide⟩
    refine ⟨l, _, _, _, rfl, rfl, .inl (.inl ((b1 l nlp).trans upd_same)), eA, ?_⟩
    refine ⟨p, m, B + 1, rfl, hJ1, by omega, m0, lt3000 (by omega), fun H2 r2 b2 hJ2 r20 r2m => ⟨_, _, rfl, rfl, ?_⟩⟩
    exact q _ _ ((kp_new nl).trans (b1.trans b2).kp) (hJ2.mono (by omega)) (by omega) (by omega)
theorem ok_days {f fD : Addr} {fd fdD : FuncData} {k : Nat} (F : Fun K "_law_days" "_law_days" s__law_days f fd) (F__law_dip : Fun K "_law_dip" "_law_dip" s__law_dip fD fdD) (G__law_dip : FnOk P w K mg base CX0 k fD fdD ["jar", "many"] spDip) (b__law_dip : Binds K fdD ["jar", "many"] [])
    (g__law_dip : mg "_law_dip" = some (.ref fD)) (m_tuple : mg "tuple" = none) (m_range : mg "range" = none) : FnOk P w K mg base CX0 (k + 1) f fd ["jar", "count_here"] spDays := by
  refine F.ok sc__law_days (fun vs H Q E h => ?_) (fun cdv A outer s H vs Q E hr h => ?_)
  · obtain ⟨p, n, B, rfl, _⟩ := h
    rfl
  · obtain ⟨p, n, B, rfl, hJ, hB, n1, n30, q⟩ := h
    refine ⟨_, (pss_cons (ps_set (i := 2) sc__law_days.nd rfl (by first | exact Or.inl rfl | exact Or.inr rfl) (pe_call G__law_dip (hr.mono (by omega)) (by rfl) g__law_dip F__law_dip.kp b__law_dip .nil pass0 (pa_cons (pv 0) (pa_cons pe_int pa_nil))))
  (pss_cons (ps_if (pt_cmpR op_eq (pv 2) pe_int (nomark _)) (pss_cons (ps_set (i := 3) sc__law_days.nd rfl (by first | exact Or.inl rfl | exact Or.inr rfl) (pe_call G__law_dip (hr.mono (by omega)) (by rfl) g__law_dip F__law_dip.kp b__law_dip .nil pass0 (pa_cons (pv 0) (pa_cons (pv 1) pa_nil))))
  (pss_one (ps_ret (pe_tupRg rfl (by rfl) m_tuple (prg_2 (by rfl) m_range (pv 3) (pe_op op_add (pe_op op_add (pv 3) pe_int) (pe_call G__law_dip (hr.mono (by omega)) (by rfl) g__law_dip F__law_dip.kp b__law_dip .nil pass0 (pa_cons (pv 0) (pa_cons (pe_op op_sub (pv 1) (pv 3)) pa_nil))))))))) pss_nil)
  (pss_cons (ps_set (i := 4) sc__law_days.nd rfl (by first | exact Or.inl rfl | exact Or.inr rfl) (pe_ix (Fa.ixL K) (pe_lst (pa_cons pe_int (pa_cons pe_int pa_nil))) (pe_op op_sub (pv 2) pe_int) (fun _ _ => rfl)))
  (pss_cons (ps_setLc (i := 5) (own := [("spot", 6)]) (g := (gName 6)) rfl sc__law_days.nd rfl rfl (sw_true rfl rfl rfl (by decide +kernel)) (pi_range1 (by rfl) m_range (pa_cons (pv 1) pa_nil)) (blkOk_by (N := N__law_days) (sc := defScope s__law_days) (by decide +kernel)) (fun _ _ _ _ _ => (pg_name (i := 6) sc__law_days.nd rfl (by first | exact Or.inl rfl | exact Or.inr rfl))) (fun _ _ _ _ _ => (pts_one (pt_cmpR op_eq (pe_call G__law_dip (hr.mono (by omega)) (by rfl) g__law_dip F__law_dip.kp b__law_dip .nil pass0 (pa_cons (pv 0) (pa_cons (pv 4) pa_nil))) pe_int (nomark _)))) (fun _ _ _ _ _ => (pv 6)))
  (pss_one (ps_ret (pe_ifExp (pt_cmpR (Fa.neQ K hr.units) (pv 5) (pe_lst pa_nil) (nomark _)) (pe_callTy (Fa.tupQ K) (by rfl) m_tuple PyProof.Rows.boot_tuple (pa_cons (pv 5) pa_nil)) (pe_tup (pa_cons (pe_call G__law_dip (hr.mono (by omega)) (by rfl) g__law_dip F__law_dip.kp b__law_dip .nil pass0 (pa_cons (pv 0) (pa_cons (pv 1) pa_nil))) pa_nil))))))))), ?_⟩
    refine ⟨_, rfl, p, 3, B, rfl, hJ, by omega, by decide, lt3000 (by decide), fun H1 r1 b1 hJ1 r0 r3 => ?_⟩
    refine ⟨_, rfl, rfl, _, rfl, ite2 (fun e => ?_) (fun e => ?_)⟩
    · refine ⟨_, rfl, _, rfl, p, n, B + 1, rfl, hJ1, by omega, by omega, lt3000 (by omega), fun H2 r2 b2 hJ2 r20 r2n => ?_⟩
      refine ⟨_, rfl, _, rfl, _, _, rfl, rfl, _, rfl, _, rfl, _, rfl, _, _, rfl, rfl, p, n - r2, B + 1 + 1, rfl, hJ2, by omega, by omega, lt3000 (by omega), fun H3 r3 b3 hJ3 r30 r3n => ⟨_, _, rfl, rfl, ?_⟩⟩
      refine ⟨_, _, rfl, rfl, RgOk.of_le (by omega) (by omega) (by omega) (by omega), fun t nt => ?_⟩
      have nt' := hJ3.ne nt
      have kp := (b1.trans (b2.trans b3)).kp
      refine q _ t ((List.range (r2 + 1 + r3 - r2).toNat).map fun i : Nat => r2 + (i : Int)) (kp.trans (kp_new nt)) (kp.free nt' nt) ?_ ⟨?_, ?_, ?_⟩ ((hJ3.far nt').mono (by omega))
      · rw [upd_same, List.map_map]
        rfl
      · intro z
        have := congrArg List.length z
        rw [List.length_map, List.length_range] at this
        simp only [List.length_nil] at this
        omega
      · rw [List.pairwise_map]
        exact (List.pairwise_lt_range).imp fun h => by omega
      · intro d hd
        obtain ⟨i, hi, rfl⟩ := List.mem_map.mp hd
        have := List.mem_range.mp hi
        omega
    · have e' : r1 ≠ 0 := fun z => e (decide_eq_true (congrArg V.int z))
      refine ⟨by show 2 ≤ sizeLine; decide, fun l nl => ?_⟩
      have nlp := hJ1.ne nl
      obtain ⟨m, eA, m0, m1⟩ : ∃ m : Int, atI [V.int 5, V.int 2] (r1 - 1) = some (V.int m) ∧ 0 < m ∧ m ≤ 5 := by
        have e : r1 = 1 ∨ r1 = 2 := by omega
        rcases e with rfl | rfl
        · exact ⟨5, rfl, by decide, by decide⟩
        · exact ⟨2, rfl, by decide, by decide⟩
      refine ⟨_, rfl, _, _, rfl, rfl, l, _, _, _, rfl, rfl, .inl (.inl upd_same), eA, ?_⟩
      have hJ2 := hJ1.far (o := .lst [.int 5, .int 2]) nlp
      have k2 : Kp p H (upd H1 l (.lst [.int 5, .int 2])) := b1.kp.trans (kp_new nl)
      generalize upd H1 l _ = H2 at hJ2 k2 ⊢
      refine ⟨_, rfl, n, rfl, by omega, by omega, fun D nD => ?_⟩
      have nDp := hJ2.ne nD
      refine lc_range (lo := 0) (fun i H3 => JarAt H3 p (B + 1 + i) ∧ Kp p H2 H3 ∧ ∃ ds : List Int, H3 D = some (.lst (ds.map V.int)) ∧ ds.length ≤ i ∧ ds.Pairwise (· < ·) ∧ ∀ d ∈ ds, 0 ≤ d ∧ d < i) ?_ ?_ ?_
      · exact ⟨(hJ2.far nDp).mono (by omega), kp_new nD, [], upd_same, Nat.le_refl _, .nil, fun d h => nomatch h⟩
      · rintro i H3 hi ⟨hJ3, k3, ds, eD, ld, asc, bd⟩
        refine ⟨rfl, _, rfl, _, rfl, p, m, B + 1 + i, rfl, hJ3, by omega, m0, lt3000 (by omega), fun H4 r4 b4 hJ4 r40 r4m => ⟨rfl, _, rfl, ite2 (fun e4 => ?_) (fun e4 => ?_)⟩⟩
        · refine ⟨_, rfl, ds.map V.int, (b4 D nDp).trans eD, ?_, ?_⟩
          · rw [List.length_map]
            exact small1000 (by omega)
          · refine ⟨(hJ4.far nDp).mono (by omega), (k3.trans b4.kp).mut nD, ds ++ [(i : Int)], ?_, ?_, ?_, ?_⟩
            · rw [upd_same, List.map_append, Int.zero_add]
              rfl
            · rw [List.length_append]
              simp only [List.length_singleton]
              omega
            · rw [List.pairwise_append]
              refine ⟨asc, List.pairwise_singleton _ _, fun a ha b hb => ?_⟩
              rw [List.mem_singleton.mp hb]
              exact (bd a ha).2
            · intro d hd
              rcases List.mem_append.mp hd with hd | hd
              · have := bd d hd
                omega
              · rw [List.mem_singleton.mp hd]
                omega
        · refine ⟨hJ4.mono (by omega), k3.trans b4.kp, ds, (b4 D nDp).trans eD, by omega, asc, fun d hd => ?_⟩
          have := bd d hd
          omega
      · rintro H3 ⟨hJ3, k3, ds, eD, ld, asc, bd⟩
        refine ⟨_, rfl, Nat.zero_le _, fun z nz => ?_⟩
        have nzp := hJ3.ne nz
        refine ⟨.list (ds.map PyData.int), .list [], .lst (.inl (.inl (same_new nz _ _ eD))) (dp_ints ds), .lst (.inl (.inl upd_same)) .nil, (shp_ints 0 ds).shaped (by decide), rfl, _, rfl, ?_⟩
        have k4 : Kp p H (upd H3 z (.lst [])) := (k2.trans k3).trans (kp_new nz)
        have hJ4 := hJ3.far (o := .lst []) nzp
        have eD4 := (same_new (o := .lst []) nz) _ _ eD
        generalize upd H3 z _ = H4 at k4 hJ4 eD4 ⊢
        cases ds with
        | nil =>
          refine iteN0 rfl ?_
          refine ⟨_, rfl, _, rfl, p, n, B + 1 + (n.toNat : Int), rfl, hJ4, by omega, by omega, lt3000 (by omega), fun H5 r5 b5 hJ5 r50 r5n => ⟨by show 1 ≤ sizeLine; decide, fun t nt => ?_⟩⟩
          have ntp := hJ5.ne nt
          have k5 := k4.trans b5.kp
          refine q _ t [r5] (k5.trans (kp_new nt)) (k5.free ntp nt) upd_same ⟨List.cons_ne_nil _ _, List.pairwise_singleton _ _, fun d hd => ?_⟩ ((hJ5.far ntp).mono (by omega))
          rw [List.mem_singleton.mp hd]
          exact ⟨r50, r5n⟩
        | cons d0 ds =>
          refine iteN1 rfl ?_
          refine ⟨_, rfl, D, _, rfl, .inl ⟨.inl (.inl eD4), fun t nt => ?_⟩⟩
          have ntp := hJ4.ne nt
          exact q _ t (d0 :: ds) (k4.trans (kp_new nt)) (k4.free ntp nt) upd_same ⟨List.cons_ne_nil _ _, asc, fun d hd => by have := bd d hd; omega⟩ ((hJ4.far ntp).mono (by omega))
end
end K21

namespace K21
open PySem PySem.Spec PyProof.Rows L2 Fa
abbrev s__law_family : Stmt := topS 58
abbrev N__law_family : List Str := ["jar", "count_here", "size", "found", "turn", "one"]
theorem sc__law_family : FnScope N__law_family ["jar", "count_here", "size"] (defScope s__law_family) := ⟨rfl, rfl, rfl, by decide +kernel, rfl, by decide +kernel, by decide +kernel⟩
section
variable {P : Program} {w : World} {K : PySem.W.Frag} {mg : Str → Option Value} {base : Heap}
theorem pos26 : (0 : Int) ≤ 100000000000000000000000000 := by decide
def spFamily : Sp := fun vs H Q _ => ∃ (p : Addr) (n m B : Int), vs = [.ref p, .int n, .int m] ∧ JarAt H p B ∧ B ≤ 800000000 ∧ 1 ≤ n ∧ n ≤ 30 ∧ 0 ≤ m ∧ m ≤ 100 ∧
  ∀ H' a fam, Kp p H H' → H a = none → FamAt H' a fam → Fam n (100000000000000000000000000 * m) fam → (fam.length : Int) ≤ m → JarAt H' p (B + 50 * m) → Q (.ref a) H'
theorem ok_family {f fD fM : Addr} {fd fdD fdM : FuncData} {k : Nat} (F : Fun K "_law_family" "_law_family" s__law_family f fd) (F__law_days : Fun K "_law_days" "_law_days" s__law_days fD fdD) (G__law_days : FnOk P w K mg base CX0 k fD fdD ["jar", "count_here"] spDays) (b__law_days : Binds K fdD ["jar", "count_here"] [])
    (g__law_days : mg "_law_days" = some (.ref fD)) (F__law_many : Fun K "_law_many" "_law_many" s__law_many fM fdM) (G__law_many : FnOk P w K mg base CX0 k fM fdM ["jar"] spMany) (b__law_many : Binds K fdM ["jar"] [])
    (g__law_many : mg "_law_many" = some (.ref fM)) (m_range : mg "range" = none) (m_sorted : mg "sorted" = none) : FnOk P w K mg base CX0 (k + 1) f fd ["jar", "count_here", "size"] spFamily := by
  have b_sorted : bootBuiltins "sorted" = some (.builtin "sorted") := by decide +kernel
  refine F.ok sc__law_family (fun vs H Q E h => ?_) (fun cdv A outer s H vs Q E hr h => ?_)
  · obtain ⟨p, n, m, B, rfl, _⟩ := h
    rfl
  · obtain ⟨p, n, m, B, rfl, hJ, hB, n1, n30, m0, m1, q⟩ := h
    refine ⟨_, (pss_cons (ps_set (i := 3) sc__law_family.nd rfl (by first | exact Or.inl rfl | exact Or.inr rfl) pe_dnewT)
  (pss_cons (ps_for PassesOwn.never rfl (pi_range1 (by rfl) m_range (pa_cons (pv 2) pa_nil)) (pg_name (i := 4) sc__law_family.nd rfl (by first | exact Or.inl rfl | exact Or.inr rfl)) (pss_cons (ps_set (i := 5) sc__law_family.nd rfl (by first | exact Or.inl rfl | exact Or.inr rfl) (pe_call G__law_days (hr.mono (by omega)) (by rfl) g__law_days F__law_days.kp b__law_days .nil pass0 (pa_cons (pv 0) (pa_cons (pv 1) pa_nil))))
  (pss_one (ps_dput (hu_of hr) (pv 3) (pv 5) (pe_op op_add (pe_dget2 (hu_of hr) (pv 3) (pv 5) pe_int (by constructor <;> rfl)) (pe_call G__law_many (hr.mono (by omega)) (by rfl) g__law_many F__law_many.kp b__law_many .nil pass0 (pa_cons (pv 0) pa_nil))) rfl))))
  (pss_one (ps_ret (pe_callB (Fa.sortF K hr.units) (by rfl) m_sorted b_sorted (pa_cons (pe_lock (pe_lc (own := [("one", 5)]) (g := gName 5) (tt := tYes) rfl sc__law_family.nd (pi_keys (pv 3)) (blkOk_by (N := N__law_family) (sc := defScope s__law_family) (by decide +kernel)) (fun _ _ _ _ _ => (pg_name (i := 5) sc__law_family.nd rfl (by first | exact Or.inl rfl | exact Or.inr rfl))) (fun _ _ _ _ _ => pts_nil) (fun _ _ _ _ _ => (pe_tup (pa_cons (pv 5) (pa_cons (pe_dget (hu_of hr) (pv 3) (pv 5) (fun _ _ => rfl)) pa_nil)))))) pa_nil)))))), ?_⟩
    refine fun fo nfo => ?_
    have nfp := hJ.ne nfo
    have k0 : Kp p H (upd H fo (.dT [])) := kp_new nfo
    have hJ0 := hJ.far (o := .dT []) nfp
    have e0 : upd H fo (.dT []) fo = some (.dT []) := upd_same
    generalize upd H fo (.dT []) = H0 at k0 hJ0 e0 ⊢
    refine ⟨_, rfl, m, rfl, by omega, by omega, ?_⟩
    refine for_range (lo := 0) (fun i σ H' => Kp p H H' ∧ JarAt H' p (B + 50 * i) ∧ (∃ kvs, H' fo = some (.dT kvs) ∧ KvOk n 100000000000000000000000000 i kvs) ∧ ∃ y z, σ = [some (.ref p), some (.int n), some (.int m), some (.ref fo), y, z]) ?_ ?_ ?_
    · exact ⟨k0, hJ0.mono (by omega), ⟨[], e0, kvOk_nil⟩, none, none, rfl⟩
    · rintro i σ H1 hi ⟨k1, hJ1, ⟨kvs, e1, hk⟩, y, z, rfl⟩
      refine ⟨_, rfl, _, rfl, p, n, B + 50 * i, rfl, hJ1, by omega, n1, n30, fun H2 t ds k2 nt et hPat hJ2 => ?_⟩
      have e2 := k2 _ _ nfp e1
      have et' : H2 t = some (.tup ((ds.map Sum.inl).map kV)) := by
        rw [List.map_map]
        exact et
      obtain ⟨v0, ev0, v00, v0b⟩ := kvOk_get hk pos26 (ds.map Sum.inl)
      refine ⟨_, rfl, fo, rfl, .inr ⟨kvs, .inl e2⟩, _, rfl, _, DGet.t e2 et', _, rfl, p, _, rfl, hJ2, by omega, fun H3 r k3 hJ3 r1 r2 => ?_⟩
      have ntp : t ≠ p := by
        intro z
        obtain ⟨_, _, _, hp, _⟩ := hJ2
        rw [z, hp] at et
        cases et
      have e3 := k3 _ _ nfp e2
      have et3 := k3 _ _ ntp et'
      refine ⟨v0, r, ev0, rfl, _, rfl, _, rfl, fo, _, rfl, DPut.t e3 et3 (small1000 (by have := hk.len; omega)), ?_⟩
      refine ⟨((k1.trans k2).trans k3).mut nfo, (hJ3.far nfp).mono (by omega), ⟨_, upd_same, ?_⟩, _, _, rfl⟩
      refine kvOk_put hk pos26 hPat (by omega) ?_
      rw [Int.mul_add]
      omega
    · rintro σ H1 ⟨k1, hJ1, ⟨kvs, e1, hk⟩, y, z, rfl⟩
      rw [show ((m.toNat : Nat) : Int) = m by omega] at hJ1
      refine ⟨fo, .dT kvs, e1, trivial, fun od => ⟨_, rfl, fo, od, rfl, .inr ⟨kvs, upd_same, fun D nD => ?_⟩⟩⟩
      have nD' : H1 D = none := by
        by_cases z : D = fo
        · rw [z, upd_same] at nD
          cases nD
        · rw [upd_ne z] at nD
          exact nD
      have nDf : D ≠ fo := fun z => by
        rw [z, upd_same] at nD
        cases nD
      have nDp : D ≠ p := hJ1.ne nD'
      refine lc_it walk_keysT (fun i H2 => H2 fo = some (.frz od (.dT kvs)) ∧ Same (upd H1 fo (.frz od (.dT kvs))) H2 ∧ ∃ xs, H2 D = some (.lst xs) ∧ Paired (FmAt H2) xs ((famOf kvs).take i)) ?_ ?_ ?_ ?_
      · exact ⟨same_new nD _ _ upd_same, same_new nD, [], upd_same, .nil⟩
      · rintro i H2 _ ⟨h, _⟩
        exact h
      · rintro i x H2 H2' hi ⟨hf, s2, xs, eD, hP⟩ ⟨rfl, ky, v, q1, ek, rfl, hq⟩
        obtain ⟨ds, mm, rfl, rfl, ef⟩ := famOf_at hk ek
        have lx : xs.length = i := by
          rw [paired_len hP, List.length_take, (famOf_all hk).2.2]
          omega
        refine ⟨rfl, yes_if ⟨_, rfl, _, rfl, _, rfl, fo, _, rfl, .inr ⟨kvs, _, q1, .inr ⟨od, hf⟩, rfl, hq, (valV_at hk.nd ek).symm⟩, by show 2 ≤ sizeLine; decide, fun T nT => ?_⟩⟩
        have nTD : D ≠ T := ne_of_none eD nT
        have tq : H2' q1 = some (.tup (ds.map V.int)) := by
          rw [hq, List.map_map]
          rfl
        refine ⟨xs, by rw [upd_ne nTD]; exact eD, by rw [lx]; exact small1000 (by have := hk.len; omega), ?_, ?_, ?_⟩
        · rw [upd_ne nDf.symm, upd_ne (ne_of_none hf nT)]
          exact hf
        · intro b o e
          rw [upd_ne (ne_of_none e nD), upd_ne (ne_of_none (s2 _ _ e) nT)]
          exact s2 _ _ e
        · refine ⟨xs ++ [.ref T], upd_same, ?_⟩
          have kt : ∀ b us, H2' b = some (.tup us) → upd (upd H2' T (.tup [.ref q1, .int mm])) D (.lst (xs ++ [.ref T])) b = some (.tup us) := fun b us e => by
            rw [upd_ne (ne_of e eD (fun z => by cases z)), upd_ne (ne_of_none e nT)]
            exact e
          rw [List.take_add_one, ef]
          refine paired_snoc (L2.Paired.mapP hP fun _ _ z => z.keep kt) ⟨T, q1, rfl, ?_, kt _ _ tq⟩
          rw [upd_ne nTD.symm, upd_same]
      · rintro H2 ⟨hf, s2, xs, eD, hP⟩
        rw [List.take_of_length_le (by rw [(famOf_all hk).2.2]; exact Nat.le_refl _)] at hP
        have s3 : Kp p H (upd H2 fo (.dT kvs)) := by
          intro b o nb e
          have nf : b ≠ fo := ne_of_none e nfo
          rw [upd_ne nf]
          exact s2 _ _ (by rw [upd_ne nf]; exact k1 _ _ nb e)
        have hJ2 : JarAt (upd H2 fo (.dT kvs)) p (B + 50 * m) := by
          obtain ⟨x1, x2, x3, hp, r⟩ := hJ1
          refine ⟨x1, x2, x3, ?_, r⟩
          rw [upd_ne nfp.symm]
          exact s2 _ _ (by rw [upd_ne nfp.symm]; exact hp)
        have eD2 : upd H2 fo (.dT kvs) D = some (.lst xs) := by
          rw [upd_ne nDf]
          exact eD
        have hP2 : Paired (FmAt (upd H2 fo (.dT kvs))) xs (famOf kvs) := L2.Paired.mapP hP fun _ _ z => z.keep fun b us e => by
          rw [upd_ne (ne_of e hf (fun z => by cases z))]
          exact e
        refine ⟨hf, ?_⟩
        generalize upd H2 fo (.dT kvs) = H3 at s3 hJ2 eD2 hP2 ⊢
        obtain ⟨key, ekey, hkey⟩ := fm_key hP2
        refine ⟨D, xs, key, rfl, .inl (.inl eD2), fun x hx => ?_, fun ys r hs hp nr => ?_⟩
        · obtain ⟨t, b, e, h1, h2⟩ := hkey x hx
          exact ⟨t, b, e, h1, h2⟩
        obtain ⟨g1, g2, g3⟩ := fam_of_sorted hk ekey hkey hs hp
        have nrp := hJ2.ne nr
        refine q _ r (ys.map key) (s3.trans (kp_new nr)) (s3.free nrp nr) ⟨ys, upd_same, L2.Paired.mapP g1 fun _ _ z => z.keep fun b us e => by rw [upd_ne (ne_of_none e nr)]; exact e⟩ ?_ ?_ (hJ2.far nrp)
        · rw [show ((m.toNat : Nat) : Int) = m by omega] at g2
          exact g2
        · omega
end
end K21

/-! sheets: the numbers of a family, how the law reckons them; rows in a heap -/
namespace Fa
open PySem PySem.Spec PyProof.Rows L2
/-! ### who came on the days b to e -/
def hits (p : List Int) (b e : Int) : Bool := p.any fun d => decide (b ≤ d) && decide (d ≤ e)
def unl (fam : Fm) (b e : Int) : Int := (fam.map fun p => if hits p.1 b e then p.2 else 0).sum
def shRow (fam : Fm) (d w : Nat) : List Int := (List.range (min (d + 1) w)).map fun (k : Nat) => unl fam ((d : Int) - (k : Int)) (d : Int)
def shOf (fam : Fm) (n w : Nat) : List (List Int) := (List.range n).map fun d => shRow fam d w
theorem unl_cons (p : List Int × Int) (fam : Fm) (b e : Int) : unl (p :: fam) b e = (if hits p.1 b e then p.2 else 0) + unl fam b e := by
  unfold unl
  rw [List.map_cons, List.sum_cons]
theorem unl_append (f g : Fm) (b e : Int) : unl (f ++ g) b e = unl f b e + unl g b e := by
  unfold unl
  rw [List.map_append, List.sum_append]
theorem unl_nonneg {fam : Fm} (h : ∀ p ∈ fam, 0 ≤ p.2) (b e : Int) : 0 ≤ unl fam b e := by
  induction fam with
  | nil => exact Int.le_refl _
  | cons p fam ih =>
    rw [unl_cons]
    have := ih fun q hq => h q (List.mem_cons_of_mem _ hq)
    have := h p List.mem_cons_self
    split <;> omega
theorem unl_le {fam : Fm} {c : Int} (h : ∀ p ∈ fam, 0 ≤ p.2 ∧ p.2 ≤ c) (b e : Int) : unl fam b e ≤ c * (fam.length : Int) := by
  induction fam with
  | nil =>
    show (0 : Int) ≤ c * ((0 : Nat) : Int)
    rw [Int.natCast_zero, Int.mul_zero]
    exact Int.le_refl _
  | cons p fam ih =>
    rw [unl_cons, List.length_cons, Int.natCast_add, Int.mul_add]
    have := ih fun q hq => h q (List.mem_cons_of_mem _ hq)
    have := h p List.mem_cons_self
    have e1 : c * ((1 : Nat) : Int) = c := Int.mul_one c
    rw [e1]
    split <;> omega
/-! ### the law's reckoning: numbers at (row, back) -/
abbrev Cells : Type := Nat → Nat → Int
/-- one stretch of a pattern: from day d on, until the next one -/
def add1 (g : Cells) (m d d' : Int) : Cells := fun s k => if d ≤ (s : Int) ∧ (s : Int) < d' ∧ (s : Int) - (k : Int) = d then g s k + m else g s k
def prs (p : List Int) (n : Int) : List (Int × Int) := p.zip (p.tail ++ [n])
def addP (g : Cells) (m : Int) (l : List (Int × Int)) : Cells := l.foldl (fun g q => add1 g m q.1 q.2) g
def addF (n : Int) (fam : Fm) : Cells := fam.foldl (fun g p => addP g p.2 (prs p.1 n)) fun _ _ => 0
/-- whose last day up to s is s - k -/
def lastAt (p : List Int) (s k : Nat) : Bool := p.any (fun d => decide (d = (s : Int) - (k : Int))) && p.all fun d => decide (d ≤ (s : Int) → d ≤ (s : Int) - (k : Int))
theorem addP_val (n m : Int) : ∀ (p : List Int) (g : Cells) (s k : Nat), p.Pairwise (· < ·) → (∀ d ∈ p, d < n) → (s : Int) < n → addP g m (prs p n) s k = g s k + if lastAt p s k then m else 0
  | [], g, s, k, _, _, _ => by
    show g s k = g s k + if lastAt [] s k then m else 0
    rw [show lastAt [] s k = false from rfl]
    simp
  | d :: p, g, s, k, ha, hb, hs => by
    obtain ⟨h1, h2⟩ := List.pairwise_cons.mp ha
    have hb' : ∀ e ∈ p, e < n := fun e he => hb e (List.mem_cons_of_mem _ he)
    -- the next day behind d
    obtain ⟨d', hd', e1, lo, hi⟩ : ∃ d', prs (d :: p) n = (d, d') :: prs p n ∧ d < d' ∧ (∀ e ∈ p, d' ≤ e) ∧ (d' = n ∧ p = [] ∨ d' ∈ p) := by
      cases p with
      | nil => exact ⟨n, rfl, hb d List.mem_cons_self, fun e he => (nomatch he), .inl ⟨rfl, rfl⟩⟩
      | cons e p =>
        refine ⟨e, rfl, h1 e List.mem_cons_self, fun x hx => ?_, .inr List.mem_cons_self⟩
        rcases List.mem_cons.mp hx with rfl | hx
        · exact Int.le_refl _
        · exact Int.le_of_lt ((List.pairwise_cons.mp h2).1 x hx)
    rw [hd']
    show addP (add1 g m d d') m (prs p n) s k = _
    rw [addP_val n m p _ s k h2 hb' hs]
    unfold add1
    by_cases c : d ≤ (s : Int) ∧ (s : Int) < d' ∧ (s : Int) - (k : Int) = d
    · rw [if_pos c]
      have l0 : lastAt p s k = false := by
        unfold lastAt
        rw [Bool.and_eq_false_iff]
        left
        rw [List.any_eq_false]
        intro e he z
        have := of_decide_eq_true z
        have := h1 e he
        omega
      have l1 : lastAt (d :: p) s k = true := by
        unfold lastAt
        rw [Bool.and_eq_true_iff]
        refine ⟨List.any_eq_true.mpr ⟨d, List.mem_cons_self, decide_eq_true c.2.2.symm⟩, List.all_eq_true.mpr fun e he => decide_eq_true fun z => ?_⟩
        rcases List.mem_cons.mp he with rfl | he
        · omega
        · have := lo e he
          omega
      rw [l0, l1]
      simp
    · rw [if_neg c]
      have l1 : lastAt (d :: p) s k = lastAt p s k := by
        unfold lastAt
        rw [List.any_cons, List.all_cons]
        by_cases z : d = (s : Int) - (k : Int)
        · -- then a later day is up to s
          have hs' : d' ≤ (s : Int) := by omega
          have hm : d' ∈ p := by
            rcases hi with ⟨rfl, _⟩ | h
            · omega
            · exact h
          have no : (p.all fun d => decide (d ≤ (s : Int) → d ≤ (s : Int) - (k : Int))) = false := by
            rw [List.all_eq_false]
            refine ⟨d', hm, ?_⟩
            intro q
            have := of_decide_eq_true q hs'
            omega
          rw [no, Bool.and_false, Bool.and_false, Bool.and_false]
        · rw [decide_eq_false z, Bool.false_or]
          by_cases a : (p.any fun d => decide (d = (s : Int) - (k : Int))) = true
          · obtain ⟨e, he, q⟩ := List.any_eq_true.mp a
            have e2 := of_decide_eq_true q
            have := h1 e he
            rw [decide_eq_true (show d ≤ (s : Int) → d ≤ (s : Int) - (k : Int) from fun _ => by omega), Bool.true_and]
          · rw [Bool.eq_false_iff.mpr a, Bool.false_and, Bool.false_and]
      rw [l1]
def lst (fam : Fm) (s k : Nat) : Int := (fam.map fun p => if lastAt p.1 s k then p.2 else 0).sum
theorem addF_gen (n : Int) (s k : Nat) (hs : (s : Int) < n) : ∀ (fam : Fm) (g : Cells), (∀ p ∈ fam, Pat n p.1) → fam.foldl (fun g p => addP g p.2 (prs p.1 n)) g s k = g s k + lst fam s k
  | [], g, _ => by
    show g s k = g s k + 0
    omega
  | p :: fam, g, h => by
    have hp := h p List.mem_cons_self
    show fam.foldl _ (addP g p.2 (prs p.1 n)) s k = _
    rw [addF_gen n s k hs fam _ fun q hq => h q (List.mem_cons_of_mem _ hq), addP_val n p.2 p.1 g s k hp.asc (fun d hd => (hp.bd d hd).2) hs]
    show _ = g s k + ((p :: fam).map fun p => if lastAt p.1 s k then p.2 else 0).sum
    rw [List.map_cons, List.sum_cons]
    show g s k + (if lastAt p.1 s k then p.2 else 0) + lst fam s k = _
    unfold lst
    omega
theorem addF_val {n : Int} {fam : Fm} (h : ∀ p ∈ fam, Pat n p.1) {s k : Nat} (hs : (s : Int) < n) : addF n fam s k = lst fam s k := by
  unfold addF
  rw [addF_gen n s k hs fam _ h]
  omega
/-- sums of the first ones -/
def pre (g : Cells) (s : Nat) : Nat → Int
  | 0 => g s 0
  | k + 1 => pre g s k + g s (k + 1)
theorem hits_step {p : List Int} (ha : p.Pairwise (· < ·)) (s k : Nat) : (if hits p ((s : Int) - ((k + 1 : Nat) : Int)) s then (1 : Int) else 0) = (if hits p ((s : Int) - (k : Int)) s then 1 else 0) + if lastAt p s (k + 1) then 1 else 0 := by
  by_cases h : hits p ((s : Int) - (k : Int)) s = true
  · obtain ⟨d, hd, e⟩ := List.any_eq_true.mp h
    obtain ⟨e1, e2⟩ := He.ba e
    have e1 := of_decide_eq_true e1
    have e2 := of_decide_eq_true e2
    have h2 : hits p ((s : Int) - ((k + 1 : Nat) : Int)) s = true := List.any_eq_true.mpr ⟨d, hd, Bool.and_eq_true_iff.mpr ⟨decide_eq_true (by omega), decide_eq_true e2⟩⟩
    have h3 : lastAt p s (k + 1) = false := by
      unfold lastAt
      rw [Bool.and_eq_false_iff]
      right
      rw [List.all_eq_false]
      refine ⟨d, hd, fun q => ?_⟩
      have := of_decide_eq_true q e2
      omega
    rw [h, h2, h3]
    rfl
  · have h0 := Bool.eq_false_iff.mpr h
    have no : ∀ d ∈ p, d ≤ (s : Int) → d < (s : Int) - (k : Int) := fun d hd hs => by
      refine Int.not_le.mp fun z => h (List.any_eq_true.mpr ⟨d, hd, Bool.and_eq_true_iff.mpr ⟨decide_eq_true z, decide_eq_true hs⟩⟩)
    have eqv : hits p ((s : Int) - ((k + 1 : Nat) : Int)) s = lastAt p s (k + 1) := by
      rw [Bool.eq_iff_iff]
      constructor
      · intro q
        obtain ⟨d, hd, e⟩ := List.any_eq_true.mp q
        obtain ⟨e1, e2⟩ := He.ba e
        have e1 := of_decide_eq_true e1
        have e2 := of_decide_eq_true e2
        have := no d hd e2
        refine Bool.and_eq_true_iff.mpr ⟨List.any_eq_true.mpr ⟨d, hd, decide_eq_true (by omega)⟩, List.all_eq_true.mpr fun x hx => decide_eq_true fun z => ?_⟩
        have := no x hx z
        omega
      · intro q
        obtain ⟨q1, _⟩ := He.ba q
        obtain ⟨d, hd, e⟩ := List.any_eq_true.mp q1
        have e := of_decide_eq_true e
        exact List.any_eq_true.mpr ⟨d, hd, Bool.and_eq_true_iff.mpr ⟨decide_eq_true (by omega), decide_eq_true (by omega)⟩⟩
    rw [h0, eqv]
    simp
theorem hits_zero {p : List Int} (s : Nat) : hits p ((s : Int) - ((0 : Nat) : Int)) s = lastAt p s 0 := by
  rw [Bool.eq_iff_iff]
  constructor
  · intro q
    obtain ⟨d, hd, e⟩ := List.any_eq_true.mp q
    obtain ⟨e1, e2⟩ := He.ba e
    have e1 := of_decide_eq_true e1
    have e2 := of_decide_eq_true e2
    exact Bool.and_eq_true_iff.mpr ⟨List.any_eq_true.mpr ⟨d, hd, decide_eq_true (by omega)⟩, List.all_eq_true.mpr fun x hx => decide_eq_true fun z => by omega⟩
  · intro q
    obtain ⟨q1, _⟩ := He.ba q
    obtain ⟨d, hd, e⟩ := List.any_eq_true.mp q1
    have e := of_decide_eq_true e
    exact List.any_eq_true.mpr ⟨d, hd, Bool.and_eq_true_iff.mpr ⟨decide_eq_true (by omega), decide_eq_true (by omega)⟩⟩
theorem ite_mul (b : Bool) (m : Int) : (if b then m else 0) = (if b then (1 : Int) else 0) * m := by
  cases b with
  | true =>
    show m = 1 * m
    omega
  | false =>
    show 0 = 0 * m
    omega
theorem pre_lst (s : Nat) : ∀ (k : Nat) (fam : Fm), (∀ p ∈ fam, p.1.Pairwise (· < ·)) → pre (lst fam) s k = unl fam ((s : Int) - (k : Int)) s
  | 0, fam, h => by
    show lst fam s 0 = _
    unfold lst unl
    congr 1
    refine List.map_congr_left fun p _ => ?_
    rw [hits_zero]
  | k + 1, fam, h => by
    show pre (lst fam) s k + lst fam s (k + 1) = _
    rw [pre_lst s k fam h]
    unfold lst unl
    induction fam with
    | nil => rfl
    | cons p fam ih =>
      simp only [List.map_cons, List.sum_cons]
      have ih' := ih fun q hq => h q (List.mem_cons_of_mem _ hq)
      have st := hits_step (h p List.mem_cons_self) s k
      rw [ite_mul (hits p.1 ((s : Int) - (k : Int)) s), ite_mul (lastAt p.1 s (k + 1)), ite_mul (hits p.1 ((s : Int) - ((k + 1 : Nat) : Int)) s), st, Int.add_mul]
      omega
/-- the law's reckoning gives the sheet's numbers -/
theorem law_cells {n : Int} {fam : Fm} (h : ∀ p ∈ fam, Pat n p.1) {s k : Nat} (hs : (s : Int) < n) : pre (addF n fam) s k = unl fam ((s : Int) - (k : Int)) s := by
  rw [← pre_lst s k fam fun p hp => (h p hp).asc]
  induction k with
  | zero => exact addF_val h hs
  | succ k ih =>
    show pre (addF n fam) s k + addF n fam s (k + 1) = pre (lst fam) s k + lst fam s (k + 1)
    rw [ih, addF_val h hs]
end Fa

/-! defs that are called where no object is being shown: repr can stand in them -/
namespace Fa
open PySem PySem.Spec PyProof.Rows L2
/-- nothing is being shown around -/
def Nog (A : Around) : Prop := A.guards = some []
theorem Nog.deeper {A : Around} (g : Nog A) (env : Env) : Nog (A.deeper env) := g
structure FnG (P : Program) (w : World) (K : PySem.W.Frag) (mg : Str → Option Value) (base : Heap) (k : Nat)
    (f : Addr) (fd : FuncData) (ps : List Str) (sp : Sp) : Prop where
  size : ∀ xs M R W, sp xs M R W → xs.length = ps.length
  runs : ∀ (A : Around) (out : List Env) (st : Shared) (M : Hp) (ar : Args) (us : List Value) (xs : List V) (R : VK) (W : XK),
    Room k A → Nog A → Env0 P w K mg base A out st M → BindsTo st fd ar (ps.zip us) → Vals xs us → sp xs M R W →
    codeAny (model P w) A (.call (.ref f) ar) (CR CX0 out P w M st R W) st
theorem FnG.of {P : Program} {w : World} {K : PySem.W.Frag} {mg : Str → Option Value} {base : Heap} {k : Nat} {f : Addr} {fd : FuncData} {ps : List Str} {sp : Sp}
    (F : FnOk P w K mg base CX0 k f fd ps sp) : FnG P w K mg base k f fd ps sp :=
  ⟨F.len, fun A out st M ar us xs R W hr _ e b v q => F.run A out st M ar us xs R W hr e b v q⟩
theorem FnG.mono {P : Program} {w : World} {K : PySem.W.Frag} {mg : Str → Option Value} {base : Heap} {j k : Nat} {f : Addr} {fd : FuncData} {ps : List Str} {sp : Sp}
    (F : FnG P w K mg base j f fd ps sp) (h : j ≤ k) : FnG P w K mg base k f fd ps sp :=
  ⟨F.size, fun A out st M ar us xs R W hr => F.runs A out st M ar us xs R W (hr.mono h)⟩
section
variable {P : Program} {w : World} {K : PySem.W.Frag} {mg : Str → Option Value} {base : Heap}
/-- a def by its body, where nothing is being shown -/
theorem funG {x qual : Str} {st : Stmt} {f : Addr} {fd : FuncData} {N ps : List Str} {k : Nat} {sp : Sp} (F : Fun K x qual st f fd)
    (S : FnScope N ps (defScope st)) (size : ∀ xs M R W, sp xs M R W → xs.length = ps.length)
    (body : ∀ (cdv : Value) (A : Around) (outer : List Env) (s : Shared) (H : Hp) (vs : List V) (Q : VK) (E : XK),
      Room k (A.deeper (envOfC qual (defScope st) s.heap.objs.size f cdv)) → Nog (A.deeper (envOfC qual (defScope st) s.heap.objs.size f cdv)) → sp vs H Q E →
      ∃ t, PSs (cxOf CX0 P w K mg base N qual (defScope st) f cdv A outer s H E).nox (defBody st) t ∧
        t { nx := fun _ H' => Q .non H', rt := Q } (start N vs) H) : FnG P w K mg base (k + 1) f fd ps sp := by
  obtain ⟨oc, od, kV, doc, pm, an, cdv, ct, osl, rfl, look, code⟩ := F.ex
  refine ⟨size, fun A out sh M ar us xs R W hr ng e b r q => ?_⟩
  have n1 := size _ _ _ _ q
  have kin : K.In sh.heap := e.mod.kin.keeps fun c o z => (e.bs c o z).1
  have free : sh.heap.NoLimit := e.mod.nolimit.keeps fun c o z => (e.bs c o z).1
  have kinds : ∀ y ∈ ps.zip us, (defScope st).names.lookup y.1 = some .local ∨
      ((defScope st).names.lookup y.1 = some .cell ∧ ((cellsFrom (sh.heap.objs.size + 1) (defScope st).names []).lookup y.1).isSome = true) := by
    rintro ⟨nm, u⟩ hy
    rcases S.par nm (List.of_mem_zip hy).1 with z | z
    · exact .inl z
    · exact .inr ⟨z, PySem.W.cellsFrom_some _ _ _ (.inl z)⟩
  have frame := kin _ _ look
  have rec' := PySem.W.codeRec_of kin code
  refine codeAny_call_function hr.depth frame rfl S.co S.gen rfl rec' (b _ _ _ _ ?_)
  refine wpAny_newFunctionEnv_cells S.kind kinds fun env he s1 inn => ?_
  subst he
  refine ⟨free.keeps inn.toInCall.keep, codeAny_func ?_⟩
  obtain ⟨t0, h0, q0⟩ := body cdv A out sh M xs R W (hr.deeper _) (ng.deeper _) q
  have t1 := h0.nox
  have J0 := inv_start (CX := CX0) (E := W) (cd := cdv) (f := f) S hr.hd e n1 r inn
  refine wpAny_mono (t1.run [] s1 (start N xs) M _ J0 q0) (fun fl s2 z => ?_) fun _ _ z => z
  cases fl with
  | ret u =>
    obtain ⟨v, σ2, M2, J, rv, q2⟩ := z
    exact ⟨v, M2, J.os, J.bare, J.base, J.hok, rv, q2⟩
  | next =>
    obtain ⟨σ2, M2, J, q2⟩ := z
    exact ⟨.non, M2, J.os, J.bare, J.base, J.hok, rfl, q2⟩
  | brk =>
    obtain ⟨_, _, _, z2⟩ := z
    cases z2
  | cont =>
    obtain ⟨_, _, _, z2⟩ := z
    cases z2
end
section
variable {X : Cx} {k n : Nat} {f : Addr} {fd : FuncData} {ps ks : List Str} {sp : Sp} {x : Str} {p pos : Pos} {e : Expr} {es : List Expr} {kws : List Keyword} {t tk : TA} {g : List Value → List Value → List Value} {gV : List V → List V → List V}
theorem runG {pins : List (Addr × Obj)} {σ : L2.St} {H : Hp} {s : Shared} {Q : VK} {ar : Args} {us : List Value} {vs : List V} (F : FnG X.prog X.w X.K X.mg X.base k f fd ps sp)
    (hr : Room k X.A) (ng : Nog X.A) (I : Inv X pins σ H s) (b : BindsTo s fd ar (ps.zip us)) (r : Vals vs us) (h : sp vs H Q E0) :
    codeAny (model X.prog X.w) X.A (.call (.ref f) ar) (fun r s' => match r with | .ok (.ret u) => EP X pins σ Q u s' | _ => False) s := by
  refine codeAny_mono (F.runs X.A X.stack s H ar us vs Q E0 hr ng I.env0 b r h) fun z s2 hz => ?_
  match z, hz with
  | .error _, hz => exact hz
  | .ok (.ret _), hz => exact I.after hz
  | .ok .next, hz => exact hz
  | .ok .brk, hz => exact hz
  | .ok .cont, hz => exact hz
theorem runG' {pins : List (Addr × Obj)} {σ : L2.St} {H : Hp} {s : Shared} {Q : VK} {us ws zz : List Value} {nms : List Str} {vs : List V} (F : FnG X.prog X.w X.K X.mg X.base k f fd ps sp)
    (hr : Room k X.A) (ng : Nog X.A) (I : Inv X pins σ H s) (b : BindsTo s fd ⟨us, nms.zip ws⟩ (ps.zip zz)) (r : Vals vs zz) (h : sp vs H Q E0) :
    wpAny (model X.prog X.w) X.A (call (.ref f) us (nms.zip ws)) (EP X pins σ Q) X.xe s := by
  refine wpAny_call (codeAny_mono (runG F hr ng I b r h) fun z s2 hz => ?_)
  match z, hz with
  | .error _, hz => exact False.elim hz
  | .ok (.ret _), hz => exact hz
  | .ok .next, hz => exact False.elim hz
  | .ok .brk, hz => exact False.elim hz
  | .ok .cont, hz => exact False.elim hz
/-- f(e, ..) -/
theorem pe_callG (F : FnG X.prog X.w X.K X.mg X.base k f fd ps sp) (hr : Room k X.A) (ng : Nog X.A) (hg : Gl X x) (hm : X.mg x = some (.ref f)) (hk : PySem.W.keepIn X.K (.ref f) = true)
    (hb : Binds X.K fd ps []) (ha : PA X (e :: es) t) (hdb : (x == ("__debug__" : Str)) = false := by decide)
    (he : starEach (e :: es) X.env = (false, eval e X.env) :: starEach es X.env := by rfl) (hpl : (backTo pos (starEach es X.env)).any (·.1) = false := by rfl) :
    PE X (.Call (.Name x p) (e :: es) [] pos) (tCall sp [] E0 t) := by
  refine ⟨fun pins s σ H Q I h => wpAny_Call_Name_kw (ld_glob I hg hm ?_ hdb)⟩
  refine PySem.W.callWith_K (h₀ := X.base) I.ok.mod.kin hk ?_ he hpl
  refine thn (ha.run pos pins s σ H _ I h) ?_
  rintro us s1 ⟨vs, H1, I1, r, q⟩
  refine ⟨I1.kIn, ?_⟩
  rw [List.append_nil] at q
  have l1 : us.length = ps.length := r.length.symm.trans (F.size _ _ _ _ q)
  have b1 := hb s1 us I1.kIn (by rw [List.append_nil]; exact l1)
  rw [List.append_nil] at b1
  exact runG' (ws := []) (nms := []) F hr ng I1 b1 r q
/-- f(k = v, ..) -/
def tCallKW (sp : Sp) (m : Nat) (gV : List V → List V → List V) (tk : TA) : TE := fun σ H Q => tk σ H fun zs H2 => zs.length = m ∧ sp (gV [] zs) H2 Q E0
theorem pe_callGK (F : FnG X.prog X.w X.K X.mg X.base k f fd ps sp) (hr : Room k X.A) (ng : Nog X.A) (hg : Gl X x) (hm : X.mg x = some (.ref f)) (hk : PySem.W.keepIn X.K (.ref f) = true)
    (hb : KBn X.K fd ps 0 ks g gV) (hkw : PK X kws tk) (hall : (backToKw pos (keywordEach kws X.env)).all (·.1.isSome) = true := by rfl)
    (hks : (backToKw pos (keywordEach kws X.env)).filterMap (·.1) = ks := by rfl) (hdb : (x == ("__debug__" : Str)) = false := by decide)
    (hpl : ((backTo pos (starEach [] X.env)).any (·.1) || (backToKw pos (keywordEach kws X.env)).any (·.1.isNone)) = false := by rfl) :
    PE X (.Call (.Name x p) [] kws pos) (tCallKW sp ks.length gV tk) := by
  refine ⟨fun pins s σ H Q I h => wpAny_Call_Name_kw (ld_glob I hg hm ?_ hdb)⟩
  refine PySem.W.callWith_KW0 (h₀ := X.base) I.ok.mod.kin hk hall ?_ hpl
  refine thn (hkw.run pos pins s σ H _ I h) ?_
  rintro ws s2 ⟨zs, H2, I2, rz, l2, q2⟩
  refine ⟨I2.kIn, ?_⟩
  rw [hks]
  exact runG' (us := []) F hr ng I2 (hb.to s2 [] ws I2.kIn rfl (rz.length.symm.trans l2)) (hb.rel .nil rz) q2
end
end Fa

/-! a law whose defs show objects: its end -/
namespace Fa
open PySem PySem.Spec PyProof.Rows L2
section
variable {P : Program} {w : World} {K : PySem.W.Frag} {mg mb : Str → Option Value} {k : Nat} {fa a : Addr} {fd : FuncData} {x : Str} {sp : Sp} {st : Shared} {vs : List Value} {ns : List Int}
/-- what the law's call must give -/
def Well (st : Shared) (r : Result) (s2 : Shared) : Prop := r = .ok (.ret (.bool true)) ∧ OldK st.heap s2.heap ∧ s2.os = st.os ∧ AllBare s2.gens
theorem law_runG {M : Hp} (kin : K.In st.heap) (main : st.heap.Ns mainGlobals mg) (hb : st.heap.Ns builtinsNs mb)
    (boot : ∀ y : Str, y ≠ "__name__" → mb y = bootBuiltins y) (free : st.heap.NoLimit) (gens : st.gens = #[])
    (at' : st.heap.get? a = some { cls := .type "list", data := .seq vs.toArray }) (room : Room k callerA)
    (F : ∀ base : Heap, K.In base → base.Ns mainGlobals mg → FnG P w K mg base k fa fd [x] sp)
    (bnd : ∀ (s : Shared) (u : Value), BindsTo s fd ⟨[u], []⟩ [(x, u)]) (only : Only M) (q : sp [.ref a] M (fun v _ => v = .bl true) E0)
    (hok : HOk P w M st.heap) (one : ∀ b, M b ≠ none → b = a) (notK : M a ≠ none → K.lookup a = none) :
    codeAny (model P w) callerA (.call (.ref fa) ⟨[.ref a], []⟩) (Well st) st := by
  have plain : ∀ {b : Addr} {o : Obj}, st.heap.get? b = some o → (∀ es ep, o.data = .dict es ep → M b = none) := fun {b o} e es ep d => by
    cases c : M b with
    | none => rfl
    | some u =>
      cases one b (by rw [c]; exact Option.some_ne_none _)
      rw [at'] at e
      cases e
      exact absurd d (by intro z; cases z)
  have toN : ∀ {b : Addr} {m : Str → Option Value}, st.heap.Ns b m → (hidT st.heap M).Ns b m := by
    rintro b m ⟨o, es, ep, e, d, r⟩
    exact ⟨o, es, ep, hidT_get e (plain e es ep d), d, r⟩
  have kin2 : K.In (hidT st.heap M) := fun b o e => by
    refine hidT_get (kin b o e) ?_
    cases c : M b with
    | none => rfl
    | some u =>
      cases one b (by rw [c]; exact Option.some_ne_none _)
      rw [notK (by rw [c]; exact Option.some_ne_none _)] at e
      cases e
  obtain ⟨mc, f1, f2⟩ := free
  have md : Mod K mg (hidT st.heap M) := ⟨kin2, toN main, ⟨mb, toN hb, boot⟩, ⟨mc, toN f1, f2⟩⟩
  have env : Env0 P w K mg (hidT st.heap M) callerA [] st M :=
    ⟨rfl, md, fun b o e => of_hidT e, Nat.le_of_eq (hidT_size _ _), trivial, fun b z => (List.not_mem_nil z).elim, hok, .of_eq gens⟩
  have go := (F _ kin2 (toN main)).runs callerA [] st M ⟨[.ref a], []⟩ [.ref a] [.ref a] _ _ room rfl env (bnd st (.ref a)) (.cons rfl .nil) q
  refine codeAny_mono go fun r s2 z => ?_
  match r, z with
  | .error _, z => exact z.elim
  | .ok .next, z => exact z.elim
  | .ok .brk, z => exact z.elim
  | .ok .cont, z => exact z.elim
  | .ok (.ret u), ⟨v, M2, os, bare, un, hok2, rv, eq⟩ =>
    cases (show v = .bl true from eq)
    cases (show u = Value.bool true from rv)
    refine ⟨rfl, OldK.of_keep fun b o e => ?_, os, bare⟩
    cases c : M b with
    | none => exact un.keep b o e c (fun z => (List.not_mem_nil z).elim) (by simp)
    | some u =>
      rcases only b with z | ⟨ob, xs, z⟩
      · rw [z] at c
        cases c
      · have old := (hok b _ z).1
        have new := (hok2 b _ (un.frzs b ob _ z)).1
        rw [e] at old
        cases old
        exact new
theorem law_callG (kin : K.In st.heap) (main : st.heap.Ns mainGlobals mg) (hb : st.heap.Ns builtinsNs mb) (boot : ∀ y : Str, y ≠ "__name__" → mb y = bootBuiltins y)
    (free : st.heap.NoLimit) (gens : st.gens = #[]) (at' : st.heap.get? a = some { cls := .type "list", data := .seq vs.toArray }) (isI : IntsAre vs ns) (size : ns.length ≤ sizeLine)
    (room : Room k callerA) (F : ∀ base : Heap, K.In base → base.Ns mainGlobals mg → FnG P w K mg base k fa fd [x] sp)
    (bnd : ∀ (s : Shared) (u : Value), BindsTo s fd ⟨[u], []⟩ [(x, u)])
    (q : ∀ M : Hp, Only M → SqL K M a (ns.map V.int) → sp [.ref a] M (fun v _ => v = .bl true) E0) :
    codeAny (model P w) callerA (.call (.ref fa) ⟨[.ref a], []⟩) (Well st) st := by
  have rel := vals_ints isI
  by_cases c : ∃ o, K.lookup a = some o
  · obtain ⟨o, c⟩ := c
    have e := kin a o c
    rw [at'] at e
    cases e
    have sq : SqL K (fun _ => none) a (ns.map V.int) :=
      .inr ⟨_, vs.toArray, _, c, rfl, rfl, rfl, by rw [List.size_toArray, isI.length]; exact size, by simpa using rel⟩
    exact law_runG (M := fun _ => none) kin main hb boot free gens at' room F bnd (fun _ => .inl rfl) (q _ (fun _ => .inl rfl) sq)
      (fun b u z => nomatch z) (fun b z => absurd rfl z) fun z => absurd rfl z
  · have noK : K.lookup a = none := by
      cases d : K.lookup a with
      | none => rfl
      | some o => exact absurd ⟨o, d⟩ c
    let ob : Obj := { cls := .type "list", data := .seq vs.toArray }
    let M : Hp := fun b => if b = a then some (.frz ob (.lst (ns.map V.int))) else none
    have Ma : M a = some (.frz ob (.lst (ns.map V.int))) := if_pos rfl
    have Mb : ∀ b, b ≠ a → M b = none := fun b z => if_neg z
    have only : Only M := fun b => by
      by_cases z : b = a
      · subst z
        exact .inr ⟨_, _, Ma⟩
      · exact .inl (Mb b z)
    refine law_runG (M := M) kin main hb boot free gens at' room F bnd only (q M only (.inl (.inr ⟨ob, Ma⟩))) (fun b u z => ?_) (fun b z => ?_) fun _ => noK
    · by_cases y : b = a
      · subst y
        rw [Ma] at z
        cases z
        exact ⟨at', by rw [List.length_map]; exact size, vs, _, rel, at'⟩
      · rw [Mb b y] at z
        cases z
    · by_cases y : b = a
      · exact y
      · exact absurd (Mb b y) z
end
theorem walkG {l : PySem.W.OpenLaw} {n k : Nat} {q : Program} {loose : List Str} {XP : (Str → Option Value) → Heap → Prop} {YP : World → Heap → Prop} {d : DefRec} {x : Str}
    (most : l.most = some n) (small : n ≤ sizeLine) (plain : d.params.defaults = []) (room : Room k callerA)
    (F : ∀ (w : World) (mg : Str → Option Value) (fa : Addr) (h : Heap), YP w h → h.Ns mainGlobals mg → mg d.name = some (.ref fa) →
      ∃ (K : PySem.W.Frag) (fd : FuncData) (sp : Sp), K.In h ∧ (∀ (s : Shared) (u : Value), BindsTo s fd ⟨[u], []⟩ [(x, u)]) ∧
        (∀ (M : Hp) (a : Addr) (ns : List Int), ns.length ≤ n → Only M → SqL K M a (ns.map V.int) → sp [.ref a] M (fun v _ => v = .bl true) E0) ∧
        ∀ base : Heap, K.In base → base.Ns mainGlobals mg → FnG l.prog w K mg base k fa fd [x] sp) :
    PySem.W.WalkO q loose XP YP l.row.toRowW d [] (fun f vs => PySem.call f vs) := by
  refine Att.attach_call most plain ?_
  intro w s0 s1 mg mb fa o pm cd doc a vs ns G Y ho hd hcd hmg at0 isI len gens
  obtain ⟨K, fd, sp, kin, bnd, ask, go⟩ := F w mg fa _ Y G.T.g hmg
  exact law_callG kin G.T.g G.T.b G.T.builtins G.T.nolimit gens at0 isI (Nat.le_trans len small) room go bnd fun M h1 h2 => ask M a ns len h1 h2
end Fa

namespace Fa
open PySem PySem.Spec PyProof.Rows L2
section
variable (K : PySem.W.Frag) {X : Cx}
theorem tupIQ {tg l : Expr} {tl : TE} (hl : PE X l tl) (h : X.K = K := by rfl) : PI X tg l (iTup K tl) := h ▸ pi_tup hl
theorem slTA (h : X.K = K := by rfl) : SlR X (rSlA K) := h ▸ sl_tupA
theorem catTA (h : X.K = K := by rfl) : OpR X (binaryOp .Add) (rCatA K) := h ▸ op_catA
theorem reprQ (gd : Nog X.A) (hu : X.A.units + 66 < cLine) (h : X.K = K := by rfl) : CallR X (.builtin "repr") (rRepr K) := h ▸ call_repr gd hu
end
/-- a suite that is never reached -/
theorem pss_never {X : Cx} {b : List Stmt} : PSs X b (fun _ _ _ => False) := ⟨fun _ _ _ _ _ _ h => h.elim⟩
theorem asc_len : ∀ {l : List Int} {a n : Int}, l.Pairwise (· < ·) → (∀ d ∈ l, a ≤ d ∧ d < n) → (l.length : Int) ≤ max (n - a) 0
  | [], a, n, _, _ => by
    show ((0 : Nat) : Int) ≤ _
    omega
  | d :: l, a, n, h, b => by
    obtain ⟨h1, h2⟩ := List.pairwise_cons.mp h
    have := asc_len (a := d + 1) (n := n) h2 fun e he => ⟨by have := h1 e he; omega, (b e (List.mem_cons_of_mem _ he)).2⟩
    have := b d List.mem_cons_self
    rw [List.length_cons]
    omega
theorem Pat.len {n : Int} {ds : List Int} (h : Pat n ds) : (ds.length : Int) ≤ max n 0 := by
  have := asc_len (a := 0) h.asc h.bd
  omega
end Fa

namespace K21
open PySem PySem.Spec PyProof.Rows L2 Fa
abbrev s__law_unlike : Stmt := topS 59
abbrev N__law_unlike : List Str := ["some", "begin", "end", "found", "one", "number_here", "spot"]
theorem sc__law_unlike : FnScope N__law_unlike ["some", "begin", "end"] (defScope s__law_unlike) := ⟨rfl, rfl, rfl, by decide +kernel, rfl, by decide +kernel, by decide +kernel⟩
section
variable {P : Program} {w : World} {K : PySem.W.Frag} {mg : Str → Option Value} {base : Heap}
def spUnl : Sp := fun vs H Q _ => ∃ (f : Addr) (fam : Fm) (b e : Int), vs = [.ref f, .int b, .int e] ∧ FamAt H f fam ∧ (∀ p ∈ fam, p.1.length ≤ 100) ∧ ∀ H', Same H H' → Q (.int (unl fam b e)) H'
theorem ok_unl {f : Addr} {fd : FuncData} {k : Nat} (F : Fun K "_law_unlike" "_law_unlike" s__law_unlike f fd) : FnOk P w K mg base CX0 (k + 1) f fd ["some", "begin", "end"] spUnl := by
  refine F.ok sc__law_unlike (fun vs H Q E h => ?_) (fun cdv A outer s H vs Q E hr h => ?_)
  · obtain ⟨f, fam, b, e, rfl, _⟩ := h
    rfl
  · obtain ⟨g, fam, b, e, rfl, ⟨xs, eg, hP⟩, hl, q⟩ := h
    refine ⟨_, (pss_cons (ps_set (i := 3) sc__law_unlike.nd rfl (by first | exact Or.inl rfl | exact Or.inr rfl) pe_int)
  (pss_cons (ps_for PassesOwn.never rfl (Fa.listQ K (pv 0)) (pg_tup rfl (pgs_cons (pg_name (i := 4) sc__law_unlike.nd rfl (by first | exact Or.inl rfl | exact Or.inr rfl)) (pgs_cons (pg_name (i := 5) sc__law_unlike.nd rfl (by first | exact Or.inl rfl | exact Or.inr rfl)) pgs_nil))) (pss_one (ps_if (pt_cmpR (Fa.neQ K hr.units) (pe_lc (own := [("spot", 6)]) (g := (gName 6)) rfl sc__law_unlike.nd (Fa.tupIQ K (pv 4)) (blkOk_by (N := N__law_unlike) (sc := defScope s__law_unlike) (by decide +kernel)) (fun _ _ _ _ _ => (pg_name (i := 6) sc__law_unlike.nd rfl (by first | exact Or.inl rfl | exact Or.inr rfl))) (fun _ _ _ _ _ => (pts_one (PW.pt (pw_and (pt_cmpR op_le (pv 1) (pv 6) (nomark _)) (pw_and1 (pt_cmpR op_le (pv 6) (pv 2) (nomark _))))))) (fun _ _ _ _ _ => (pv 6))) (pe_lst pa_nil) (nomark _)) (pss_one (ps_set (i := 3) sc__law_unlike.nd rfl (by first | exact Or.inl rfl | exact Or.inr rfl) (pe_op op_add (pv 3) (pv 5)))) pss_nil)))
  (pss_one (ps_ret (pv 3))))), ?_⟩
    refine ⟨_, rfl, g, rfl, ⟨xs, .inl (.inl eg)⟩, ?_⟩
    refine for_it (walk_list (xs := xs)) (fun i σ H' => Same H H' ∧ ∃ x y, σ = [some (.ref g), some (.int b), some (.int e), some (.int (unl (fam.take i) b e)), x, y, none]) ?_ ?_ ?_ ?_
    · exact ⟨fun _ _ z => z, none, none, rfl⟩
    · rintro i σ H1 _ ⟨s1, _⟩
      exact .inl (.inl (s1 _ _ eg))
    · rintro i v σ _ H1 hi ⟨s1, x, y, rfl⟩ ⟨rfl, ev⟩
      obtain ⟨pt, ep, t, bb, rfl, h1, h2⟩ := paired_at hP ev
      refine ⟨t, _, rfl, .inl (.inl (s1 _ _ h1)), rfl, ?_⟩
      have hm := List.mem_of_getElem? ep
      refine ⟨_, _, rfl, _, _, rfl, rfl, _, rfl, bb, rfl, ⟨_, .inl (.inl (s1 _ _ h2))⟩, fun D nD => ?_⟩
      refine lc_it (walk_tup (xs := pt.1.map V.int)) (fun j H2 => Same H1 H2 ∧ H2 D = some (.lst (((pt.1.take j).filter fun d => decide (b ≤ d) && decide (d ≤ e)).map V.int))) ?_ ?_ ?_ ?_
      · exact ⟨same_new nD, upd_same⟩
      · rintro j H2 _ ⟨s2, _⟩
        exact .inl (.inl (s2 _ _ (s1 _ _ h2)))
      · rintro j u _ H2 hj ⟨s2, eD⟩ ⟨rfl, eu⟩
        obtain ⟨d, ed, rfl⟩ := int_at eu
        have tk : ((pt.1.take (j + 1)).filter fun d => decide (b ≤ d) && decide (d ≤ e)) = ((pt.1.take j).filter fun d => decide (b ≤ d) && decide (d ≤ e)) ++ if decide (b ≤ d) && decide (d ≤ e) then [d] else [] := by
          rw [List.take_add_one, ed, List.filter_append]
          congr 1
          show List.filter _ [d] = _
          rw [List.filter_cons, List.filter_nil]
        refine ⟨rfl, _, rfl, _, rfl, _, _, rfl, rfl, _, rfl, ite2 (fun e1 => ⟨_, rfl, _, rfl, _, _, rfl, rfl, _, rfl, ite2 (fun e2 => ?_) fun e2 => ?_⟩) fun e1 => ?_⟩
        · refine ⟨_, rfl, _, eD, ?_, fun c o z => ?_, ?_⟩
          · rw [List.length_map]
            refine small1000 (Nat.le_trans (List.length_filter_le _ _) ?_)
            rw [List.length_take]
            have := hl _ hm
            omega
          · rw [upd_ne (ne_of_none z nD)]
            exact s2 _ _ z
          · rw [upd_same, tk, e1, e2, List.map_append]
            rfl
        · refine ⟨s2, ?_⟩
          rw [tk, Bool.eq_false_iff.mpr e2, Bool.and_false]
          simpa using eD
        · refine ⟨s2, ?_⟩
          rw [tk, Bool.eq_false_iff.mpr e1, Bool.false_and]
          simpa using eD
      · rintro H2 ⟨s2, eD⟩
        refine ⟨Nat.zero_le _, fun z nz => ?_⟩
        have nDz : D ≠ z := ne_of_none eD nz
        rw [List.take_of_length_le (by rw [List.length_map]; exact Nat.le_refl _)] at eD
        refine ⟨.list _, .list [], .lst (.inl (.inl (same_new nz _ _ eD))) (dp_ints _), .lst (.inl (.inl upd_same)) .nil, (shp_ints 0 _).shaped (by decide), rfl, _, rfl, ?_⟩
        have s3 : Same H (upd H2 z (.lst [])) := fun c o h => same_new nz _ _ (s2 _ _ (s1 _ _ h))
        have un : unl (fam.take (i + 1)) b e = unl (fam.take i) b e + if hits pt.1 b e then pt.2 else 0 := by
          rw [List.take_add_one, ep, unl_append]
          show _ + ((if hits pt.1 b e then pt.2 else 0) + 0) = _
          omega
        cases c : (pt.1.filter fun d => decide (b ≤ d) && decide (d ≤ e)) with
        | nil =>
          refine iteN0 rfl ⟨s3, some (.ref bb), some (.int pt.2), ?_⟩
          have nh : hits pt.1 b e = false := by
            unfold hits
            rw [List.any_eq_false]
            intro d hd
            exact List.filter_eq_nil_iff.mp c d hd
          rw [un, nh, if_neg Bool.false_ne_true, Int.add_zero]
          rfl
        | cons d0 ds =>
          have yh : hits pt.1 b e = true := by
            unfold hits
            rw [List.any_eq_true]
            have := List.mem_filter.mp (show d0 ∈ pt.1.filter fun d => decide (b ≤ d) && decide (d ≤ e) by rw [c]; exact List.mem_cons_self)
            exact ⟨d0, this.1, this.2⟩
          refine iteN1 rfl ⟨_, rfl, _, rfl, _, _, rfl, rfl, s3, some (.ref bb), some (.int pt.2), ?_⟩
          rw [un, yh, if_pos rfl]
          rfl
    · rintro σ H1 ⟨s1, x, y, rfl⟩
      refine ⟨_, rfl, ?_⟩
      rw [List.take_of_length_le (by rw [hP.length]; exact Nat.le_refl _)]
      exact q _ s1
end
end K21

/-! lists of lists of numbers in a heap -/
namespace Fa
open PySem PySem.Spec PyProof.Rows L2
theorem ixN_int {n : Nat} {i : Int} (h0 : 0 ≤ i) (h1 : i < n) : ixN n i = some i.toNat := by
  unfold ixN
  rw [if_pos h0, if_pos (by omega)]
theorem atI_int {α : Type} {xs : List α} {i : Int} {v : α} (h0 : 0 ≤ i) (h : xs[i.toNat]? = some v) : atI xs i = some v := by
  have := atI_nat h
  rwa [Int.toNat_of_nonneg h0] at this
theorem atI_neg1 {α : Type} {xs : List α} {v : α} (h : xs[xs.length - 1]? = some v) (h0 : xs ≠ []) : atI xs (-1) = some v := by
  obtain ⟨ys, y, rfl⟩ : ∃ ys y, xs = ys ++ [y] := ⟨xs.dropLast, xs.getLast h0, (List.dropLast_concat_getLast h0).symm⟩
  rw [atI_last]
  rw [List.length_append, List.length_singleton, Nat.add_sub_cancel, List.getElem?_append_right (Nat.le_refl _), Nat.sub_self] at h
  exact h
structure GridAt (H : Hp) (g : Addr) (rows : List Addr) (n : Nat) (f : Nat → List Int) : Prop where
  top : H g = some (.lst (rows.map V.ref))
  cnt : rows.length = n
  nd : rows.Nodup
  out : g ∉ rows
  row : ∀ s r, rows[s]? = some r → H r = some (.lst ((f s).map V.int))
section
variable {H H' : Hp} {g : Addr} {rows : List Addr} {n : Nat} {f : Nat → List Int}
theorem GridAt.keep (h : GridAt H g rows n f) (k : ∀ b xs, H b = some (.lst xs) → H' b = some (.lst xs)) : GridAt H' g rows n f :=
  ⟨k _ _ h.top, h.cnt, h.nd, h.out, fun s r e => k _ _ (h.row s r e)⟩
theorem GridAt.same (h : GridAt H g rows n f) (k : Same H H') : GridAt H' g rows n f := h.keep fun _ _ e => k _ _ e
/-- where only some places may have changed -/
theorem GridAt.but (h : GridAt H g rows n f) (k : ∀ b o, (b = g ∨ b ∈ rows) → H b = some o → H' b = some o) : GridAt H' g rows n f :=
  ⟨k _ _ (.inl rfl) h.top, h.cnt, h.nd, h.out, fun s r e => k _ _ (.inr (List.mem_of_getElem? e)) (h.row s r e)⟩
theorem GridAt.get (h : GridAt H g rows n f) {s : Nat} (hs : s < n) : ∃ r, rows[s]? = some r ∧ r ∈ rows ∧ H r = some (.lst ((f s).map V.int)) := by
  have : s < rows.length := by rw [h.cnt]; exact hs
  exact ⟨rows[s], List.getElem?_eq_getElem this, List.getElem_mem this, h.row s _ (List.getElem?_eq_getElem this)⟩
theorem GridAt.uniq (h : GridAt H g rows n f) {s t : Nat} {r : Addr} (hs : rows[s]? = some r) (ht : rows[t]? = some r) : s = t := by
  have a := (List.getElem?_eq_some_iff.mp hs).1
  exact (List.getElem?_inj a h.nd).mp (hs.trans ht.symm)
theorem GridAt.put (h : GridAt H g rows n f) {s : Nat} {r : Addr} {l : List Int} (hs : rows[s]? = some r) : GridAt (upd H r (.lst (l.map V.int))) g rows n (fun t => if t = s then l else f t) := by
  refine ⟨?_, h.cnt, h.nd, h.out, fun t q e => ?_⟩
  · rw [upd_ne (fun z => h.out (by rw [z]; exact List.mem_of_getElem? hs))]
    exact h.top
  · by_cases c : t = s
    · subst c
      rw [hs] at e
      cases e
      rw [upd_same, if_pos rfl]
    · rw [if_neg c, upd_ne (fun z => c (by subst z; exact h.uniq e hs))]
      exact h.row t q e
theorem GridAt.ext {f' : Nat → List Int} (h : GridAt H g rows n f) (e : ∀ s, s < n → f s = f' s) : GridAt H g rows n f' :=
  ⟨h.top, h.cnt, h.nd, h.out, fun s r er => by
    have : s < n := by
      have := (List.getElem?_eq_some_iff.mp er).1
      rw [h.cnt] at this
      exact this
    rw [← e s this]
    exact h.row s r er⟩
theorem GridAt.off (h : GridAt H g rows n f) {p : Addr} {o : HO} (hp : p ≠ g) (hr : p ∉ rows) : GridAt (upd H p o) g rows n f :=
  h.but fun b u hb e => by
    rw [upd_ne]
    · exact e
    · rintro rfl
      rcases hb with z | z
      · exact hp z
      · exact hr z
end
/-! data of a grid -/
def gridD (n : Nat) (f : Nat → List Int) : PyData := .list ((List.range n).map fun s => .list ((f s).map .int))
theorem gridD_ext {n : Nat} {f f' : Nat → List Int} (e : ∀ s, s < n → f s = f' s) : gridD n f = gridD n f' := by
  unfold gridD
  refine congrArg PyData.list (List.map_congr_left fun s hs => ?_)
  rw [e s (List.mem_range.mp hs)]
theorem gridD_shp (m n : Nat) (f : Nat → List Int) : Shp (m + 2) (gridD n f) := shp_list fun d hd => by
  obtain ⟨s, _, rfl⟩ := List.mem_map.mp hd
  exact shp_ints _ _
theorem dpAll_of {K : PySem.W.Frag} {H : Hp} : ∀ {vs : List V} {ds : List PyData}, vs.length = ds.length → (∀ (i : Nat) (v : V) (d : PyData), vs[i]? = some v → ds[i]? = some d → Dp K H v d) → DpAll K H vs ds
  | [], [], _, _ => .nil
  | [], _ :: _, h, _ => by cases h
  | _ :: _, [], h, _ => by cases h
  | v :: vs, d :: ds, h, q => .cons (q 0 v d rfl rfl) (dpAll_of (by simpa using h) fun i v' d' h1 h2 => q (i + 1) v' d' (by simpa using h1) (by simpa using h2))
theorem GridAt.dp {K : PySem.W.Frag} {H : Hp} {g : Addr} {rows : List Addr} {n : Nat} {f : Nat → List Int} (h : GridAt H g rows n f) : Dp K H (.ref g) (gridD n f) := by
  refine .lst (.inl (.inl h.top)) (dpAll_of ?_ fun i v d h1 h2 => ?_)
  · rw [List.length_map, List.length_map, List.length_range, h.cnt]
  · rw [List.getElem?_map] at h1 h2
    cases e : rows[i]? with
    | none =>
      rw [e] at h1
      cases h1
    | some r =>
      rw [e] at h1
      cases h1
      have li : i < n := by
        have := (List.getElem?_eq_some_iff.mp e).1
        rw [h.cnt] at this
        exact this
      rw [List.getElem?_range li] at h2
      cases h2
      exact .lst (.inl (.inl (h.row i r e))) (dp_ints _)
/-! rows of cells -/
def cr (c : Cells) (m s : Nat) : List Int := (List.range m).map (c s)
theorem cr_len (c : Cells) (m s : Nat) : (cr c m s).length = m := by
  unfold cr
  rw [List.length_map, List.length_range]
theorem cr_at {c : Cells} {m s k : Nat} (h : k < m) : (cr c m s)[k]? = some (c s k) := by
  unfold cr
  rw [List.getElem?_map, List.getElem?_range h]
  rfl
theorem cr_atV {c : Cells} {m s k : Nat} (h : k < m) : ((cr c m s).map V.int)[k]? = some (.int (c s k)) := by
  rw [List.getElem?_map, cr_at h]
  rfl
theorem cr_set {c : Cells} {m s k : Nat} {v : Int} : (cr c m s).set k v = cr (fun s' k' => if s' = s ∧ k' = k then v else c s' k') m s := by
  refine List.ext_getElem? fun i => ?_
  by_cases hi : i < m
  · rw [cr_at hi]
    by_cases e : i = k
    · subst e
      rw [List.getElem?_set_self (by rw [cr_len]; exact hi), if_pos ⟨rfl, rfl⟩]
    · rw [List.getElem?_set_ne (fun z => e z.symm), cr_at hi, if_neg fun z => e z.2]
  · rw [List.getElem?_eq_none (by rw [List.length_set, cr_len]; omega), List.getElem?_eq_none (by rw [cr_len]; omega)]
theorem cr_ext {c c' : Cells} {m s : Nat} (h : ∀ k, k < m → c s k = c' s k) : cr c m s = cr c' m s := List.map_congr_left fun k hk => h k (List.mem_range.mp hk)
theorem set_mapV (l : List Int) (k : Nat) (v : Int) : (l.map V.int).set k (.int v) = (l.set k v).map V.int := by
  rw [List.map_set]
/-- a place of a grid of cells is written -/
theorem GridAt.poke {H : Hp} {g : Addr} {rows : List Addr} {n : Nat} {c c' : Cells} {len : Nat → Nat} {s k : Nat} {r : Addr} {v : Int} (h : GridAt H g rows n fun s => cr c (len s) s) (hs : rows[s]? = some r)
    (hc : ∀ s' k', s' < n → k' < len s' → c' s' k' = if s' = s ∧ k' = k then v else c s' k') :
    GridAt (upd H r (.lst (((cr c (len s) s).map V.int).set k (.int v)))) g rows n fun s => cr c' (len s) s := by
  rw [set_mapV, cr_set]
  refine (h.put hs).ext fun t ht => ?_
  by_cases e : t = s
  · rw [if_pos e]
    subst e
    exact cr_ext fun k' hk => (hc t k' ht hk).symm
  · rw [if_neg e]
    refine cr_ext fun k' hk => ?_
    rw [hc t k' ht hk, if_neg fun z => e z.1]
theorem flat_zeros (k : Nat) : (List.replicate k [V.int 0]).flatten = ((List.range k).map fun _ => (0 : Int)).map V.int := by
  rw [List.map_map]
  refine List.ext_getElem? fun i => ?_
  have : (List.replicate k [V.int 0]).flatten = List.replicate k (V.int 0) := by
    induction k with
    | zero => rfl
    | succ k ih =>
      rw [List.replicate_succ, List.flatten_cons, ih, List.replicate_succ]
      rfl
  rw [this]
  by_cases hi : i < k
  · rw [List.getElem?_replicate, if_pos hi, List.getElem?_map, List.getElem?_range hi]
    rfl
  · rw [List.getElem?_replicate, if_neg hi, List.getElem?_eq_none (by rw [List.length_map, List.length_range]; omega)]
/-- one more row at the end -/
theorem GridAt.grow {H : Hp} {g r : Addr} {rows : List Addr} {i : Nat} {f : Nat → List Int} (h : GridAt H g rows i f) (hr : H r = some (.lst ((f i).map V.int))) (ng : r ≠ g) (nr : r ∉ rows) :
    GridAt (upd H g (.lst (rows.map V.ref ++ [.ref r]))) g (rows ++ [r]) (i + 1) f := by
  refine ⟨?_, ?_, ?_, ?_, fun s q e => ?_⟩
  · rw [upd_same, List.map_append]
    rfl
  · rw [List.length_append, h.cnt]
    rfl
  · rw [List.nodup_append]
    refine ⟨h.nd, List.pairwise_singleton _ _, fun a ha b hb z => ?_⟩
    rw [List.mem_singleton.mp hb] at z
    subst z
    exact nr ha
  · intro z
    rcases List.mem_append.mp z with z | z
    · exact h.out z
    · exact ng (List.mem_singleton.mp z).symm
  · have nq : q ≠ g := by
      rintro rfl
      rcases List.mem_append.mp (List.mem_of_getElem? e) with z | z
      · exact h.out z
      · exact ng (List.mem_singleton.mp z).symm
    rw [upd_ne nq]
    by_cases hs : s < i
    · rw [List.getElem?_append_left (by rw [h.cnt]; exact hs)] at e
      exact h.row s q e
    · have : s = i := by
        have := (List.getElem?_eq_some_iff.mp e).1
        rw [List.length_append, h.cnt, List.length_singleton] at this
        omega
      subst this
      rw [List.getElem?_append_right (by rw [h.cnt]; exact Nat.le_refl _), h.cnt, Nat.sub_self] at e
      cases e
      exact hr
theorem gridAt_nil {H : Hp} {g : Addr} {f : Nat → List Int} (h : H g = some (.lst [])) : GridAt H g [] 0 f :=
  ⟨h, rfl, List.nodup_nil, fun z => (List.not_mem_nil z).elim, fun s r e => by cases e⟩
/-! tuples that stay, parts of tuples -/
theorem sqT_same {K : PySem.W.Frag} {H H' : Hp} {a : Addr} {xs : List V} (s : Same H H') (h : SqT K H a xs) : SqT K H' a xs := by
  rcases h with (h | ⟨o, h⟩) | h
  · exact .inl (.inl (s _ _ h))
  · exact .inl (.inr ⟨o, s _ _ h⟩)
  · exact .inr h
theorem sqT_mut {K : PySem.W.Frag} {H : Hp} {a r : Addr} {xs l : List V} {o' : HO} (hr : H r = some (.lst l)) (h : SqT K H a xs) : SqT K (upd H r o') a xs := by
  rcases h with (h | ⟨o, h⟩) | h
  · refine .inl (.inl ?_)
    rw [upd_ne (ne_of h hr (fun z => by cases z))]
    exact h
  · refine .inl (.inr ⟨o, ?_⟩)
    rw [upd_ne (ne_of h hr (fun z => by cases z))]
    exact h
  · exact .inr h
theorem slA_ok {K : PySem.W.Frag} {H : Hp} {a : Addr} {xs : List V} {lo hi : Option Int} {Q : VK} (h : SqT K H a xs) (q : ∀ H' t, Same H H' → SqT K H' t (cutV xs lo hi) → Q (.ref t) H') : rSlA K (.ref a) lo hi H Q := by
  refine ⟨a, xs, rfl, h, fun w => ?_, fun _ p np => q _ p (same_new np) (.inl (.inl upd_same))⟩
  refine q H a (Same.refl H) ?_
  have : cutV xs lo hi = xs := by
    unfold cutV
    rw [w.1, w.2, List.drop_zero, Nat.sub_zero, List.take_length]
  rw [this]
  exact h
theorem catA_ok {K : PySem.W.Frag} {H : Hp} {a b : Addr} {xs ys : List V} {Q : VK} (h : SqT K H a xs) (h' : SqT K H b ys) (l : xs.length + ys.length ≤ sizeLine) (q : ∀ H' t, Same H H' → SqT K H' t (xs ++ ys) → Q (.ref t) H') : rCatA K (.ref a) (.ref b) H Q := by
  refine ⟨a, b, xs, ys, rfl, rfl, h, h', l, fun e => ?_, fun _ e => ?_, fun _ _ p np => q _ p (same_new np) (.inl (.inl upd_same))⟩
  · subst e
    exact q H b (Same.refl H) h'
  · subst e
    refine q H a (Same.refl H) ?_
    rw [List.append_nil]
    exact h
theorem cut_tail (x : V) (xs : List V) : cutV (x :: xs) (some 1) none = xs := by
  unfold cutV
  show (List.drop (min 1 (xs.length + 1)) (x :: xs)).take (xs.length + 1 - min 1 (xs.length + 1)) = xs
  rw [show min 1 (xs.length + 1) = 1 by omega]
  show xs.take (xs.length + 1 - 1) = xs
  rw [Nat.add_sub_cancel, List.take_length]
theorem cut_to (xs : List V) (m : Nat) : cutV xs none (some (m : Int)) = xs.take m := by
  unfold cutV
  rw [HT.sIx_none, HT.sIx_nat, List.drop_zero, Nat.sub_zero, ← List.take_take, List.take_length]
/-! the law's reckoning, step by step -/
theorem addP_take {g : Cells} {m : Int} {l : List (Int × Int)} {j : Nat} {q : Int × Int} (h : l[j]? = some q) : addP g m (l.take (j + 1)) = add1 (addP g m (l.take j)) m q.1 q.2 := by
  rw [List.take_add_one, h]
  unfold addP
  rw [List.foldl_append]
  rfl
theorem addF_take {n : Int} {fam : Fm} {i : Nat} {p : List Int × Int} (h : fam[i]? = some p) : addF n (fam.take (i + 1)) = addP (addF n (fam.take i)) p.2 (prs p.1 n) := by
  rw [List.take_add_one, h]
  unfold addF
  rw [List.foldl_append]
  rfl
theorem prs_len {p : List Int} {n : Int} (h : p ≠ []) : (prs p n).length = p.length := by
  unfold prs
  rw [List.length_zip, List.length_append, List.length_tail, List.length_singleton]
  have : p.length ≠ 0 := fun z => h (List.length_eq_zero_iff.mp z)
  omega
theorem prs_at {p : List Int} {n : Int} {j : Nat} {d d' : Int} (h : p[j]? = some d) (h' : (p.tail ++ [n])[j]? = some d') : (prs p n)[j]? = some (d, d') := by
  unfold prs
  rw [List.getElem?_zip_eq_some]
  exact ⟨h, h'⟩
theorem prs_bd {p : List Int} {n : Int} {j : Nat} {d d' : Int} (hp : Pat n p) (h : p[j]? = some d) (h' : (p.tail ++ [n])[j]? = some d') : 0 ≤ d ∧ d < n ∧ 0 ≤ d' ∧ d' ≤ n := by
  have a := hp.bd d (List.mem_of_getElem? h)
  refine ⟨a.1, a.2, ?_⟩
  rcases List.mem_append.mp (List.mem_of_getElem? h') with z | z
  · have := hp.bd d' (List.mem_of_mem_tail z)
    omega
  · rw [List.mem_singleton.mp z]
    omega
theorem add1_zero (g : Cells) (m d : Int) : add1 g m d (d + ((0 : Nat) : Int)) = g := by
  funext s k
  unfold add1
  rw [if_neg]
  omega
theorem add1_step (g : Cells) (m : Int) (d e s k : Nat) : add1 g m (d : Int) ((d : Int) + ((e + 1 : Nat) : Int)) s k =
    if s = d + e ∧ k = e then add1 g m (d : Int) ((d : Int) + (e : Int)) s k + m else add1 g m (d : Int) ((d : Int) + (e : Int)) s k := by
  unfold add1
  by_cases c : s = d + e ∧ k = e
  · obtain ⟨rfl, rfl⟩ := c
    rw [if_pos (by omega), if_pos ⟨rfl, rfl⟩, if_neg (by omega)]
  · rw [if_neg c]
    by_cases a : (d : Int) ≤ (s : Int) ∧ (s : Int) < (d : Int) + (e : Int) ∧ (s : Int) - (k : Int) = d
    · rw [if_pos a, if_pos (by omega)]
    · rw [if_neg a, if_neg (by omega)]
theorem add1_end (g : Cells) (m d d' : Int) : add1 g m d (d + ((d' - d).toNat : Int)) = add1 g m d d' := by
  funext s k
  unfold add1
  by_cases a : d ≤ (s : Int) ∧ (s : Int) < d' ∧ (s : Int) - (k : Int) = d
  · rw [if_pos a, if_pos (by omega)]
  · rw [if_neg a, if_neg (by omega)]
theorem cr_take (c : Cells) (m s w : Nat) : (cr c m s).take w = cr c (min m w) s := by
  unfold cr
  rw [← List.map_take, List.take_range, Nat.min_comm]
theorem shRow_cr {n : Nat} {fam : Fm} (h : ∀ p ∈ fam, Pat n p.1) {s : Nat} (hs : s < n) (m : Nat) : (cr (fun s k => pre (addF n fam) s k) (s + 1) s).take m = shRow fam s m := by
  rw [cr_take]
  unfold shRow cr
  refine List.map_congr_left fun k _ => ?_
  exact law_cells h (by omega)
end Fa

namespace K21
open PySem PySem.Spec PyProof.Rows L2 Fa
abbrev s__law_sheet : Stmt := topS 60
abbrev N__law_sheet : List Str := ["some", "count_here", "wide", "found", "one", "number_here", "day_here", "later_day", "spot", "row_here", "back_here"]
theorem sc__law_sheet : FnScope N__law_sheet ["some", "count_here", "wide"] (defScope s__law_sheet) := ⟨rfl, rfl, rfl, by decide +kernel, rfl, by decide +kernel, by decide +kernel⟩
section
variable {P : Program} {w : World} {K : PySem.W.Frag} {mg : Str → Option Value} {base : Heap}
def spShe : Sp := fun vs H Q _ => ∃ (f : Addr) (fam : Fm) (n m : Nat), vs = [.ref f, .int n, .int m] ∧ FamAt H f fam ∧ (∀ p ∈ fam, Pat n p.1) ∧ n ≤ 30 ∧ m ≤ 30 ∧
  ∀ H' g rows, Same H H' → H g = none → (∀ r ∈ rows, H r = none) → GridAt H' g rows n (fun s => shRow fam s m) → Q (.ref g) H'
theorem ok_she {f : Addr} {fd : FuncData} {k : Nat} (F : Fun K "_law_sheet" "_law_sheet" s__law_sheet f fd) (m_range : mg "range" = none) (m_zip : mg "zip" = none) (m_len : mg "len" = none) : FnOk P w K mg base CX0 (k + 1) f fd ["some", "count_here", "wide"] spShe := by
  refine F.ok sc__law_sheet (fun vs H Q E h => ?_) (fun cdv A outer s H vs Q E hr h => ?_)
  · obtain ⟨f, fam, n, m, rfl, _⟩ := h
    rfl
  · obtain ⟨g, fam, n, m, rfl, ⟨xs, eg, hP⟩, hp, hn, hm, q⟩ := h
    refine ⟨_, (pss_cons (ps_setLc (i := 3) (own := [("spot", 8)]) (g := (gName 8)) (tt := tYes) rfl sc__law_sheet.nd rfl rfl (sw_true rfl rfl rfl (by decide +kernel)) (pi_range1 (by rfl) m_range (pa_cons (pv 1) pa_nil)) (blkOk_by (N := N__law_sheet) (sc := defScope s__law_sheet) (by decide +kernel)) (fun _ _ _ _ _ => (pg_name (i := 8) sc__law_sheet.nd rfl (by first | exact Or.inl rfl | exact Or.inr rfl))) (fun _ _ _ _ _ => pts_nil) (fun _ _ _ _ _ => (pe_op op_rep (pe_lst (pa_cons pe_int pa_nil)) (pe_op op_add (pv 8) pe_int))))
  (pss_cons (ps_for PassesOwn.never rfl (Fa.listQ K (pv 0)) (pg_tup rfl (pgs_cons (pg_name (i := 4) sc__law_sheet.nd rfl (by first | exact Or.inl rfl | exact Or.inr rfl)) (pgs_cons (pg_name (i := 5) sc__law_sheet.nd rfl (by first | exact Or.inl rfl | exact Or.inr rfl)) pgs_nil))) (pss_one (ps_for PassesOwn.never rfl (RZ.pi_zipA (by rfl) m_zip (pa_cons (pv 4) (pa_cons (pe_op (Fa.catTA K) (pe_slice (Fa.slTA K) (pv 4) (po_some pe_int) po_none) (pe_tup (pa_cons (pv 1) pa_nil))) pa_nil))) (pg_tup rfl (pgs_cons (pg_name (i := 6) sc__law_sheet.nd rfl (by first | exact Or.inl rfl | exact Or.inr rfl)) (pgs_cons (pg_name (i := 7) sc__law_sheet.nd rfl (by first | exact Or.inl rfl | exact Or.inr rfl)) pgs_nil))) (pss_one (ps_for PassesOwn.never rfl (pi_range2 (by rfl) m_range (pa_cons (pv 6) (pa_cons (pv 7) pa_nil))) (pg_name (i := 8) sc__law_sheet.nd rfl (by first | exact Or.inl rfl | exact Or.inr rfl)) (pss_cons (ps_set (i := 9) sc__law_sheet.nd rfl (by first | exact Or.inl rfl | exact Or.inr rfl) (pe_ix (Fa.ixL K) (pv 3) (pv 8) (fun _ _ => rfl)))
  (pss_one (ps_asg (pe_op op_add (pe_ix (Fa.ixL K) (pv 9) (pe_op op_sub (pv 8) (pv 6)) (fun _ _ => rfl)) (pv 5)) (pg_sub (pv 9) (pe_op op_sub (pv 8) (pv 6)) set_list)))))))))
  (pss_cons (ps_for PassesOwn.never rfl (Fa.listQ K (pv 3)) (pg_name (i := 9) sc__law_sheet.nd rfl (by first | exact Or.inl rfl | exact Or.inr rfl)) (pss_one (ps_for PassesOwn.never rfl (pi_range2 (by rfl) m_range (pa_cons pe_int (pa_cons (pe_callB (Fa.lenQ K) (by rfl) m_len PySem.boot_len (pa_cons (pv 9) pa_nil)) pa_nil))) (pg_name (i := 10) sc__law_sheet.nd rfl (by first | exact Or.inl rfl | exact Or.inr rfl)) (pss_one (ps_asg (pe_op op_add (pe_ix (Fa.ixL K) (pv 9) (pv 10) (fun _ _ => rfl)) (pe_ix (Fa.ixL K) (pv 9) (pe_op op_sub (pv 10) pe_int) (fun _ _ => rfl))) (pg_sub (pv 9) (pv 10) set_list))))))
  (pss_one (ps_ret (pe_lc (own := [("row_here", 9)]) (g := (gName 9)) (tt := tYes) rfl sc__law_sheet.nd (Fa.listQ K (pv 3)) (blkOk_by (N := N__law_sheet) (sc := defScope s__law_sheet) (by decide +kernel)) (fun _ _ _ _ _ => (pg_name (i := 9) sc__law_sheet.nd rfl (by first | exact Or.inl rfl | exact Or.inr rfl))) (fun _ _ _ _ _ => pts_nil) (fun _ _ _ _ _ => (pe_slice (Fa.slL K) (pv 9) po_none (po_some (pv 2)))))))))), ?_⟩
    refine ⟨_, rfl, n, rfl, by omega, by omega, fun D nD => ?_⟩
    refine lc_range (lo := 0) (fun i H2 => Same H H2 ∧ ∃ rows, GridAt H2 D rows i (fun s => cr (fun _ _ => 0) (s + 1) s) ∧ ∀ r ∈ rows, H r = none) ?_ ?_ ?_
    · exact ⟨same_new nD, [], gridAt_nil upd_same, fun r z => (List.not_mem_nil z).elim⟩
    · rintro i H2 hi ⟨s2, rows, G, fresh⟩
      refine ⟨rfl, yes_if ⟨by show 1 ≤ sizeLine; decide, fun l nl => ⟨_, rfl, _, _, rfl, rfl, l, _, _, rfl, rfl, upd_same, by omega, by omega, ?_, fun p np => ?_⟩⟩⟩
      · show 1 * _ ≤ sizeLine
        rw [Nat.one_mul]
        exact Nat.le_of_lt (small1000 (by omega))
      · have nlD : D ≠ l := ne_of_none G.top nl
        have lp : l ≠ p := ne_of_none upd_same np
        have np2 : H2 p = none := by rwa [upd_ne lp.symm] at np
        have npD : D ≠ p := ne_of_none G.top np2
        have npr : p ∉ rows := fun z => by
          obtain ⟨j, hj, e⟩ := List.mem_iff_getElem.mp z
          have := G.row j p (by rw [List.getElem?_eq_getElem hj, e])
          rw [np2] at this
          cases this
        have nlr : l ∉ rows := fun z => by
          obtain ⟨j, hj, e⟩ := List.mem_iff_getElem.mp z
          have := G.row j l (by rw [List.getElem?_eq_getElem hj, e])
          rw [nl] at this
          cases this
        have G3 := (G.off (o := .lst [.int 0]) nlD.symm nlr).off (p := p) (o := .lst (List.replicate ((0 : Int) + (i : Int) + 1).toNat [V.int 0]).flatten) npD.symm npr
        have s3 : Same H _ := fun b o e => same_new (o := .lst (List.replicate ((0 : Int) + (i : Int) + 1).toNat [V.int 0]).flatten) np _ _ (same_new (o := .lst [.int 0]) nl _ _ (s2 _ _ e))
        have ep : upd (upd H2 l (.lst [.int 0])) p (.lst (List.replicate ((0 : Int) + (i : Int) + 1).toNat [V.int 0]).flatten) p = some (.lst ((cr (fun _ _ => 0) (i + 1) i).map V.int)) := by
          rw [upd_same, flat_zeros, show ((0 : Int) + (i : Int) + 1).toNat = i + 1 by omega]
          rfl
        have hnp : H p = none := s2.free np2
        refine ⟨rows.map V.ref, G3.top, ?_, ?_⟩
        · rw [List.length_map, G.cnt]
          exact small1000 (by omega)
        generalize upd (upd H2 l (.lst [.int 0])) p (.lst (List.replicate ((0 : Int) + (i : Int) + 1).toNat [V.int 0]).flatten) = H3 at G3 s3 ep ⊢
        refine ⟨fun b o e => ?_, _, G3.grow ep npD.symm npr, fun r hr => ?_⟩
        · rw [upd_ne (ne_of_none e nD)]
          exact s3 _ _ e
        · rcases List.mem_append.mp hr with z | z
          · exact fresh r z
          · rw [List.mem_singleton.mp z]
            exact hnp
    · rintro H2 ⟨s2, rows, G, fresh⟩
      refine ⟨_, rfl, g, rfl, ⟨xs, .inl (.inl (s2 _ _ eg))⟩, ?_⟩
      refine for_it (walk_list (xs := xs)) (fun i σ H' => Same H H' ∧ GridAt H' D rows n (fun s => cr (addF n (fam.take i)) (s + 1) s) ∧ ∃ x4 x5 x6 x7 x8 x9, σ = [some (.ref g), some (.int n), some (.int m), some (.ref D), x4, x5, x6, x7, x8, x9, none]) ?_ ?_ ?_ ?_
      · exact ⟨s2, G, none, none, none, none, none, none, rfl⟩
      · rintro i σ H1 _ ⟨s1, _⟩
        exact .inl (.inl (s1 _ _ eg))
      · rintro i v σ _ H3 hi ⟨s3, G3, x4, x5, x6, x7, x8, x9, rfl⟩ ⟨rfl, ev⟩
        obtain ⟨pt, ep, t, bb, rfl, h1, h2⟩ := paired_at hP ev
        have hpt := hp pt (List.mem_of_getElem? ep)
        have cutE : cutV (pt.1.map V.int) (some 1) none = pt.1.tail.map V.int := by
          cases e : pt.1 with
          | nil => exact absurd e hpt.ne
          | cons d ds => exact cut_tail _ _
        have plen : pt.1.length ≤ 30 := by
          have := hpt.len
          omega
        refine ⟨t, _, rfl, .inl (.inl (s3 _ _ h1)), rfl, _, _, rfl, _, _, rfl, rfl, ?_⟩
        refine ⟨_, rfl, _, rfl, 1, rfl, ?_⟩
        unfold tNoPart
        show rSlA K _ _ _ _ _
        refine slA_ok (.inl (.inl (s3 _ _ h2))) fun H4 t4 s4 q4 => ⟨_, rfl, by show 1 ≤ sizeLine; decide, fun t5 nt5 => ?_⟩
        refine catA_ok (sqT_same (same_new nt5) q4) (.inl (.inl upd_same)) ?_ fun H6 t6 s6 q6 => ?_
        · rw [cutE, List.length_map, List.length_tail]
          exact Nat.le_of_lt (small1000 (by show pt.1.length - 1 + 1 ≤ 1000; omega))
        · rw [cutE] at q6
          have s36 : Same H3 H6 := (s4.trans (same_new nt5)).trans s6
          refine ⟨bb, t6, _, _, rfl, .inr ⟨.inl (.inl (s36 _ _ (s3 _ _ h2))), q6, ?_⟩⟩
          refine RZ.for_zipT (xs := pt.1.map V.int) (ys := pt.1.tail.map V.int ++ [.int n]) ?_ (fun j σ H' => Same H H' ∧ (∀ t us, SqT K H6 t us → SqT K H' t us) ∧ GridAt H' D rows n (fun s => cr (addP (addF n (fam.take i)) pt.2 ((prs pt.1 n).take j)) (s + 1) s) ∧ ∃ x6 x7 x8 x9, σ = [some (.ref g), some (.int n), some (.int m), some (.ref D), some (.ref bb), some (.int pt.2), x6, x7, x8, x9, none]) ?_ ?_ ?_ ?_
          · rw [List.length_append, List.length_map, List.length_map, List.length_tail]
            have : pt.1.length ≠ 0 := fun z => hpt.ne (List.length_eq_zero_iff.mp z)
            simp only [List.length_singleton]
            omega
          · exact ⟨s3.trans s36, fun _ _ z => z, G3.same s36, x6, x7, x8, x9, rfl⟩
          · rintro j σ H7 ⟨_, k7, _⟩
            exact ⟨k7 _ _ (.inl (.inl (s36 _ _ (s3 _ _ h2)))), k7 _ _ q6⟩
          · rintro j vx vy T σ H7 hx hy ⟨s7, k7, G7, y6, y7, y8, y9, rfl⟩ nT
            obtain ⟨d, ed, rfl⟩ := int_at hx
            obtain ⟨d', ed', rfl⟩ : ∃ d', (pt.1.tail ++ [(n : Int)])[j]? = some d' ∧ vy = .int d' := by
              have e : pt.1.tail.map V.int ++ [V.int n] = (pt.1.tail ++ [(n : Int)]).map V.int := by
                rw [List.map_append]
                rfl
              rw [e] at hy
              exact int_at hy
            have hpr := prs_at ed ed'
            obtain ⟨d0, dn, d0', dn'⟩ := prs_bd hpt ed ed'
            obtain ⟨dN, rfl⟩ := Int.eq_ofNat_of_zero_le d0
            have s7' : Same H7 (upd H7 T (.tup [.int dN, .int d'])) := same_new nT
            refine ⟨T, _, rfl, .inl (.inl upd_same), rfl, _, _, rfl, _, _, rfl, rfl, _, rfl, _, rfl, dN, d', rfl, ⟨by omega, by omega, by omega, by omega⟩, ?_⟩
            have G8 := G7.same s7'
            have s8 := s7.trans s7'
            have k8 : ∀ t us, SqT K H6 t us → SqT K (upd H7 T (.tup [.int dN, .int d'])) t us := fun t us z => sqT_same s7' (k7 t us z)
            generalize upd H7 T (.tup [.int dN, .int d']) = H8 at G8 s8 k8 ⊢
            refine for_range (lo := (dN : Int)) (fun e σ H' => Same H H' ∧ (∀ t us, SqT K H6 t us → SqT K H' t us) ∧ GridAt H' D rows n (fun s => cr (add1 (addP (addF n (fam.take i)) pt.2 ((prs pt.1 n).take j)) pt.2 dN ((dN : Int) + (e : Int))) (s + 1) s) ∧
              ∃ x8 x9, σ = [some (.ref g), some (.int n), some (.int m), some (.ref D), some (.ref bb), some (.int pt.2), some (.int dN), some (.int d'), x8, x9, none]) ?_ ?_ ?_
            · refine ⟨s8, k8, ?_, y8, y9, rfl⟩
              rw [add1_zero]
              exact G8
            · rintro e σ H9 he ⟨s9, k9, G9, z8, z9, rfl⟩
              obtain ⟨r, er, hr', hrow⟩ := G9.get (s := dN + e) (by omega)
              have at1 : atI (rows.map V.ref) ((dN : Int) + (e : Int)) = some (.ref r) := atI_int (by omega) (by rw [show ((dN : Int) + (e : Int)).toNat = dN + e by omega, List.getElem?_map, er]; rfl)
              have ie : ((dN : Int) + (e : Int) - (dN : Int)) = ((e : Nat) : Int) := by omega
              refine ⟨_, rfl, _, rfl, D, _, _, _, rfl, rfl, .inl (.inl G9.top), at1, ?_⟩
              refine ⟨_, rfl, _, rfl, _, rfl, _, _, rfl, rfl, r, _, _, _, rfl, rfl, .inl (.inl hrow), by rw [ie]; exact atI_nat (cr_atV (by omega)), _, rfl, _, _, rfl, rfl, _, rfl, _, rfl, _, rfl, _, _, rfl, rfl, r, _, _, e, rfl, rfl, hrow, ?_, ?_⟩
              · rw [ie, List.length_map, cr_len]
                exact ixN_int (by omega) (by omega)
              · refine ⟨fun b o z => ?_, fun t us z => sqT_mut hrow (k9 t us z), G9.poke er fun s' k' hs' hk' => ?_, _, _, rfl⟩
                · rw [upd_ne (fun q => by subst q; rw [fresh b hr'] at z; cases z)]
                  exact s9 _ _ z
                · show add1 _ _ _ ((dN : Int) + ((e + 1 : Nat) : Int)) s' k' = _
                  rw [add1_step]
                  by_cases c : s' = dN + e ∧ k' = e
                  · obtain ⟨rfl, rfl⟩ := c
                    rw [if_pos ⟨rfl, rfl⟩]
                  · rw [if_neg c, if_neg c]
            · rintro σ H9 ⟨s9, k9, G9, z8, z9, rfl⟩
              rw [add1_end] at G9
              refine ⟨s9, k9, ?_, _, _, _, _, rfl⟩
              rw [addP_take hpr]
              exact G9
          · rintro σ H7 ⟨s7, k7, G7, y6, y7, y8, y9, rfl⟩
            refine ⟨s7, ?_, _, _, _, _, _, _, rfl⟩
            have tk : (prs pt.1 n).take (pt.1.map V.int).length = prs pt.1 n := List.take_of_length_le (by rw [prs_len hpt.ne, List.length_map]; exact Nat.le_refl _)
            rw [tk] at G7
            rw [addF_take ep]
            exact G7
      · rintro σ H3 ⟨s3, G3, x4, x5, x6, x7, x8, x9, rfl⟩
        rw [List.take_of_length_le (show fam.length ≤ xs.length by rw [hP.length]; exact Nat.le_refl _)] at G3
        refine ⟨_, rfl, D, rfl, ⟨_, .inl (.inl G3.top)⟩, ?_⟩
        refine for_it (walk_list (xs := rows.map V.ref)) (fun i σ H' => Same H H' ∧ GridAt H' D rows n (fun s => cr (fun s k => if s < i then pre (addF n fam) s k else addF n fam s k) (s + 1) s) ∧
          ∃ x4 x5 x6 x7 x8 x9 x10, σ = [some (.ref g), some (.int n), some (.int m), some (.ref D), x4, x5, x6, x7, x8, x9, x10]) ?_ ?_ ?_ ?_
        · refine ⟨s3, G3.ext fun s _ => cr_ext fun k _ => ?_, x4, x5, x6, x7, x8, x9, none, rfl⟩
          rw [if_neg (by omega)]
        · rintro i σ H4 _ ⟨_, G4, _⟩
          exact .inl (.inl G4.top)
        · rintro i v σ _ H4 hi ⟨s4, G4, y4, y5, y6, y7, y8, y9, y10, rfl⟩ ⟨rfl, ev⟩
          rw [List.length_map, G4.cnt] at hi
          obtain ⟨r, er, hr', hrow⟩ := G4.get (s := i) hi
          rw [List.getElem?_map, er] at ev
          cases ev
          refine ⟨_, rfl, r, _, rfl, .inl (.inl (.inl hrow)), 1, _, rfl, ⟨by omega, by omega, by omega, by rw [List.length_map, cr_len]; omega⟩, ?_⟩
          rw [List.length_map, cr_len, show (((i + 1 : Nat) : Int) - 1).toNat = i by omega]
          refine for_range (lo := 1) (fun j σ H' => Same H H' ∧ GridAt H' D rows n (fun s => cr (fun s k => if s < i ∨ (s = i ∧ k ≤ j) then pre (addF n fam) s k else addF n fam s k) (s + 1) s) ∧
            ∃ x10, σ = [some (.ref g), some (.int n), some (.int m), some (.ref D), y4, y5, y6, y7, y8, some (.ref r), x10]) ?_ ?_ ?_
          · refine ⟨s4, G4.ext fun s _ => cr_ext fun k _ => ?_, y10, rfl⟩
            by_cases c : s < i
            · rw [if_pos c, if_pos (.inl c)]
            · rw [if_neg c]
              by_cases c2 : s = i ∧ k ≤ 0
              · rw [if_pos (.inr c2)]
                obtain ⟨rfl, c3⟩ := c2
                obtain rfl : k = 0 := by omega
                rfl
              · rw [if_neg (by omega)]
          · rintro j σ H5 hj ⟨s5, G5, z10, rfl⟩
            have hrow5 := G5.row i r er
            refine ⟨_, rfl, _, rfl, r, _, _, _, rfl, rfl, .inl (.inl hrow5), by rw [show (1 : Int) + (j : Int) = ((j + 1 : Nat) : Int) by omega]; exact atI_nat (cr_atV (by omega)),
              _, rfl, _, rfl, _, _, rfl, rfl, r, _, _, _, rfl, rfl, .inl (.inl hrow5), by rw [show (1 : Int) + (j : Int) - 1 = ((j : Nat) : Int) by omega]; exact atI_nat (cr_atV (by omega)), _, _, rfl, rfl, _, rfl, _, rfl, r, _, _, j + 1, rfl, rfl, hrow5, ?_, ?_⟩
            · rw [List.length_map, cr_len, show (1 : Int) + (j : Int) = ((j + 1 : Nat) : Int) by omega]
              exact ixN_int (by omega) (by omega)
            · refine ⟨fun b o z => ?_, G5.poke er fun s' k' hs' hk' => ?_, _, rfl⟩
              · rw [upd_ne (fun q => by subst q; rw [fresh b hr'] at z; cases z)]
                exact s5 _ _ z
              · by_cases c : s' = i ∧ k' = j + 1
                · obtain ⟨rfl, rfl⟩ := c
                  rw [if_pos (.inr ⟨rfl, Nat.le_refl _⟩), if_pos ⟨rfl, rfl⟩, if_neg (by omega), if_pos (.inr ⟨rfl, Nat.le_refl _⟩)]
                  show pre _ _ _ + _ = _
                  omega
                · rw [if_neg c]
                  by_cases c2 : s' < i ∨ (s' = i ∧ k' ≤ j)
                  · rw [if_pos c2, if_pos (by omega)]
                  · rw [if_neg c2, if_neg (by omega)]
          · rintro σ H5 ⟨s5, G5, z10, rfl⟩
            refine ⟨s5, G5.ext fun s _ => cr_ext fun k hk => ?_, _, _, _, _, _, _, _, rfl⟩
            by_cases c : s < i + 1
            · rw [if_pos c, if_pos (by omega)]
            · rw [if_neg c, if_neg (by omega)]
        · rintro σ H4 ⟨s4, G4, y4, y5, y6, y7, y8, y9, y10, rfl⟩
          rw [List.length_map, G4.cnt] at G4
          have G5 : GridAt H4 D rows n (fun s => cr (fun s k => pre (addF n fam) s k) (s + 1) s) := G4.ext fun s hs => cr_ext fun k _ => by rw [if_pos hs]
          refine ⟨_, rfl, D, rfl, ⟨_, .inl (.inl G5.top)⟩, fun D2 nD2 => ?_⟩
          have nD2' : H D2 = none := s4.free nD2
          refine lc_it (walk_list (xs := rows.map V.ref)) (fun i H2 => Same H4 H2 ∧ ∃ rs, GridAt H2 D2 rs i (fun s => shRow fam s m) ∧ ∀ r ∈ rs, H r = none) ?_ ?_ ?_ ?_
          · exact ⟨same_new nD2, [], gridAt_nil upd_same, fun r z => (List.not_mem_nil z).elim⟩
          · rintro i H6 _ ⟨s6, _⟩
            exact .inl (.inl (s6 _ _ G5.top))
          · rintro i v _ H6 hi ⟨s6, rs, G6, fr⟩ ⟨rfl, ev⟩
            rw [List.length_map, G5.cnt] at hi
            obtain ⟨r, er, hr', hrow⟩ := G5.get (s := i) hi
            rw [List.getElem?_map, er] at ev
            cases ev
            refine ⟨rfl, yes_if ⟨_, rfl, ?_⟩⟩
            unfold tNoPart
            refine ⟨_, rfl, m, rfl, r, _, rfl, .inl (.inl (s6 _ _ hrow)), fun p np => ?_⟩
            have npD : p ≠ D2 := fun z => by rw [z, G6.top] at np; cases np
            have npr : p ∉ rs := fun z => by
              obtain ⟨j, hj, e⟩ := List.mem_iff_getElem.mp z
              have := G6.row j p (by rw [List.getElem?_eq_getElem hj, e])
              rw [np] at this
              cases this
            have G7 := G6.off (o := .lst (cutV ((cr (fun s k => pre (addF n fam) s k) (i + 1) i).map V.int) none (some m))) npD npr
            refine ⟨rs.map V.ref, G7.top, ?_, fun b o z => ?_, rs ++ [p], G7.grow ?_ npD npr, fun q hq => ?_⟩
            · rw [List.length_map, G6.cnt]
              exact small1000 (by omega)
            · rw [upd_ne (ne_of_none z nD2)]
              exact same_new np _ _ (s6 _ _ z)
            · rw [upd_same, cut_to, ← List.map_take, shRow_cr hp hi]
            · rcases List.mem_append.mp hq with z | z
              · exact fr q z
              · rw [List.mem_singleton.mp z]
                exact s4.free (s6.free np)
          · rintro H6 ⟨s6, rs, G6, fr⟩
            rw [List.length_map, G5.cnt] at G6
            exact q H6 D2 rs (s4.trans s6) nD2' fr G6
end
end K21

namespace Fa
open PySem PySem.Spec PyProof.Rows L2
theorem cut_last (xs : List V) (x : V) : cutV (xs ++ [x]) none (some (-1)) = xs := by
  unfold cutV
  rw [HT.sIx_none]
  show ((xs ++ [x]).drop 0).take ((-1 + ((xs ++ [x]).length : Int)).toNat - 0) = xs
  rw [List.drop_zero, List.length_append, List.length_singleton, show (-1 + ((xs.length + 1 : Nat) : Int)).toNat - 0 = xs.length by omega, List.take_left]
/-- all that was tracked stands, but at these -/
def Off (l : List Addr) (H H' : Hp) : Prop := ∀ b o, b ∉ l → H b = some o → H' b = some o
theorem Off.refl (l : List Addr) (H : Hp) : Off l H H := fun _ _ _ h => h
theorem Off.trans {l : List Addr} {H H1 H2 : Hp} (a : Off l H H1) (b : Off l H1 H2) : Off l H H2 := fun c o n h => b c o n (a c o n h)
theorem off_same {l : List Addr} {H H' : Hp} (s : Same H H') : Off l H H' := fun c o _ h => s c o h
theorem Off.mut {l : List Addr} {H H1 : Hp} {p : Addr} {o : HO} (a : Off l H H1) (h : p ∈ l) : Off l H (upd H1 p o) := fun c u n e => by
  rw [upd_ne (fun z => n (by rw [z]; exact h))]
  exact a c u n e
theorem GridAt.offs {H H' : Hp} {g : Addr} {rows l : List Addr} {n : Nat} {f : Nat → List Int} (h : GridAt H g rows n f) (a : Off l H H') (ng : g ∉ l) (nr : ∀ r ∈ rows, r ∉ l) : GridAt H' g rows n f :=
  h.but fun b o hb e => a b o (hb.elim (fun z => by rw [z]; exact ng) (nr b)) e
theorem sqL_same {K : PySem.W.Frag} {H H' : Hp} {a : Addr} {xs : List V} (s : Same H H') (h : SqL K H a xs) : SqL K H' a xs := s.seq h
theorem rg0 (n : Nat) : rgV 0 (n : Int) = ((List.range n).map fun i : Nat => (i : Int)).map V.int := by
  unfold rgV
  rw [List.map_map, show ((n : Int) - 0).toNat = n by omega]
  refine List.map_congr_left fun i _ => ?_
  show V.int (0 + (i : Int)) = V.int (i : Int)
  rw [Int.zero_add]
theorem GridAt.noRow {H : Hp} {g p : Addr} {rs : List Addr} {n : Nat} {f : Nat → List Int} (G : GridAt H g rs n f) (np : H p = none) : p ≠ g ∧ p ∉ rs := by
  refine ⟨fun z => ?_, fun z => ?_⟩
  · rw [z, G.top] at np
    cases np
  · obtain ⟨j, hj, e⟩ := List.mem_iff_getElem.mp z
    have := G.row j p (by rw [List.getElem?_eq_getElem hj, e])
    rw [np] at this
    cases this
/-- a comprehension's turn: a new row at p, then its place in the new list at g -/
theorem grow_step {H0 H : Hp} {g p : Addr} {rs : List Addr} {i : Nat} {f : Nat → List Int} {l : List V} (s : Same H0 H) (ng : H0 g = none) (G : GridAt H g rs i f) (np : H p = none) (hl : l = (f i).map V.int) (hi : i ≤ 900) :
    upd H p (.lst l) g = some (.lst (rs.map V.ref)) ∧ (rs.map V.ref).length < sizeLine ∧ Same H0 (upd (upd H p (.lst l)) g (.lst (rs.map V.ref ++ [.ref p]))) ∧
      GridAt (upd (upd H p (.lst l)) g (.lst (rs.map V.ref ++ [.ref p]))) g (rs ++ [p]) (i + 1) f := by
  obtain ⟨npg, npr⟩ := G.noRow np
  have G7 := G.off (o := .lst l) npg npr
  refine ⟨G7.top, ?_, fun b o z => ?_, G7.grow (by rw [upd_same, hl]) npg npr⟩
  · rw [List.length_map, G.cnt]
    exact small1000 (by omega)
  · rw [upd_ne (ne_of_none z ng)]
    exact same_new np _ _ (s _ _ z)
/-- a place of a grid is written -/
theorem GridAt.write {H : Hp} {g : Addr} {rows : List Addr} {n : Nat} {f : Nat → List Int} {s k : Nat} {r : Addr} {v : Int} (h : GridAt H g rows n f) (hs : rows[s]? = some r) :
    GridAt (upd H r (.lst (((f s).map V.int).set k (.int v)))) g rows n fun t => if t = s then (f s).set k v else f t := by
  rw [set_mapV]
  exact h.put hs
end Fa


/-! type(x) == T, type(x) != T -/
namespace Fa
open PySem PySem.Spec PyProof.Rows L2
theorem slot_type_ne : Slot "type" (cmpInfo .NotEq).2.1 "object.__ne__" :=
  .of (owner := "object") (n := "__ne__") (by rw [typeLookup_type, builtinLookup_eq_fast]; kernel_rfl) (by decide +kernel) (by decide +kernel)
    (by decide +kernel) (by first | exact .inl (by decide +kernel) | exact .inr (by decide +kernel)) (by rw [isSubtype_type]; kernel_rfl)
section
variable {prog : Program} {w : World} {A : Around} {E : Value → Shared → Prop} {s : Shared} {Q : Value → Shared → Prop}
theorem ne_type_same {Y : String} (hY : ∀ s' : Shared, s'.TypeIs (.type Y) "type") (h : Q (.bool false) s) : wpAny (model prog w) A (compareOp .NotEq (.type Y) (.type Y)) Q E s := by
  show wpAny _ A (richCompare .NotEq _ _) Q E s
  refine wpAny_richCompare_same (T := "type") (hY s) (hY s) slot_type_ne ?_
  refine wpAny_call (codeAny_call_builtin slot_type_ne.plain F.cmpEntry_ne (slot_type_ne.check _ _ _ _ _ _ _ _ (hY s) (F.cmpArgs_ne _ _) ?_))
  have sl : Slot "type" "__eq__" "object.__eq__" := TypeEq.slot_type_eq
  unfold Builtin.«object.__ne__»
  repeat (first | with_reducible refine wpAny_cRoomFor_or (.inl rfl) ?_ | with_reducible refine wpAny_callSpecialIfBound?_slot (hY _) sl (call_gives sl (hY _) F.entry_object_eq (F.args_object_eq_2 _ _) (TypeEq.object_eq_same rfl (by simp)) ?_) | wp_step)
  simp only [Made.post]
  repeat wp_step
  exact ⟨nofun, h⟩
end
def Own3 (T : String) : Prop := T = "int" ∨ T = "list" ∨ T = "tuple"
theorem Own3.meta' {T : String} (h : Own3 T) (s' : Shared) : s'.TypeIs (.type T) "type" := by
  rcases h with rfl | rfl | rfl
  · exact TypeEq.meta_int s'
  · exact TypeEq.meta_list s'
  · exact TypeEq.meta_tuple s'
def rTsE : R2 := fun x y H Q => ∃ T, x = .ty T ∧ y = .ty T ∧ Own3 T ∧ Q (.bl true) H
def rTsN : R2 := fun x y H Q => ∃ T, x = .ty T ∧ y = .ty T ∧ Own3 T ∧ Q (.bl false) H
section
variable {X : Cx}
theorem op_eqTs : OpR X (compareOp .Eq) rTsE := by
  intro pins s σ H x y v u Q I rx ry h
  obtain ⟨T, rfl, rfl, m, q⟩ := h
  cases (show v = Value.type T from rx)
  cases (show u = Value.type T from ry)
  exact TypeEq.eq_type_same m.meta' (fin_bl I q rfl)
theorem op_neTs : OpR X (compareOp .NotEq) rTsN := by
  intro pins s σ H x y v u Q I rx ry h
  obtain ⟨T, rfl, rfl, m, q⟩ := h
  cases (show v = Value.type T from rx)
  cases (show u = Value.type T from ry)
  exact ne_type_same m.meta' (fin_bl I q rfl)
theorem tyQ (K : PySem.W.Frag) (h : X.K = K := by rfl) : CallR X (.type "type") (rTyp K) := h ▸ call_type1
theorem ltTQ (K : PySem.W.Frag) (hu : X.A.units < cLine) (h : X.K = K := by rfl) : OpR X (compareOp .Lt) (rLtT K) := h ▸ op_ltT hu
end
/-- the shape of a sheet of n days and of width w -/
structure Shf (n w : Nat) (f : Nat → List Int) : Prop where
  n1 : 1 ≤ n
  n30 : n ≤ 30
  w1 : 1 ≤ w
  wn : w ≤ n
  len : ∀ s, s < n → (f s).length = min (s + 1) w
  nn : ∀ s, s < n → ∀ x ∈ f s, 0 ≤ x
def ShAt (H : Hp) (g : Addr) (n w : Nat) (f : Nat → List Int) : Prop := (∃ rows, GridAt H g rows n f) ∧ Shf n w f
theorem ShAt.same {H H' : Hp} {g : Addr} {n w : Nat} {f : Nat → List Int} (h : ShAt H g n w f) (s : Same H H') : ShAt H' g n w f := by
  obtain ⟨⟨rows, G⟩, z⟩ := h
  exact ⟨⟨rows, G.same s⟩, z⟩
theorem Shf.last {n w : Nat} {f : Nat → List Int} (h : Shf n w f) : (f (n - 1)).length = w := by
  have a := h.n1
  have b := h.wn
  have := h.len (n - 1) (by omega)
  omega
theorem GridAt.last {H : Hp} {g : Addr} {rows : List Addr} {n : Nat} {f : Nat → List Int} (G : GridAt H g rows n f) (h : 1 ≤ n) : ∃ r, atI (rows.map V.ref) (-1) = some (.ref r) ∧ rows[n - 1]? = some r ∧ H r = some (.lst ((f (n - 1)).map V.int)) := by
  obtain ⟨r, er, _, hr⟩ := G.get (s := n - 1) (by omega)
  refine ⟨r, atI_neg1 ?_ ?_, er, hr⟩
  · rw [List.length_map, G.cnt, List.getElem?_map, er]
    rfl
  · intro z
    have := congrArg List.length z
    rw [List.length_map, G.cnt] at this
    simp only [List.length_nil] at this
    omega
theorem pgTQ (K : PySem.W.Frag) {X : Cx} {es : List Expr} {kx : Nat} {pos : Pos} {t : TGs} {n : Nat} (hc : X.calm = true) (h : PGs X es t) (hK : X.K = K := by rfl)
    (hn : (assignEach es X.env).length = n := by rfl) (hst : (assignEach es X.env).findIdx? (·.1) = none := by rfl) : PG X (.Tuple es kx pos) (gTup K n t) := hK ▸ pg_tup hc h hn hst
theorem iteNe {x y : V} {A B : Prop} (h : x = y) (b : B) : if (!decide (x = y)) = true then A else B := by
  rw [decide_eq_true h]
  exact iteF b
theorem iteEq {x y : V} {A B : Prop} (h : x = y) (a : A) : if decide (x = y) = true then A else B := by
  rw [decide_eq_true h]
  exact iteT a
theorem iteDF {c A B : Prop} [Decidable c] (hc : ¬ c) (h : B) : if decide c = true then A else B := by
  rw [decide_eq_false hc]
  exact iteF h
/-- j times True -/
def yesV (j : Nat) : List V := (List.replicate j true).map V.bl
theorem yes_snoc {j : Nat} {b : Bool} (h : b = true) : yesV j ++ [V.bl b] = yesV (j + 1) := by
  subst h
  unfold yesV
  rw [List.replicate_succ', List.map_append]
  rfl
theorem yes_len (j : Nat) : (yesV j).length = j := by
  unfold yesV
  rw [List.length_map, List.length_replicate]
theorem yes_all (j : Nat) : (List.replicate j true).all id = true := by
  rw [List.all_eq_true]
  intro b hb
  rw [(List.mem_replicate.mp hb).2]
  rfl
end Fa

namespace K21
open PySem PySem.Spec PyProof.Rows L2 Fa
abbrev s_is_integer : Stmt := topS 12
abbrev N_is_integer : List Str := ["thing"]
theorem sc_is_integer : FnScope N_is_integer ["thing"] (defScope s_is_integer) := ⟨rfl, rfl, rfl, by decide +kernel, rfl, by decide +kernel, by decide +kernel⟩
abbrev s_is_row : Stmt := topS 14
abbrev N_is_row : List Str := ["thing", "length", "number"]
theorem sc_is_row : FnScope N_is_row ["thing", "length"] (defScope s_is_row) := ⟨rfl, rfl, rfl, by decide +kernel, rfl, by decide +kernel, by decide +kernel⟩
abbrev s_is_sheet : Stmt := topS 15
abbrev N_is_sheet : List Str := ["thing", "last_row", "width", "day", "row"]
theorem sc_is_sheet : FnScope N_is_sheet ["thing"] (defScope s_is_sheet) := ⟨rfl, rfl, rfl, by decide +kernel, rfl, by decide +kernel, by decide +kernel⟩
section
variable {P : Program} {w : World} {K : PySem.W.Frag} {mg : Str → Option Value} {base : Heap}
def spIsInt : Sp := fun vs H Q _ => ∃ i : Int, vs = [.int i] ∧ Q (.bl true) H
def spRow : Sp := fun vs H Q _ => ∃ (r : Addr) (l : List Int) (L : Int), vs = [.ref r, .int L] ∧ L = l.length ∧ H r = some (.lst (l.map V.int)) ∧ l.length ≤ 900 ∧ (∀ x ∈ l, 0 ≤ x) ∧ ∀ H', Same H H' → Q (.bl true) H'
def spIsSh : Sp := fun vs H Q _ => ∃ (g : Addr) (n w : Nat) (f : Nat → List Int), vs = [.ref g] ∧ ShAt H g n w f ∧ ∀ H', Same H H' → Q (.bl true) H'
theorem b_int : bootBuiltins "int" = some (.type "int") := by decide +kernel
theorem b_list : bootBuiltins "list" = some (.type "list") := by decide +kernel
theorem b_tuple : bootBuiltins "tuple" = some (.type "tuple") := by decide +kernel
theorem ok_isint {f : Addr} {fd : FuncData} {k : Nat} (F : Fun K "is_integer" "is_integer" s_is_integer f fd) (m_type : mg "type" = none) (m_int : mg "int" = none) : FnOk P w K mg base CX0 (k + 1) f fd ["thing"] spIsInt := by
  refine F.ok sc_is_integer (fun vs H Q E h => ?_) (fun cdv A outer s H vs Q E hr h => ?_)
  · obtain ⟨i, rfl, _⟩ := h
    rfl
  · obtain ⟨i, rfl, q⟩ := h
    refine ⟨_, (pss_one (ps_ret (pe_cmpR Fa.op_eqTs (pe_callTy (Fa.tyQ K) (by rfl) m_type PyProof.Rows.boot_type (pa_cons (pv 0) pa_nil)) (pe_bltn (v := .ty "int") rfl m_int b_int rfl) (nomark _)))), ?_⟩
    exact ⟨_, rfl, _, _, rfl, .int i, "int", rfl, rfl, .inl rfl, q⟩
theorem ok_row {f fI : Addr} {fd fdI : FuncData} {k : Nat} (F : Fun K "is_row" "is_row" s_is_row f fd) (F_is_integer : Fun K "is_integer" "is_integer" s_is_integer fI fdI) (G_is_integer : FnOk P w K mg base CX0 k fI fdI ["thing"] spIsInt) (b_is_integer : Binds K fdI ["thing"] [])
    (g_is_integer : mg "is_integer" = some (.ref fI)) (m_type : mg "type" = none) (m_list : mg "list" = none) (m_len : mg "len" = none) (m_all : mg "all" = none) : FnOk P w K mg base CX0 (k + 1) f fd ["thing", "length"] spRow := by
  refine F.ok sc_is_row (fun vs H Q E h => ?_) (fun cdv A outer s H vs Q E hr h => ?_)
  · obtain ⟨r, l, _, rfl, _⟩ := h
    rfl
  · obtain ⟨r, l, L, rfl, hL, e, hl, nn, q⟩ := h
    refine ⟨_, (pss_cons (ps_if (PW.pt (pw_or (pt_cmpR Fa.op_neTs (pe_callTy (Fa.tyQ K) (by rfl) m_type PyProof.Rows.boot_type (pa_cons (pv 0) pa_nil)) (pe_bltn (v := .ty "list") rfl m_list b_list rfl) (nomark _)) (pw_or1 (pt_cmpR op_ne (pe_callB (Fa.lenQ K) (by rfl) m_len PySem.boot_len (pa_cons (pv 0) pa_nil)) (pv 1) (nomark _))))) (pss_one (ps_ret pe_bl)) pss_nil)
  (pss_one (ps_ret (pe_callB (Fa.allQ K rfl) (by rfl) m_all PyProof.Rows.boot_all (pa_cons (pe_lc (own := [("number", 2)]) (g := (gName 2)) (tt := tYes) rfl sc_is_row.nd (Fa.listQ K (pv 0)) (blkOk_by (N := N_is_row) (sc := defScope s_is_row) (by decide +kernel)) (fun _ _ _ _ _ => (pg_name (i := 2) sc_is_row.nd rfl (by first | exact Or.inl rfl | exact Or.inr rfl))) (fun _ _ _ _ _ => pts_nil) (fun _ _ _ _ _ => (pe_and (pe_call G_is_integer (hr.mono (by omega)) (by rfl) g_is_integer F_is_integer.kp b_is_integer .nil pass0 (pa_cons (pv 2) pa_nil)) (pe_one (pe_cmpR op_ge (pv 2) pe_int (nomark _)))))) pa_nil))))), ?_⟩
    refine ⟨_, rfl, _, "list", rfl, .lst (.inl (.inl e)), "list", rfl, rfl, .inr (.inl rfl), _, rfl, iteF ⟨_, rfl, r, _, rfl, .inl (.inl (.inl e)), _, rfl, rfl, _, rfl, iteNe ?_ ?_⟩⟩
    · rw [List.length_map, hL]
    · refine ⟨_, rfl, r, rfl, ⟨_, .inl (.inl e)⟩, fun D nD => ?_⟩
      refine lc_it (walk_list (xs := l.map V.int)) (fun j H2 => Same H H2 ∧ H2 D = some (.lst (yesV j))) ?_ ?_ ?_ ?_
      · exact ⟨same_new nD, upd_same⟩
      · rintro j H2 _ ⟨s2, _⟩
        exact .inl (.inl (s2 _ _ e))
      · rintro j u _ H2 hj ⟨s2, eD⟩ ⟨rfl, eu⟩
        obtain ⟨d, ed, rfl⟩ := int_at eu
        rw [List.length_map] at hj
        have dn : 0 ≤ d := nn d (List.mem_of_getElem? ed)
        refine ⟨rfl, yes_if ⟨_, rfl, d, rfl, _, rfl, iteT ⟨_, rfl, _, _, rfl, rfl, _, eD, ?_, ?_, ?_⟩⟩⟩
        · rw [yes_len]
          exact small1000 (by omega)
        · intro c o z
          rw [upd_ne (ne_of_none z nD)]
          exact s2 _ _ z
        · rw [upd_same, yes_snoc (decide_eq_true dn)]
      · rintro H2 ⟨s2, eD⟩
        refine ⟨D, _, rfl, .inl (.inl eD), ?_⟩
        rw [yes_all]
        exact q _ s2
theorem ok_issh {f fR : Addr} {fd fdR : FuncData} {k : Nat} (F : Fun K "is_sheet" "is_sheet" s_is_sheet f fd) (F_is_row : Fun K "is_row" "is_row" s_is_row fR fdR) (G_is_row : FnOk P w K mg base CX0 k fR fdR ["thing", "length"] spRow) (b_is_row : Binds K fdR ["thing", "length"] [])
    (g_is_row : mg "is_row" = some (.ref fR)) {tk : Tok} (g_MOST_DAYS : mg "MOST_DAYS" = some (.int 30 tk)) (m_type : mg "type" = none) (m_list : mg "list" = none) (m_len : mg "len" = none) (m_all : mg "all" = none) (m_min : mg "min" = none) (m_enumerate : mg "enumerate" = none) : FnOk P w K mg base CX0 (k + 1) f fd ["thing"] spIsSh := by
  refine F.ok sc_is_sheet (fun vs H Q E h => ?_) (fun cdv A outer s H vs Q E hr h => ?_)
  · obtain ⟨g, _, _, _, rfl, _⟩ := h
    rfl
  · obtain ⟨g, n, m, f, rfl, ⟨⟨rows, G⟩, hf⟩, q⟩ := h
    refine ⟨_, (pss_cons (ps_if (PW.pt (pw_or (pt_cmpR Fa.op_neTs (pe_callTy (Fa.tyQ K) (by rfl) m_type PyProof.Rows.boot_type (pa_cons (pv 0) pa_nil)) (pe_bltn (v := .ty "list") rfl m_list b_list rfl) (nomark _)) (pw_or1 (pt_not (pt_chain op_le op_le pe_int (pe_callB (Fa.lenQ K) (by rfl) m_len PySem.boot_len (pa_cons (pv 0) pa_nil)) (pe_glob (v := .int 30) rfl g_MOST_DAYS ⟨_, rfl⟩)))))) (pss_one (ps_ret pe_bl)) pss_nil)
  (pss_cons (ps_set (i := 1) sc_is_sheet.nd rfl (by first | exact Or.inl rfl | exact Or.inr rfl) (pe_ix (Fa.ixL K) (pv 0) (pe_un un_neg pe_int) (fun _ _ => rfl)))
  (pss_cons (ps_if (PW.pt (pw_or (pt_cmpR Fa.op_neTs (pe_callTy (Fa.tyQ K) (by rfl) m_type PyProof.Rows.boot_type (pa_cons (pv 1) pa_nil)) (pe_bltn (v := .ty "list") rfl m_list b_list rfl) (nomark _)) (pw_or1 (pt_not (pt_chain op_le op_le pe_int (pe_callB (Fa.lenQ K) (by rfl) m_len PySem.boot_len (pa_cons (pv 1) pa_nil)) (pe_callB (Fa.lenQ K) (by rfl) m_len PySem.boot_len (pa_cons (pv 0) pa_nil))))))) (pss_one (ps_ret pe_bl)) pss_nil)
  (pss_cons (ps_set (i := 2) sc_is_sheet.nd rfl (by first | exact Or.inl rfl | exact Or.inr rfl) (pe_callB (Fa.lenQ K) (by rfl) m_len PySem.boot_len (pa_cons (pv 1) pa_nil)))
  (pss_one (ps_ret (pe_callB (Fa.allQ K rfl) (by rfl) m_all PyProof.Rows.boot_all (pa_cons (pe_lc (own := [("day", 3), ("row", 4)]) (g := (gTup K 2 (gCons (gName 3) (gCons (gName 4) gNil)))) (tt := tYes) rfl sc_is_sheet.nd (pi_enum (by rfl) m_enumerate (pa_cons (pv 0) pa_nil)) (blkOk_by (N := N_is_sheet) (sc := defScope s_is_sheet) (by decide +kernel)) (fun _ _ _ _ _ => (Fa.pgTQ K rfl (pgs_cons (pg_name (i := 3) sc_is_sheet.nd rfl (by first | exact Or.inl rfl | exact Or.inr rfl)) (pgs_cons (pg_name (i := 4) sc_is_sheet.nd rfl (by first | exact Or.inl rfl | exact Or.inr rfl)) pgs_nil)))) (fun _ _ _ _ _ => pts_nil) (fun _ _ _ _ _ => (pe_call G_is_row (hr.mono (by omega)) (by rfl) g_is_row F_is_row.kp b_is_row .nil pass0 (pa_cons (pv 4) (pa_cons (pe_callB (call_min2 rfl) (by rfl) m_min PyProof.Rows.boot_min (pa_cons (pe_op op_add (pv 3) pe_int) (pa_cons (pv 2) pa_nil))) pa_nil))))) pa_nil)))))))), ?_⟩
    have n1 := hf.n1
    have n30 := hf.n30
    have w1 := hf.w1
    have wn := hf.wn
    have rl : (rows.map V.ref).length = n := by rw [List.length_map, G.cnt]
    obtain ⟨r, ea, er, hr'⟩ := G.last n1
    have ll : ((f (n - 1)).map V.int).length = m := by rw [List.length_map, hf.last]
    refine ⟨_, rfl, _, "list", rfl, .lst (.inl (.inl G.top)), "list", rfl, rfl, .inr (.inl rfl), _, rfl, iteF ⟨_, rfl, g, _, rfl, .inl (.inl (.inl G.top)), _, _, rfl, rfl, _, rfl, iteDS (by rw [rl]; omega) ⟨_, _, rfl, rfl, _, rfl, iteN0 (decide_eq_true (by rw [rl]; omega)) ?_⟩⟩⟩
    refine ⟨_, rfl, 1, rfl, g, _, _, _, rfl, rfl, .inl (.inl G.top), ea, ?_⟩
    refine ⟨_, rfl, _, "list", rfl, .lst (.inl (.inl hr')), "list", rfl, rfl, .inr (.inl rfl), _, rfl, iteF ⟨_, rfl, r, _, rfl, .inl (.inl (.inl hr')), _, _, rfl, rfl, _, rfl, iteDS (by rw [ll]; omega) ⟨_, rfl, g, _, rfl, .inl (.inl (.inl G.top)), _, _, rfl, rfl, _, rfl, iteN0 (decide_eq_true (by rw [ll, rl]; omega)) ?_⟩⟩⟩
    refine ⟨_, rfl, r, _, rfl, .inl (.inl (.inl hr')), ?_⟩
    refine ⟨_, rfl, g, _, rfl, .inl (.inl G.top), fun D nD => ?_⟩
    refine lc_it (walk_enum (xs := rows.map V.ref)) (fun i H2 => Same H H2 ∧ H2 D = some (.lst (yesV i))) ?_ ?_ ?_ ?_
    · exact ⟨same_new nD, upd_same⟩
    · rintro i H2 _ ⟨s2, _⟩
      exact .inl (.inl (s2 _ _ G.top))
    · rintro i v H2 _ hi ⟨s2, eD⟩ ⟨T, x, y, rfl, nT, rfl, ex, ey⟩
      rw [rl] at hi
      obtain ⟨r, er, hr', hrow⟩ := G.get (s := i) hi
      have ey : (rows.map V.ref)[i]? = some y := ey
      rw [List.getElem?_map, er] at ey
      cases ey
      cases ex
      have s3 : Same H (upd H2 T (.tup [.int (i : Nat), .ref r])) := s2.trans (same_new nT)
      have eD3 := (same_new (o := .tup [.int (i : Nat), .ref r]) nT) _ _ eD
      refine ⟨T, _, rfl, .inl (.inl upd_same), rfl, _, _, rfl, _, _, rfl, rfl, rfl, yes_if ?_⟩
      refine ⟨_, rfl, _, rfl, _, _, rfl, rfl, _, rfl, _, _, rfl, r, f i, _, rfl, ?_, s3 _ _ hrow, ?_, hf.nn i hi, fun H4 s4 => ?_⟩
      · rw [hf.len i hi, ll]
        split <;> omega
      · rw [hf.len i hi]
        omega
      · refine ⟨_, s4 _ _ eD3, ?_, ?_, ?_⟩
        · rw [yes_len]
          exact small1000 (by omega)
        · intro c o z
          rw [upd_ne (ne_of_none z nD)]
          exact s4 _ _ (s3 _ _ z)
        · rw [upd_same, yes_snoc rfl]
    · rintro H2 ⟨s2, eD⟩
      refine ⟨D, _, rfl, .inl (.inl eD), ?_⟩
      rw [yes_all]
      exact q _ s2
end
end K21

namespace K21
open PySem PySem.Spec PyProof.Rows L2 Fa
abbrev s_is_between : Stmt := topS 13
abbrev N_is_between : List Str := ["thing", "least", "most"]
theorem sc_is_between : FnScope N_is_between ["thing", "least", "most"] (defScope s_is_between) := ⟨rfl, rfl, rfl, by decide +kernel, rfl, by decide +kernel, by decide +kernel⟩
section
variable {P : Program} {w : World} {K : PySem.W.Frag} {mg : Str → Option Value} {base : Heap}
def spBetw : Sp := fun vs H Q _ => ∃ i a b : Int, vs = [.int i, .int a, .int b] ∧ a ≤ i ∧ i ≤ b ∧ Q (.bl true) H
theorem ok_betw {f fI : Addr} {fd fdI : FuncData} {k : Nat} (F : Fun K "is_between" "is_between" s_is_between f fd) (F_is_integer : Fun K "is_integer" "is_integer" s_is_integer fI fdI) (G_is_integer : FnOk P w K mg base CX0 k fI fdI ["thing"] spIsInt) (b_is_integer : Binds K fdI ["thing"] [])
    (g_is_integer : mg "is_integer" = some (.ref fI)) : FnOk P w K mg base CX0 (k + 1) f fd ["thing", "least", "most"] spBetw := by
  refine F.ok sc_is_between (fun vs H Q E h => ?_) (fun cdv A outer s H vs Q E hr h => ?_)
  · obtain ⟨i, a, b, rfl, _⟩ := h
    rfl
  · obtain ⟨i, a, b, rfl, h1, h2, q⟩ := h
    refine ⟨_, (pss_one (ps_ret (pe_and (pe_call G_is_integer (hr.mono (by omega)) (by rfl) g_is_integer F_is_integer.kp b_is_integer .nil pass0 (pa_cons (pv 0) pa_nil)) (pe_one (pe_chain op_le op_le (pv 1) (pv 0) (pv 2)))))), ?_⟩
    exact ⟨_, rfl, i, rfl, _, rfl, iteT ⟨_, rfl, _, rfl, _, _, rfl, rfl, _, rfl, iteDS h1 ⟨_, rfl, _, _, rfl, rfl, by
      show Q (V.bl (decide (i ≤ b))) H
      rw [decide_eq_true h2]
      exact q⟩⟩⟩
end
end K21

namespace K21
open PySem PySem.Spec PyProof.Rows L2 Fa
abbrev s_check_sheet : Stmt := topS 19
abbrev N_check_sheet : List Str := ["sheet"]
theorem sc_check_sheet : FnScope N_check_sheet ["sheet"] (defScope s_check_sheet) := ⟨rfl, rfl, rfl, by decide +kernel, rfl, by decide +kernel, by decide +kernel⟩
abbrev s_told_number : Stmt := topS 28
abbrev N_told_number : List Str := ["sheet", "first", "last"]
theorem sc_told_number : FnScope N_told_number ["sheet", "first", "last"] (defScope s_told_number) := ⟨rfl, rfl, rfl, by decide +kernel, rfl, by decide +kernel, by decide +kernel⟩
section
variable {P : Program} {w : World} {K : PySem.W.Frag} {mg : Str → Option Value} {base : Heap}
def spCkSh : Sp := fun vs H Q _ => ∃ (g : Addr) (n w : Nat) (f : Nat → List Int), vs = [.ref g] ∧ ShAt H g n w f ∧ ∀ H', Same H H' → Q .non H'
/-- the number of a told stretch, 0 for none -/
def uu (f : Nat → List Int) (a b : Int) : Int := if a ≤ b then (f b.toNat).getD (b - a).toNat 0 else 0
/-- within what is told -/
def Told (n w : Nat) (a b : Int) : Prop := a ≤ b → 0 ≤ a ∧ b < n ∧ b - a < w
def spU : Sp := fun vs H Q _ => ∃ (g : Addr) (n w : Nat) (f : Nat → List Int) (a b : Int), vs = [.ref g, .int a, .int b] ∧ ShAt H g n w f ∧ Told n w a b ∧ Q (.int (uu f a b)) H
theorem uu_get {n w : Nat} {f : Nat → List Int} (hf : Shf n w f) {a b : Int} (h : a ≤ b) (t : Told n w a b) : (f b.toNat)[(b - a).toNat]? = some (uu f a b) := by
  obtain ⟨t1, t2, t3⟩ := t h
  have l := hf.len b.toNat (by omega)
  have lt : (b - a).toNat < (f b.toNat).length := by omega
  unfold uu
  rw [if_pos h, List.getD_eq_getElem?_getD, List.getElem?_eq_getElem lt]
  rfl
theorem ok_cksh {f fG : Addr} {fd fdG : FuncData} {k : Nat} (F : Fun K "check_sheet" "check_sheet" s_check_sheet f fd) (F_is_sheet : Fun K "is_sheet" "is_sheet" s_is_sheet fG fdG) (G_is_sheet : FnOk P w K mg base CX0 k fG fdG ["thing"] spIsSh) (b_is_sheet : Binds K fdG ["thing"] [])
    (g_is_sheet : mg "is_sheet" = some (.ref fG)) : FnOk P w K mg base CX0 (k + 1) f fd ["sheet"] spCkSh := by
  refine F.ok sc_check_sheet (fun vs H Q E h => ?_) (fun cdv A outer s H vs Q E hr h => ?_)
  · obtain ⟨g, _, _, _, rfl, _⟩ := h
    rfl
  · obtain ⟨g, n, m, f, rfl, hS, q⟩ := h
    refine ⟨_, (pss_one (ps_if (pt_not (pt_val (pe_call G_is_sheet (hr.mono (by omega)) (by rfl) g_is_sheet F_is_sheet.kp b_is_sheet .nil pass0 (pa_cons (pv 0) pa_nil)))) Fa.pss_never pss_nil)), ?_⟩
    exact ⟨_, rfl, g, n, m, f, rfl, hS, fun H' s' => ⟨_, rfl, iteN0 rfl (q H' s')⟩⟩
theorem ok_toldU {f : Addr} {fd : FuncData} {k : Nat} (F : Fun K "told_number" "told_number" s_told_number f fd) : FnOk P w K mg base CX0 (k + 1) f fd ["sheet", "first", "last"] spU := by
  refine F.ok sc_told_number (fun vs H Q E h => ?_) (fun cdv A outer s H vs Q E hr h => ?_)
  · obtain ⟨g, _, _, _, _, _, rfl, _⟩ := h
    rfl
  · obtain ⟨g, n, m, f, a, b, rfl, ⟨⟨rows, G⟩, hS⟩, ht, q⟩ := h
    refine ⟨_, (pss_cons (ps_if (pt_cmpR op_gt (pv 1) (pv 2) (nomark _)) (pss_one (ps_ret pe_int)) pss_nil)
  (pss_one (ps_ret (pe_ix (Fa.ixL K) (pe_ix (Fa.ixL K) (pv 0) (pv 2) (fun _ _ => rfl)) (pe_op op_sub (pv 2) (pv 1)) (fun _ _ => rfl))))), ?_⟩
    by_cases ab : a ≤ b
    · obtain ⟨t1, t2, t3⟩ := ht ab
      obtain ⟨r, er, _, hrow⟩ := G.get (s := b.toNat) (by omega)
      have at1 : atI (rows.map V.ref) b = some (.ref r) := atI_int (by omega) (by rw [List.getElem?_map, er]; rfl)
      have at2 : atI ((f b.toNat).map V.int) (b - a) = some (.int (uu f a b)) := atI_int (by omega) (by rw [List.getElem?_map, uu_get hS ab ht]; rfl)
      exact ⟨_, rfl, _, rfl, _, _, rfl, rfl, _, rfl, iteDF (by omega) ⟨_, rfl, _, rfl, g, _, _, _, rfl, rfl, .inl (.inl G.top), at1, _, rfl, _, rfl, _, _, rfl, rfl, r, _, _, _, rfl, rfl, .inl (.inl hrow), at2, q⟩⟩
    · refine ⟨_, rfl, _, rfl, _, _, rfl, rfl, _, rfl, iteDS (by omega) ?_⟩
      unfold uu at q
      rw [if_neg ab] at q
      exact q
end
end K21

namespace K21
open PySem PySem.Spec PyProof.Rows L2 Fa

section
variable {P : Program} {w : World} {K : PySem.W.Frag} {mg : Str → Option Value} {base : Heap}
def spCkDay : Sp := fun vs H Q _ => ∃ (g : Addr) (n w : Nat) (f : Nat → List Int) (d : Int), vs = [.ref g, .int d] ∧ ShAt H g n w f ∧ 0 ≤ d ∧ d < n ∧ Q .non H
def spCkAp : Sp := fun vs H Q _ => ∃ (g : Addr) (n w : Nat) (f : Nat → List Int) (a b c : Int), vs = [.ref g, .int a, .int b, .int c] ∧ ShAt H g n w f ∧ 0 ≤ a ∧ a < n ∧ 0 ≤ b ∧ b < n ∧ c ≤ b - a ∧ Q .non H
end
end K21

namespace K21
open PySem PySem.Spec PyProof.Rows L2 Fa
abbrev s_is_pattern : Stmt := topS 16
abbrev N_is_pattern : List Str := ["thing", "count", "day", "at"]
theorem sc_is_pattern : FnScope N_is_pattern ["thing", "count"] (defScope s_is_pattern) := ⟨rfl, rfl, rfl, by decide +kernel, rfl, by decide +kernel, by decide +kernel⟩
abbrev s_is_group : Stmt := topS 17
abbrev N_is_group : List Str := ["thing", "count", "pattern", "many"]
theorem sc_is_group : FnScope N_is_group ["thing", "count"] (defScope s_is_group) := ⟨rfl, rfl, rfl, by decide +kernel, rfl, by decide +kernel, by decide +kernel⟩
abbrev s_is_family_below : Stmt := topS 18
abbrev N_is_family_below : List Str := ["thing", "count", "previous", "group"]
theorem sc_is_family_below : FnScope N_is_family_below ["thing", "count"] (defScope s_is_family_below) := ⟨rfl, rfl, rfl, by decide +kernel, rfl, by decide +kernel, by decide +kernel⟩
abbrev s_check_family : Stmt := topS 20
abbrev N_check_family : List Str := ["family", "count"]
theorem sc_check_family : FnScope N_check_family ["family", "count"] (defScope s_check_family) := ⟨rfl, rfl, rfl, by decide +kernel, rfl, by decide +kernel, by decide +kernel⟩
abbrev s_check_count : Stmt := topS 22
abbrev N_check_count : List Str := ["count"]
theorem sc_check_count : FnScope N_check_count ["count"] (defScope s_check_count) := ⟨rfl, rfl, rfl, by decide +kernel, rfl, by decide +kernel, by decide +kernel⟩
abbrev s_check_width : Stmt := topS 23
abbrev N_check_width : List Str := ["width", "most"]
theorem sc_check_width : FnScope N_check_width ["width", "most"] (defScope s_check_width) := ⟨rfl, rfl, rfl, by decide +kernel, rfl, by decide +kernel, by decide +kernel⟩
section
variable {P : Program} {w : World} {K : PySem.W.Frag} {mg : Str → Option Value} {base : Heap}
def spPat : Sp := fun vs H Q _ => ∃ (t : Addr) (ds : List Int) (n : Int), vs = [.ref t, .int n] ∧ H t = some (.tup (ds.map V.int)) ∧ Pat n ds ∧ n ≤ 30 ∧ ∀ H', Same H H' → Q (.bl true) H'
def spGroup : Sp := fun vs H Q _ => ∃ (x : V) (p : List Int × Int) (n : Int), vs = [x, .int n] ∧ FmAt H x p ∧ Pat n p.1 ∧ 1 ≤ p.2 ∧ n ≤ 30 ∧ ∀ H', Same H H' → Q (.bl true) H'
/-- a family of the program's: days below n -/
def FmOk (n : Int) (fam : Fm) : Prop := (∃ c, Fam n c fam) ∧ fam.length ≤ 2000 ∧ n ≤ 30
def spFamB : Sp := fun vs H Q _ => ∃ (a : Addr) (fam : Fm) (n : Int), vs = [.ref a, .int n] ∧ FamAt H a fam ∧ FmOk n fam ∧ ∀ H', Same H H' → Q (.bl true) H'
def spCkFam : Sp := fun vs H Q _ => ∃ (a : Addr) (fam : Fm) (n : Int), vs = [.ref a, .int n] ∧ FamAt H a fam ∧ FmOk n fam ∧ ∀ H', Same H H' → Q .non H'
def spCkCount : Sp := fun vs H Q _ => ∃ n : Int, vs = [.int n] ∧ 1 ≤ n ∧ n ≤ 30 ∧ Q .non H
def spCkWidth : Sp := fun vs H Q _ => ∃ n m : Int, vs = [.int n, .int m] ∧ 1 ≤ n ∧ n ≤ m ∧ Q .non H
theorem ok_pat {f fB : Addr} {fd fdB : FuncData} {k : Nat} (F : Fun K "is_pattern" "is_pattern" s_is_pattern f fd) (F_is_between : Fun K "is_between" "is_between" s_is_between fB fdB) (G_is_between : FnOk P w K mg base CX0 k fB fdB ["thing", "least", "most"] spBetw) (b_is_between : Binds K fdB ["thing", "least", "most"] [])
    (g_is_between : mg "is_between" = some (.ref fB)) (m_type : mg "type" = none) (m_tuple : mg "tuple" = none) (m_len : mg "len" = none) (m_all : mg "all" = none) (m_range : mg "range" = none) : FnOk P w K mg base CX0 (k + 1) f fd ["thing", "count"] spPat := by
  refine F.ok sc_is_pattern (fun vs H Q E h => ?_) (fun cdv A outer s H vs Q E hr h => ?_)
  · obtain ⟨t, ds, n, rfl, _⟩ := h
    rfl
  · obtain ⟨t, ds, n, rfl, e, hp, hn, q⟩ := h
    refine ⟨_, (pss_cons (ps_if (PW.pt (pw_or (pt_cmpR Fa.op_neTs (pe_callTy (Fa.tyQ K) (by rfl) m_type PyProof.Rows.boot_type (pa_cons (pv 0) pa_nil)) (pe_bltn (v := .ty "tuple") rfl m_tuple b_tuple rfl) (nomark _)) (pw_or1 (pt_cmpR op_eq (pe_callB (Fa.lenQ K) (by rfl) m_len PySem.boot_len (pa_cons (pv 0) pa_nil)) pe_int (nomark _))))) (pss_one (ps_ret pe_bl)) pss_nil)
  (pss_cons (ps_if (pt_not (pt_val (pe_callB (Fa.allQ K rfl) (by rfl) m_all PyProof.Rows.boot_all (pa_cons (pe_lc (own := [("day", 2)]) (g := (gName 2)) (tt := tYes) rfl sc_is_pattern.nd (Fa.tupIQ K (pv 0)) (blkOk_by (N := N_is_pattern) (sc := defScope s_is_pattern) (by decide +kernel)) (fun _ _ _ _ _ => (pg_name (i := 2) sc_is_pattern.nd rfl (by first | exact Or.inl rfl | exact Or.inr rfl))) (fun _ _ _ _ _ => pts_nil) (fun _ _ _ _ _ => (pe_call G_is_between (hr.mono (by omega)) (by rfl) g_is_between F_is_between.kp b_is_between .nil pass0 (pa_cons (pv 2) (pa_cons pe_int (pa_cons (pe_op op_sub (pv 1) pe_int) pa_nil)))))) pa_nil)))) (pss_one (ps_ret pe_bl)) pss_nil)
  (pss_one (ps_ret (pe_callB (Fa.allQ K rfl) (by rfl) m_all PyProof.Rows.boot_all (pa_cons (pe_lc (own := [("at", 3)]) (g := (gName 3)) (tt := tYes) rfl sc_is_pattern.nd (pi_range1 (by rfl) m_range (pa_cons (pe_op op_sub (pe_callB (Fa.lenQ K) (by rfl) m_len PySem.boot_len (pa_cons (pv 0) pa_nil)) pe_int) pa_nil)) (blkOk_by (N := N_is_pattern) (sc := defScope s_is_pattern) (by decide +kernel)) (fun _ _ _ _ _ => (pg_name (i := 3) sc_is_pattern.nd rfl (by first | exact Or.inl rfl | exact Or.inr rfl))) (fun _ _ _ _ _ => pts_nil) (fun _ _ _ _ _ => (pe_cmpR op_lt (pe_ix (Fa.ixT K) (pv 0) (pv 3) (fun _ _ => rfl)) (pe_ix (Fa.ixT K) (pv 0) (pe_op op_add (pv 3) pe_int) (fun _ _ => rfl)) (nomark _)))) pa_nil)))))), ?_⟩
    have dl : (ds.map V.int).length = ds.length := List.length_map _
    have d1 : ds.length ≠ 0 := fun z => hp.ne (List.length_eq_zero_iff.mp z)
    have d30 : ds.length ≤ 30 := by
      have := hp.len
      omega
    refine ⟨_, rfl, _, "tuple", rfl, .tup (.inl (.inl e)), "tuple", rfl, rfl, .inr (.inr rfl), _, rfl, iteF ⟨_, rfl, t, _, rfl, .inr (.inl (.inl e)), rfl, _, rfl, iteDF (fun z => ?_) ?_⟩⟩
    · have := V.int.inj z
      omega
    refine ⟨_, rfl, t, rfl, ⟨_, .inl (.inl e)⟩, fun D nD => ?_⟩
    refine lc_it (walk_tup (xs := ds.map V.int)) (fun j H2 => Same H H2 ∧ H2 D = some (.lst (yesV j))) ?_ ?_ ?_ ?_
    · exact ⟨same_new nD, upd_same⟩
    · rintro j H2 _ ⟨s2, _⟩
      exact .inl (.inl (s2 _ _ e))
    · rintro j u _ H2 hj ⟨s2, eD⟩ ⟨rfl, eu⟩
      obtain ⟨d, ed, rfl⟩ := int_at eu
      rw [dl] at hj
      have bd := hp.bd d (List.mem_of_getElem? ed)
      refine ⟨rfl, yes_if ⟨_, rfl, _, rfl, _, _, rfl, rfl, d, 0, n - 1, rfl, bd.1, by omega, _, eD, ?_, ?_, ?_⟩⟩
      · rw [yes_len]
        exact small1000 (by omega)
      · intro c o z
        rw [upd_ne (ne_of_none z nD)]
        exact s2 _ _ z
      · rw [upd_same, yes_snoc rfl]
    · rintro H2 ⟨s2, eD⟩
      have e2 := s2 _ _ e
      refine ⟨D, _, rfl, .inl (.inl eD), _, rfl, iteN0 (yes_all _) ?_⟩
      refine ⟨_, rfl, t, _, rfl, .inr (.inl (.inl e2)), _, _, rfl, rfl, _, rfl, by omega, by omega, fun D2 nD2 => ?_⟩
      refine lc_range (lo := 0) (fun j H3 => Same H2 H3 ∧ H3 D2 = some (.lst (yesV j))) ?_ ?_ ?_
      · exact ⟨same_new nD2, upd_same⟩
      · rintro j H3 hj ⟨s3, eD2⟩
        rw [dl] at hj
        have j1 : j < ds.length := by omega
        have j2 : j + 1 < ds.length := by omega
        have lt := List.pairwise_iff_getElem.mp hp.asc j (j + 1) j1 j2 (Nat.lt_succ_self j)
        have at1 : atI (ds.map V.int) ((0 : Int) + (j : Int)) = some (.int ds[j]) := atI_int (by omega) (by rw [show ((0 : Int) + (j : Int)).toNat = j by omega, List.getElem?_map, List.getElem?_eq_getElem j1]; rfl)
        have at2 : atI (ds.map V.int) ((0 : Int) + (j : Int) + 1) = some (.int ds[j + 1]) := atI_int (by omega) (by rw [show ((0 : Int) + (j : Int) + 1).toNat = j + 1 by omega, List.getElem?_map, List.getElem?_eq_getElem j2]; rfl)
        refine ⟨rfl, yes_if ⟨_, rfl, _, rfl, t, _, _, _, rfl, rfl, .inl (.inl (s3 _ _ e2)), at1, _, rfl, _, rfl, _, _, rfl, rfl, t, _, _, _, rfl, rfl, .inl (.inl (s3 _ _ e2)), at2, _, _, rfl, rfl, _, eD2, ?_, ?_, ?_⟩⟩
        · rw [yes_len]
          exact small1000 (by omega)
        · intro c o z
          rw [upd_ne (ne_of_none z nD2)]
          exact s3 _ _ z
        · rw [upd_same, yes_snoc (decide_eq_true lt)]
      · rintro H3 ⟨s3, eD2⟩
        refine ⟨D2, _, rfl, .inl (.inl eD2), ?_⟩
        rw [yes_all]
        exact q _ (s2.trans s3)
theorem ok_group {f fP fI : Addr} {fd fdP fdI : FuncData} {k : Nat} (F : Fun K "is_group" "is_group" s_is_group f fd) (F_is_pattern : Fun K "is_pattern" "is_pattern" s_is_pattern fP fdP) (G_is_pattern : FnOk P w K mg base CX0 k fP fdP ["thing", "count"] spPat) (b_is_pattern : Binds K fdP ["thing", "count"] [])
    (g_is_pattern : mg "is_pattern" = some (.ref fP)) (F_is_integer : Fun K "is_integer" "is_integer" s_is_integer fI fdI) (G_is_integer : FnOk P w K mg base CX0 k fI fdI ["thing"] spIsInt) (b_is_integer : Binds K fdI ["thing"] [])
    (g_is_integer : mg "is_integer" = some (.ref fI)) (m_type : mg "type" = none) (m_tuple : mg "tuple" = none) (m_len : mg "len" = none) : FnOk P w K mg base CX0 (k + 1) f fd ["thing", "count"] spGroup := by
  refine F.ok sc_is_group (fun vs H Q E h => ?_) (fun cdv A outer s H vs Q E hr h => ?_)
  · obtain ⟨t, ds, n, rfl, _⟩ := h
    rfl
  · obtain ⟨x, p, n, rfl, ⟨t, b, rfl, h1, h2⟩, hp, hm, hn, q⟩ := h
    refine ⟨_, (pss_cons (ps_if (PW.pt (pw_or (pt_cmpR Fa.op_neTs (pe_callTy (Fa.tyQ K) (by rfl) m_type PyProof.Rows.boot_type (pa_cons (pv 0) pa_nil)) (pe_bltn (v := .ty "tuple") rfl m_tuple b_tuple rfl) (nomark _)) (pw_or1 (pt_cmpR op_ne (pe_callB (Fa.lenQ K) (by rfl) m_len PySem.boot_len (pa_cons (pv 0) pa_nil)) pe_int (nomark _))))) (pss_one (ps_ret pe_bl)) pss_nil)
  (pss_cons (ps_asg (pv 0) (pg_tup rfl (pgs_cons (pg_name (i := 2) sc_is_group.nd rfl (by first | exact Or.inl rfl | exact Or.inr rfl)) (pgs_cons (pg_name (i := 3) sc_is_group.nd rfl (by first | exact Or.inl rfl | exact Or.inr rfl)) pgs_nil))))
  (pss_one (ps_ret (pe_and (pe_call G_is_pattern (hr.mono (by omega)) (by rfl) g_is_pattern F_is_pattern.kp b_is_pattern .nil pass0 (pa_cons (pv 2) (pa_cons (pv 1) pa_nil))) (pe_and (pe_call G_is_integer (hr.mono (by omega)) (by rfl) g_is_integer F_is_integer.kp b_is_integer .nil pass0 (pa_cons (pv 3) pa_nil)) (pe_one (pe_cmpR op_ge (pv 3) pe_int (nomark _))))))))), ?_⟩
    refine ⟨_, rfl, _, "tuple", rfl, .tup (.inl (.inl h1)), "tuple", rfl, rfl, .inr (.inr rfl), _, rfl, iteF ⟨_, rfl, t, _, rfl, .inr (.inl (.inl h1)), rfl, _, rfl, iteNe rfl ?_⟩⟩
    refine ⟨_, rfl, t, _, rfl, .inl (.inl h1), rfl, _, _, rfl, _, _, rfl, rfl, ?_⟩
    refine ⟨_, rfl, _, rfl, b, p.1, n, rfl, h2, hp, hn, fun H' s' => ⟨_, rfl, iteT ⟨_, rfl, p.2, rfl, _, rfl, iteT ⟨_, rfl, _, _, rfl, rfl, ?_⟩⟩⟩⟩
    show Q (V.bl (decide (1 ≤ p.2))) H'
    rw [decide_eq_true hm]
    exact q H' s'
theorem ok_famB {f fG : Addr} {fd fdG : FuncData} {k : Nat} (F : Fun K "is_family_below" "is_family_below" s_is_family_below f fd) (F_is_group : Fun K "is_group" "is_group" s_is_group fG fdG) (G_is_group : FnOk P w K mg base CX0 k fG fdG ["thing", "count"] spGroup) (b_is_group : Binds K fdG ["thing", "count"] [])
    (g_is_group : mg "is_group" = some (.ref fG)) {tk : Tok} (g_MOST_GROUPS : mg "MOST_GROUPS" = some (.int 2000 tk)) (m_type : mg "type" = none) (m_list : mg "list" = none) (m_len : mg "len" = none) : FnOk P w K mg base CX0 (k + 1) f fd ["thing", "count"] spFamB := by
  refine F.ok sc_is_family_below (fun vs H Q E h => ?_) (fun cdv A outer s H vs Q E hr h => ?_)
  · obtain ⟨t, ds, n, rfl, _⟩ := h
    rfl
  · obtain ⟨a, fam, n, rfl, ⟨xs, ea, hP⟩, ⟨⟨c, hf⟩, hl, hn⟩, q⟩ := h
    refine ⟨_, (pss_cons (ps_if (PW.pt (pw_or (pt_cmpR Fa.op_neTs (pe_callTy (Fa.tyQ K) (by rfl) m_type PyProof.Rows.boot_type (pa_cons (pv 0) pa_nil)) (pe_bltn (v := .ty "list") rfl m_list b_list rfl) (nomark _)) (pw_or1 (pt_cmpR op_gt (pe_callB (Fa.lenQ K) (by rfl) m_len PySem.boot_len (pa_cons (pv 0) pa_nil)) (pe_glob (v := .int 2000) rfl g_MOST_GROUPS ⟨_, rfl⟩) (nomark _))))) (pss_one (ps_ret pe_bl)) pss_nil)
  (pss_cons (ps_set (i := 2) sc_is_family_below.nd rfl (by first | exact Or.inl rfl | exact Or.inr rfl) (pe_tup pa_nil))
  (pss_cons (ps_for PassesOwn.never rfl (Fa.listQ K (pv 0)) (pg_name (i := 3) sc_is_family_below.nd rfl (by first | exact Or.inl rfl | exact Or.inr rfl)) (pss_cons (ps_if (PW.pt (pw_or (pt_not (pt_val (pe_call G_is_group (hr.mono (by omega)) (by rfl) g_is_group F_is_group.kp b_is_group .nil pass0 (pa_cons (pv 3) (pa_cons (pv 1) pa_nil))))) (pw_or1 (pt_not (pt_cmpR (Fa.ltTQ K (Nat.lt_of_succ_lt (hu_of hr))) (pv 2) (pe_ix (Fa.ixT K) (pv 3) pe_int (fun _ _ => rfl)) (nomark _)))))) (pss_one (ps_ret pe_bl)) pss_nil)
  (pss_one (ps_set (i := 2) sc_is_family_below.nd rfl (by first | exact Or.inl rfl | exact Or.inr rfl) (pe_ix (Fa.ixT K) (pv 3) pe_int (fun _ _ => rfl))))))
  (pss_one (ps_ret pe_bl))))), ?_⟩
    have xl : xs.length = fam.length := hP.length
    refine ⟨_, rfl, _, "list", rfl, .lst (.inl (.inl ea)), "list", rfl, rfl, .inr (.inl rfl), _, rfl, iteF ⟨_, rfl, a, _, rfl, .inl (.inl (.inl ea)), _, _, rfl, rfl, _, rfl, iteDF (by omega) ?_⟩⟩
    refine ⟨Nat.zero_le _, fun p0 np0 => ?_⟩
    have s0 : Same H (upd H p0 (.tup [])) := same_new np0
    refine ⟨_, rfl, a, rfl, ⟨_, .inl (.inl (s0 _ _ ea))⟩, ?_⟩
    refine for_it (walk_list (xs := xs)) (fun i σ H' => Same H H' ∧ ∃ pv pds gx, σ = [some (.ref a), some (.int n), some (.ref pv), gx] ∧ H' pv = some (.tup (pds.map V.int)) ∧ ∀ q, fam[i]? = some q → HT.lexLt pds q.1 = true) ?_ ?_ ?_ ?_
    · refine ⟨s0, p0, [], none, rfl, upd_same, fun q hq => ?_⟩
      have := (hf.pat q (List.mem_of_getElem? hq)).ne
      cases e : q.1 with
      | nil => exact absurd e this
      | cons d l => rfl
    · rintro i σ H1 _ ⟨s1, _⟩
      exact .inl (.inl (s1 _ _ ea))
    · rintro i v σ _ H1 hi ⟨s1, pv, pds, gx, rfl, epv, hlt⟩ ⟨rfl, ev⟩
      obtain ⟨pt, ep, fm⟩ := paired_at hP ev
      have fm1 := fm.keep (H' := H1) fun b us z => s1 _ _ z
      have hm := List.mem_of_getElem? ep
      have fmc := fm1
      obtain ⟨t, b, rfl, h1, h2⟩ := fmc
      refine ⟨_, rfl, _, rfl, _, pt, n, rfl, fm1, hf.pat pt hm, (hf.bd pt hm).1, hn, fun H2 s2 => ⟨_, rfl, iteN0 rfl ?_⟩⟩
      refine ⟨_, rfl, _, rfl, t, _, _, .ref b, rfl, rfl, .inl (.inl (s2 _ _ h1)), rfl, pv, b, pds, pt.1, rfl, rfl, .inl (.inl (s2 _ _ epv)), .inl (.inl (s2 _ _ h2)), _, rfl, iteN0 (hlt pt ep) ?_⟩
      refine ⟨_, rfl, t, _, _, .ref b, rfl, rfl, .inl (.inl (s2 _ _ h1)), rfl, s1.trans s2, b, pt.1, _, rfl, s2 _ _ h2, fun q hq => ?_⟩
      obtain ⟨i1, e1⟩ := List.getElem?_eq_some_iff.mp ep
      obtain ⟨i2, e2⟩ := List.getElem?_eq_some_iff.mp hq
      have := List.pairwise_iff_getElem.mp hf.asc i (i + 1) i1 i2 (Nat.lt_succ_self i)
      rw [e1, e2] at this
      exact this
    · rintro σ H1 ⟨s1, pv, pds, gx, rfl, epv, hlt⟩
      exact q H1 s1
theorem ok_ckfam {f fG : Addr} {fd fdG : FuncData} {k : Nat} (F : Fun K "check_family" "check_family" s_check_family f fd) (F_is_family_below : Fun K "is_family_below" "is_family_below" s_is_family_below fG fdG) (G_is_family_below : FnOk P w K mg base CX0 k fG fdG ["thing", "count"] spFamB) (b_is_family_below : Binds K fdG ["thing", "count"] [])
    (g_is_family_below : mg "is_family_below" = some (.ref fG)) : FnOk P w K mg base CX0 (k + 1) f fd ["family", "count"] spCkFam := by
  refine F.ok sc_check_family (fun vs H Q E h => ?_) (fun cdv A outer s H vs Q E hr h => ?_)
  · obtain ⟨a, _, _, rfl, _⟩ := h
    rfl
  · obtain ⟨a, fam, n, rfl, hF, hO, q⟩ := h
    refine ⟨_, (pss_one (ps_if (pt_not (pt_val (pe_call G_is_family_below (hr.mono (by omega)) (by rfl) g_is_family_below F_is_family_below.kp b_is_family_below .nil pass0 (pa_cons (pv 0) (pa_cons (pv 1) pa_nil))))) Fa.pss_never pss_nil)), ?_⟩
    exact ⟨_, rfl, _, rfl, a, fam, n, rfl, hF, hO, fun H' s' => ⟨_, rfl, iteN0 rfl (q H' s')⟩⟩
theorem ok_ckcount {f fG : Addr} {fd fdG : FuncData} {k : Nat} (F : Fun K "check_count" "check_count" s_check_count f fd) (F_is_between : Fun K "is_between" "is_between" s_is_between fG fdG) (G_is_between : FnOk P w K mg base CX0 k fG fdG ["thing", "least", "most"] spBetw) (b_is_between : Binds K fdG ["thing", "least", "most"] [])
    (g_is_between : mg "is_between" = some (.ref fG)) {tk : Tok} (g_MOST_DAYS : mg "MOST_DAYS" = some (.int 30 tk)) : FnOk P w K mg base CX0 (k + 1) f fd ["count"] spCkCount := by
  refine F.ok sc_check_count (fun vs H Q E h => ?_) (fun cdv A outer s H vs Q E hr h => ?_)
  · obtain ⟨a, rfl, _⟩ := h
    rfl
  · obtain ⟨n, rfl, h1, h2, q⟩ := h
    refine ⟨_, (pss_one (ps_if (pt_not (pt_val (pe_call G_is_between (hr.mono (by omega)) (by rfl) g_is_between F_is_between.kp b_is_between .nil pass0 (pa_cons (pv 0) (pa_cons pe_int (pa_cons (pe_glob (v := .int 30) rfl g_MOST_DAYS ⟨_, rfl⟩) pa_nil)))))) Fa.pss_never pss_nil)), ?_⟩
    exact ⟨_, rfl, n, 1, 30, rfl, h1, h2, _, rfl, iteN0 rfl q⟩
theorem ok_ckwidth {f fG : Addr} {fd fdG : FuncData} {k : Nat} (F : Fun K "check_width" "check_width" s_check_width f fd) (F_is_between : Fun K "is_between" "is_between" s_is_between fG fdG) (G_is_between : FnOk P w K mg base CX0 k fG fdG ["thing", "least", "most"] spBetw) (b_is_between : Binds K fdG ["thing", "least", "most"] [])
    (g_is_between : mg "is_between" = some (.ref fG)) : FnOk P w K mg base CX0 (k + 1) f fd ["width", "most"] spCkWidth := by
  refine F.ok sc_check_width (fun vs H Q E h => ?_) (fun cdv A outer s H vs Q E hr h => ?_)
  · obtain ⟨a, b, rfl, _⟩ := h
    rfl
  · obtain ⟨n, m, rfl, h1, h2, q⟩ := h
    refine ⟨_, (pss_one (ps_if (pt_not (pt_val (pe_call G_is_between (hr.mono (by omega)) (by rfl) g_is_between F_is_between.kp b_is_between .nil pass0 (pa_cons (pv 0) (pa_cons pe_int (pa_cons (pv 1) pa_nil)))))) Fa.pss_never pss_nil)), ?_⟩
    exact ⟨_, rfl, _, rfl, n, 1, m, rfl, h1, h2, _, rfl, iteN0 rfl q⟩
end
end K21

namespace Fa
open PySem PySem.Spec PyProof.Rows L2
/-- xs[i] op= e of a list: the read -/
def rGetL (K : PySem.W.Frag) : V → V → Hp → VK → Prop := fun o i H Q => ∃ (p : Addr) (xs : List V) (k : Int) (v : V), o = .ref p ∧ i = .int k ∧ SqL K H p xs ∧ 0 ≤ k ∧ atI xs k = some v ∧ Q v H
theorem getL (K : PySem.W.Frag) {X : Cx} (hK : X.K = K := by rfl) : PGet X (rGetL K) := by
  subst hK
  intro pins s σ H o i ov iv Q I ro ri h
  obtain ⟨p, xs, k, v, rfl, rfl, sq, k0, e, q⟩ := h
  cases ro
  obtain ⟨t, rfl⟩ := ri
  obtain ⟨its, rel, pl, small⟩ := I.list sq
  obtain ⟨j, h1, h2, h3, h4, h5⟩ := atI_get e
  obtain ⟨x, ex, rx⟩ := rel.get h2
  have hl := rel.length
  have big := line63
  have kj : k.toNat = j := by
    rw [seqIndex_of k0 h5] at h1
    exact Option.some.inj h1
  exact wpAny_getItem_list (Q := fun r s' => EP X pins σ Q r s') pl.isList k0 (by omega) (by rw [kj]; simpa using ex) ⟨v, H, I, rx, q⟩
theorem isN_int {i : Int} {A B : Prop} (h : A) : if (!decide (V.int i = V.non)) = true then A else B := by
  rw [decide_eq_false (fun z => nomatch z)]
  exact iteT h
theorem isN_non {A B : Prop} (h : B) : if (!decide (V.non = V.non)) = true then A else B := by
  rw [decide_eq_true rfl]
  exact iteF h
theorem inV_ints (l : List Int) (d : Int) : inV (.int d) (l.map V.int) = decide (d ∈ l) := by
  unfold inV
  rw [List.any_map]
  by_cases h : d ∈ l
  · rw [decide_eq_true h, List.any_eq_true]
    exact ⟨d, h, by show eqV (.int d) (.int d) = true; simp [eqV]⟩
  · rw [decide_eq_false h, List.any_eq_false]
    intro x hx z
    refine h ?_
    have : eqV (.int x) (.int d) = true := z
    simp [eqV] at this
    rw [← this]
    exact hx
theorem flat_ints (l : List Int) : (l.map V.int).all flatV = true := by
  rw [List.all_map, List.all_eq_true]
  intro x _
  rfl
/-- the last day of a pattern below i -/
def Last (ds : List Int) (i : Nat) : Option Int → Prop
  | none => ∀ d ∈ ds, (i : Int) ≤ d
  | some l => l ∈ ds ∧ l < i ∧ 0 ≤ l ∧ ∀ d ∈ ds, d < i → d ≤ l
def laV : Option Int → V
  | none => .non
  | some d => .int d
theorem last_zero {n : Int} {ds : List Int} (h : Pat n ds) : Last ds 0 none := fun d hd => (h.bd d hd).1
theorem last_in {ds : List Int} {i : Nat} (h : (i : Int) ∈ ds) : Last ds (i + 1) (some i) := ⟨h, by omega, by omega, fun d _ z => by omega⟩
theorem last_out {ds : List Int} {i : Nat} {la : Option Int} (h : (i : Int) ∉ ds) (l : Last ds i la) : Last ds (i + 1) la := by
  cases la with
  | none =>
    intro d hd
    have := l d hd
    have : d ≠ (i : Int) := fun z => h (by rw [← z]; exact hd)
    omega
  | some x =>
    obtain ⟨h1, h2, h3, h4⟩ := l
    refine ⟨h1, by omega, h3, fun d hd z => ?_⟩
    have : d ≠ (i : Int) := fun z => h (by rw [← z]; exact hd)
    exact h4 d hd (by omega)
theorem last_none {ds : List Int} {i : Nat} (l : Last ds (i + 1) none) (k : Nat) : lastAt ds i k = false := by
  unfold lastAt
  rw [Bool.and_eq_false_iff]
  left
  rw [List.any_eq_false]
  intro d hd z
  have := of_decide_eq_true z
  have := l d hd
  omega
theorem last_some {ds : List Int} {i : Nat} {x : Int} (l : Last ds (i + 1) (some x)) (k : Nat) : lastAt ds i k = decide (x = (i : Int) - (k : Int)) := by
  obtain ⟨h1, h2, h3, h4⟩ := l
  rw [Bool.eq_iff_iff]
  constructor
  · intro q
    obtain ⟨q1, q2⟩ := He.ba q
    obtain ⟨d, hd, e⟩ := List.any_eq_true.mp q1
    have e := of_decide_eq_true e
    have a := of_decide_eq_true (List.all_eq_true.mp q2 x h1) (by omega)
    have b := h4 d hd (by omega)
    exact decide_eq_true (by omega)
  · intro q
    have q := of_decide_eq_true q
    refine Bool.and_eq_true_iff.mpr ⟨List.any_eq_true.mpr ⟨x, h1, decide_eq_true q⟩, List.all_eq_true.mpr fun d hd => decide_eq_true fun z => ?_⟩
    have := h4 d hd (by omega)
    omega
/-- what a pattern adds to the cells -/
def addL (c : Cells) (ds : List Int) (m : Int) : Cells := fun s k => c s k + if lastAt ds s k then m else 0
def addLs (fam : Fm) : Cells := fam.foldl (fun c p => addL c p.1 p.2) fun _ _ => 0
theorem addLs_take {fam : Fm} {i : Nat} {p : List Int × Int} (h : fam[i]? = some p) : addLs (fam.take (i + 1)) = addL (addLs (fam.take i)) p.1 p.2 := by
  rw [List.take_add_one, h]
  unfold addLs
  rw [List.foldl_append]
  rfl
theorem addLs_gen (s k : Nat) : ∀ (fam : Fm) (c : Cells), fam.foldl (fun c p => addL c p.1 p.2) c s k = c s k + lst fam s k
  | [], c => by
    show c s k = c s k + 0
    omega
  | p :: fam, c => by
    show fam.foldl _ (addL c p.1 p.2) s k = _
    rw [addLs_gen s k fam]
    show c s k + (if lastAt p.1 s k then p.2 else 0) + lst fam s k = c s k + ((p :: fam).map fun p => if lastAt p.1 s k then p.2 else 0).sum
    rw [List.map_cons, List.sum_cons]
    unfold lst
    omega
theorem addLs_val (fam : Fm) (s k : Nat) : addLs fam s k = lst fam s k := by
  unfold addLs
  rw [addLs_gen]
  omega
theorem prog_cells {n : Nat} {fam : Fm} (h : ∀ p ∈ fam, Pat n p.1) (s k : Nat) : pre (addLs fam) s k = unl fam ((s : Int) - (k : Int)) s := by
  rw [← pre_lst s k fam fun p hp => (h p hp).asc]
  induction k with
  | zero => exact addLs_val fam s 0
  | succ k ih =>
    show pre (addLs fam) s k + addLs fam s (k + 1) = pre (lst fam) s k + lst fam s (k + 1)
    rw [ih, addLs_val]
end Fa

namespace K21
open PySem PySem.Spec PyProof.Rows L2 Fa
abbrev s__count_by_latest : Stmt := topS 26
abbrev N__count_by_latest : List Str := ["by_latest", "pattern", "many", "latest", "day"]
theorem sc__count_by_latest : FnScope N__count_by_latest ["by_latest", "pattern", "many"] (defScope s__count_by_latest) := ⟨rfl, rfl, rfl, by decide +kernel, rfl, by decide +kernel, by decide +kernel⟩
abbrev s__running_sums : Stmt := topS 27
abbrev N__running_sums : List Str := ["row", "total", "sums", "number"]
theorem sc__running_sums : FnScope N__running_sums ["row"] (defScope s__running_sums) := ⟨rfl, rfl, rfl, by decide +kernel, rfl, by decide +kernel, by decide +kernel⟩
abbrev s_sheet_of : Stmt := topS 25
abbrev N_sheet_of : List Str := ["family", "count", "width", "by_latest", "pattern", "many", "day", "row"]
theorem sc_sheet_of : FnScope N_sheet_of ["family", "count", "width"] (defScope s_sheet_of) := ⟨rfl, rfl, rfl, by decide +kernel, rfl, by decide +kernel, by decide +kernel⟩
section
variable {P : Program} {w : World} {K : PySem.W.Frag} {mg : Str → Option Value} {base : Heap}
def spCbl : Sp := fun vs H Q _ => ∃ (g t : Addr) (m : Int) (n w : Nat) (ds : List Int) (c : Cells) (rows : List Addr), vs = [.ref g, .ref t, .int m] ∧ GridAt H g rows n (fun s => cr c (min (s + 1) w) s) ∧ H t = some (.tup (ds.map V.int)) ∧ Pat n ds ∧ n ≤ 30 ∧
  ∀ H', Off rows H H' → GridAt H' g rows n (fun s => cr (addL c ds m) (min (s + 1) w) s) → Q .non H'
def spSums : Sp := fun vs H Q _ => ∃ (r : Addr) (c : Cells) (s m : Nat), vs = [.ref r] ∧ H r = some (.lst ((cr c m s).map V.int)) ∧ m ≤ 900 ∧ ∀ H' z, Same H H' → H z = none → H' z = some (.lst ((cr (fun s k => pre c s k) m s).map V.int)) → Q (.ref z) H'
def spSheetOf : Sp := fun vs H Q _ => ∃ (a : Addr) (fam : Fm) (n w : Nat), vs = [.ref a, .int n, .int w] ∧ FamAt H a fam ∧ FmOk n fam ∧ 1 ≤ w ∧ w ≤ n ∧
  ∀ H' g rows, Same H H' → H g = none → (∀ r ∈ rows, H r = none) → GridAt H' g rows n (fun s => shRow fam s w) → Q (.ref g) H'
theorem cbl_go {g t : Addr} {m : Int} {n wd i : Nat} {ds : List Int} {c : Cells} {rows : List Addr} {H H1 : Hp} {la' : Option Int} {D : Ends} (hi : i < n) (s1 : Off rows H H1) (G1 : GridAt H1 g rows n (fun s => cr (fun s k => if s < i then addL c ds m s k else c s k) (min (s + 1) wd) s))
    (hl : Last ds (i + 1) la') (q : ∀ H', Off rows H H' → GridAt H' g rows n (fun s => cr (fun s k => if s < i + 1 then addL c ds m s k else c s k) (min (s + 1) wd) s) → D.nx [some (.ref g), some (.ref t), some (.int m), some (laV la'), some (.int (i : Int))] H') :
    tIfS (tAnd (tB (tNotN (tVar 3))) (tTest (tOp (rI0 fun i j => V.bl (decide (i < j))) (tOp (rI0 fun i j => V.int (i - j)) (tVar 4) (tVar 3)) (tCB (rLenQ K) (tCons (tOp (rIxL K) (tVar 0) (tVar 4)) tNil)))))
      (tAugS (tOp (rIxL K) (tVar 0) (tVar 4)) (tOp (rI0 fun i j => V.int (i - j)) (tVar 4) (tVar 3)) (tVar 2) (rGetL K) (ipI fun i j => i + j) rSetL) tNext D [some (.ref g), some (.ref t), some (.int m), some (laV la'), some (.int (i : Int))] H1 := by
  -- the same cells where nothing is added on day i
  have same : (∀ k, k < min (i + 1) wd → lastAt ds i k = false) → GridAt H1 g rows n (fun s => cr (fun s k => if s < i + 1 then addL c ds m s k else c s k) (min (s + 1) wd) s) := fun no => G1.ext fun s hs => cr_ext fun k hk => by
    by_cases a : s < i
    · rw [if_pos a, if_pos (by omega)]
    · rw [if_neg a]
      by_cases b : s < i + 1
      · have : s = i := by omega
        subst this
        rw [if_pos b]
        show _ = c s k + if lastAt ds s k then m else 0
        rw [no k hk]
        show _ = c s k + 0
        omega
      · rw [if_neg b]
  cases la' with
  | none => exact ⟨_, rfl, _, rfl, isN_non (iteF (q H1 s1 (same fun k _ => last_none hl k)))⟩
  | some x =>
    obtain ⟨r, er, hr', hrow⟩ := G1.get (s := i) hi
    have at1 : atI (rows.map V.ref) (i : Int) = some (.ref r) := atI_nat (by rw [List.getElem?_map, er]; rfl)
    have hx := hl
    obtain ⟨x1, x2, x3, x4⟩ := hx
    refine ⟨_, rfl, _, rfl, isN_int ⟨_, rfl, _, rfl, _, _, rfl, rfl, _, rfl, _, rfl, g, _, _, .ref r, rfl, rfl, .inl (.inl G1.top), at1, r, _, rfl, .inl (.inl (.inl hrow)), _, _, rfl, rfl, _, rfl, ite2 (fun e => ?_) (fun e => ?_)⟩⟩
    · have e := of_decide_eq_true e
      rw [List.length_map, cr_len] at e
      obtain ⟨kk, ek⟩ : ∃ kk : Nat, (i : Int) - x = kk := ⟨((i : Int) - x).toNat, by omega⟩
      have hk : kk < min (i + 1) wd := by omega
      refine ⟨_, rfl, _, rfl, g, _, _, .ref r, rfl, rfl, .inl (.inl G1.top), at1, _, rfl, _, rfl, _, _, rfl, rfl, r, _, _, _, rfl, rfl, .inl (.inl hrow), by omega, by rw [ek]; exact atI_nat (cr_atV hk), _, rfl, _, _, rfl, rfl, r, _, _, kk, rfl, rfl, hrow, by rw [ek, List.length_map, cr_len]; exact ixN_int (by omega) (by omega), ?_⟩
      refine q _ (s1.mut hr') (G1.poke er fun s' k' hs' hk' => ?_)
      by_cases a : s' = i ∧ k' = kk
      · obtain ⟨rfl, rfl⟩ := a
        rw [if_pos (Nat.lt_succ_self _), if_pos ⟨rfl, rfl⟩]
        show c s' k' + (if lastAt ds s' k' then m else 0) = (if s' < s' then addL c ds m s' k' else c s' k') + m
        rw [if_neg (Nat.lt_irrefl s'), last_some hl, decide_eq_true (by omega), if_pos rfl]
      · rw [if_neg a]
        by_cases b : s' < i
        · rw [if_pos b, if_pos (show s' < i + 1 by omega)]
        · rw [if_neg b]
          by_cases c2 : s' < i + 1
          · rw [if_pos c2]
            have e3 : s' = i := by omega
            show c s' k' + (if lastAt ds s' k' then m else 0) = c s' k'
            rw [e3, last_some hl, decide_eq_false (by omega)]
            show c i k' + 0 = _
            omega
          · rw [if_neg c2]
    · refine q H1 s1 (same fun k hk => ?_)
      rw [last_some hl]
      refine decide_eq_false fun z => e (decide_eq_true ?_)
      rw [List.length_map, cr_len]
      omega
theorem ok_cbl {f : Addr} {fd : FuncData} {k : Nat} (F : Fun K "_count_by_latest" "_count_by_latest" s__count_by_latest f fd) (m_len : mg "len" = none) (m_range : mg "range" = none) : FnOk P w K mg base CX0 (k + 1) f fd ["by_latest", "pattern", "many"] spCbl := by
  refine F.ok sc__count_by_latest (fun vs H Q E h => ?_) (fun cdv A outer s H vs Q E hr h => ?_)
  · obtain ⟨g, t, _, _, _, _, _, _, rfl, _⟩ := h
    rfl
  · obtain ⟨g, t, m, n, wd, ds, c, rows, rfl, G, et, hp, hn, q⟩ := h
    refine ⟨_, (pss_cons (ps_set (i := 3) sc__count_by_latest.nd rfl (by first | exact Or.inl rfl | exact Or.inr rfl) pe_non)
  (pss_one (ps_for PassesOwn.never rfl (pi_range1 (by rfl) m_range (pa_cons (pe_callB (Fa.lenQ K) (by rfl) m_len PySem.boot_len (pa_cons (pv 0) pa_nil)) pa_nil)) (pg_name (i := 4) sc__count_by_latest.nd rfl (by first | exact Or.inl rfl | exact Or.inr rfl)) (pss_cons (ps_if (pt_cmpR (Fa.inQ K) (pv 4) (pv 1) rfl) (pss_one (ps_set (i := 3) sc__count_by_latest.nd rfl (by first | exact Or.inl rfl | exact Or.inr rfl) (pv 4))) pss_nil)
  (pss_one (ps_if (PW.pt (pw_and (pt_cmp (pc_notN (pv 3))) (pw_and1 (pt_cmpR op_lt (pe_op op_sub (pv 4) (pv 3)) (pe_callB (Fa.lenQ K) (by rfl) m_len PySem.boot_len (pa_cons (pe_ix (Fa.ixL K) (pv 0) (pv 4) (fun _ _ => rfl)) pa_nil)) (nomark _))))) (pss_one (ps_augS (pe_ix (Fa.ixL K) (pv 0) (pv 4) (fun _ _ => rfl)) (pe_op op_sub (pv 4) (pv 3)) (Fa.getL K) (pv 2) ip_add set_list)) pss_nil)))))), ?_⟩
    have noT : t ∉ rows := fun z => by
      obtain ⟨j, hj, e⟩ := List.mem_iff_getElem.mp z
      have := G.row j t (by rw [List.getElem?_eq_getElem hj, e])
      rw [et] at this
      cases this
    refine ⟨_, rfl, g, _, rfl, .inl (.inl (.inl G.top)), _, rfl, by omega, by rw [List.length_map, G.cnt]; omega, ?_⟩
    refine for_range (lo := 0) (fun i σ H' => Off rows H H' ∧ GridAt H' g rows n (fun s => cr (fun s k => if s < i then addL c ds m s k else c s k) (min (s + 1) wd) s) ∧
      ∃ la x4, σ = [some (.ref g), some (.ref t), some (.int m), some (laV la), x4] ∧ Last ds i la) ?_ ?_ ?_
    · exact ⟨Off.refl _ _, G.ext fun s _ => cr_ext fun k _ => by rw [if_neg (by omega)], none, none, rfl, last_zero hp⟩
    · rintro i σ H1 hi ⟨s1, G1, la, x4, rfl, hla⟩
      rw [show ((rows.map V.ref).length : Int).toNat = n by rw [List.length_map, G.cnt]; omega] at hi
      have et1 := s1 _ _ noT et
      refine ⟨_, rfl, _, rfl, t, _, rfl, .inr (.inl (.inl et1)), rfl, flat_ints _, _, rfl, ?_⟩
      rw [if_neg Bool.false_ne_true, inV_ints, Int.zero_add]
      refine ite2 (fun e => ?_) (fun e => ?_)
      · exact ⟨_, rfl, cbl_go (la' := some i) hi s1 G1 (last_in (of_decide_eq_true e)) fun H' s' G' => ⟨s', G', some i, _, rfl, last_in (of_decide_eq_true e)⟩⟩
      · have hl := last_out (fun z => e (decide_eq_true z)) hla
        exact cbl_go hi s1 G1 hl fun H' s' G' => ⟨s', G', la, _, rfl, hl⟩
    · rintro σ H1 ⟨s1, G1, la, x4, rfl, hla⟩
      rw [show ((rows.map V.ref).length : Int).toNat = n by rw [List.length_map, G.cnt]; omega] at G1
      exact q H1 s1 (G1.ext fun s hs => cr_ext fun k _ => by rw [if_pos hs])
theorem ok_sums {f : Addr} {fd : FuncData} {k : Nat} (F : Fun K "_running_sums" "_running_sums" s__running_sums f fd) : FnOk P w K mg base CX0 (k + 1) f fd ["row"] spSums := by
  refine F.ok sc__running_sums (fun vs H Q E h => ?_) (fun cdv A outer s H vs Q E hr h => ?_)
  · obtain ⟨r, _, _, _, rfl, _⟩ := h
    rfl
  · obtain ⟨r, c, s, m, rfl, er, hm, q⟩ := h
    refine ⟨_, (pss_cons (ps_set (i := 1) sc__running_sums.nd rfl (by first | exact Or.inl rfl | exact Or.inr rfl) pe_int)
  (pss_cons (ps_set (i := 2) sc__running_sums.nd rfl (by first | exact Or.inl rfl | exact Or.inr rfl) (pe_lst pa_nil))
  (pss_cons (ps_for PassesOwn.never rfl (Fa.listQ K (pv 0)) (pg_name (i := 3) sc__running_sums.nd rfl (by first | exact Or.inl rfl | exact Or.inr rfl)) (pss_cons (ps_aug (i := 1) sc__running_sums.nd rfl (by first | exact Or.inl rfl | exact Or.inr rfl) (pv 3) ip_add)
  (pss_one (ps_expr (pe_bm PySem.F.plainAttrs_list PySem.F.slot_list_append PySem.F.type_list_append mt_append (pv 2) (pa_cons (pv 1) pa_nil))))))
  (pss_one (ps_ret (pv 2)))))), ?_⟩
    have s0 : ∀ z, H z = none → Same H (upd H z (.lst [])) := fun z nz => same_new nz
    refine ⟨Nat.zero_le _, fun z nz => ?_⟩
    refine ⟨_, rfl, r, rfl, ⟨_, .inl (.inl (s0 z nz _ _ er))⟩, ?_⟩
    refine for_it (walk_list (xs := (cr c m s).map V.int)) (fun i σ H' => Same H H' ∧ H' z = some (.lst ((cr (fun s k => pre c s k) i s).map V.int)) ∧ ∃ x3, σ = [some (.ref r), some (.int (match i with | 0 => 0 | j + 1 => pre c s j)), some (.ref z), x3]) ?_ ?_ ?_ ?_
    · exact ⟨s0 z nz, upd_same, none, rfl⟩
    · rintro i σ H1 _ ⟨s1, _⟩
      exact .inl (.inl (s1 _ _ er))
    · rintro i v σ _ H1 hi ⟨s1, ez, x3, rfl⟩ ⟨rfl, ev⟩
      rw [List.length_map, cr_len] at hi
      rw [cr_atV hi] at ev
      cases ev
      refine ⟨_, rfl, _, rfl, _, _, rfl, rfl, _, rfl, .inl ⟨rfl, _, .inl (.inl ez)⟩, _, rfl, z, _, _, rfl, rfl, ez, ?_, ?_⟩
      · rw [List.length_map, cr_len]
        exact small1000 (by omega)
      · refine ⟨fun b o h => ?_, ?_, some (.int (c s i)), ?_⟩
        · rw [upd_ne (ne_of_none h nz)]
          exact s1 _ _ h
        · rw [upd_same]
          unfold cr
          rw [List.range_succ, List.map_append, List.map_append]
          cases i with
          | zero =>
            show some (HO.lst (_ ++ [V.int (0 + c s 0)])) = _
            rw [Int.zero_add]
            rfl
          | succ j => rfl
        · cases i with
          | zero =>
            show [some (V.ref r), some (V.int (0 + c s 0)), some (V.ref z), some (V.int (c s 0))] = _
            rw [Int.zero_add]
            rfl
          | succ j => rfl
    · rintro σ H1 ⟨s1, ez, x3, rfl⟩
      rw [List.length_map, cr_len] at ez
      exact ⟨_, rfl, q H1 z s1 nz ez⟩
theorem ok_sheetof {f fA fB fC fD fE : Addr} {fd fdA fdB fdC fdD fdE : FuncData} {k : Nat} (F : Fun K "sheet_of" "sheet_of" s_sheet_of f fd) (F_check_family : Fun K "check_family" "check_family" s_check_family fA fdA) (G_check_family : FnOk P w K mg base CX0 k fA fdA ["family", "count"] spCkFam)
    (b_check_family : Binds K fdA ["family", "count"] []) (g_check_family : mg "check_family" = some (.ref fA)) (F_check_count : Fun K "check_count" "check_count" s_check_count fB fdB) (G_check_count : FnOk P w K mg base CX0 k fB fdB ["count"] spCkCount) (b_check_count : Binds K fdB ["count"] [])
    (g_check_count : mg "check_count" = some (.ref fB)) (F_check_width : Fun K "check_width" "check_width" s_check_width fC fdC) (G_check_width : FnOk P w K mg base CX0 k fC fdC ["width", "most"] spCkWidth) (b_check_width : Binds K fdC ["width", "most"] []) (g_check_width : mg "check_width" = some (.ref fC))
    (F__count_by_latest : Fun K "_count_by_latest" "_count_by_latest" s__count_by_latest fD fdD) (G__count_by_latest : FnOk P w K mg base CX0 k fD fdD ["by_latest", "pattern", "many"] spCbl) (b__count_by_latest : Binds K fdD ["by_latest", "pattern", "many"] []) (g__count_by_latest : mg "_count_by_latest" = some (.ref fD))
    (F__running_sums : Fun K "_running_sums" "_running_sums" s__running_sums fE fdE) (G__running_sums : FnOk P w K mg base CX0 k fE fdE ["row"] spSums) (b__running_sums : Binds K fdE ["row"] []) (g__running_sums : mg "_running_sums" = some (.ref fE))
    {tk : Tok} (g_MOST_DAYS : mg "MOST_DAYS" = some (.int 30 tk)) (m_range : mg "range" = none) (m_min : mg "min" = none) : FnOk P w K mg base CX0 (k + 1) f fd ["family", "count", "width"] spSheetOf := by
  refine F.ok sc_sheet_of (fun vs H Q E h => ?_) (fun cdv A outer s H vs Q E hr h => ?_)
  · obtain ⟨a, _, _, _, rfl, _⟩ := h
    rfl
  · obtain ⟨a, fam, n, wd, rfl, hF, hO, w1, wn, q⟩ := h
    refine ⟨_, (pss_cons (ps_expr (pe_call G_check_family (hr.mono (by omega)) (by rfl) g_check_family F_check_family.kp b_check_family .nil pass0 (pa_cons (pv 0) (pa_cons (pe_glob (v := .int 30) rfl g_MOST_DAYS ⟨_, rfl⟩) pa_nil))))
  (pss_cons (ps_expr (pe_call G_check_count (hr.mono (by omega)) (by rfl) g_check_count F_check_count.kp b_check_count .nil pass0 (pa_cons (pv 1) pa_nil)))
  (pss_cons (ps_expr (pe_call G_check_width (hr.mono (by omega)) (by rfl) g_check_width F_check_width.kp b_check_width .nil pass0 (pa_cons (pv 2) (pa_cons (pv 1) pa_nil))))
  (pss_cons (ps_expr (pe_call G_check_family (hr.mono (by omega)) (by rfl) g_check_family F_check_family.kp b_check_family .nil pass0 (pa_cons (pv 0) (pa_cons (pv 1) pa_nil))))
  (pss_cons (ps_setLc (i := 3) (own := [("day", 6)]) (g := (gName 6)) (tt := tYes) rfl sc_sheet_of.nd rfl rfl (sw_true rfl rfl rfl (by decide +kernel)) (pi_range1 (by rfl) m_range (pa_cons (pv 1) pa_nil)) (blkOk_by (N := N_sheet_of) (sc := defScope s_sheet_of) (by decide +kernel)) (fun _ _ _ _ _ => (pg_name (i := 6) sc_sheet_of.nd rfl (by first | exact Or.inl rfl | exact Or.inr rfl))) (fun _ _ _ _ _ => pts_nil) (fun _ _ _ _ _ => (pe_op op_rep (pe_lst (pa_cons pe_int pa_nil)) (pe_callB (call_min2 rfl) (by rfl) m_min PyProof.Rows.boot_min (pa_cons (pe_op op_add (pv 6) pe_int) (pa_cons (pv 2) pa_nil))))))
  (pss_cons (ps_for PassesOwn.never rfl (Fa.listQ K (pv 0)) (pg_tup rfl (pgs_cons (pg_name (i := 4) sc_sheet_of.nd rfl (by first | exact Or.inl rfl | exact Or.inr rfl)) (pgs_cons (pg_name (i := 5) sc_sheet_of.nd rfl (by first | exact Or.inl rfl | exact Or.inr rfl)) pgs_nil))) (pss_one (ps_expr (pe_call G__count_by_latest (hr.mono (by omega)) (by rfl) g__count_by_latest F__count_by_latest.kp b__count_by_latest .nil pass0 (pa_cons (pv 3) (pa_cons (pv 4) (pa_cons (pv 5) pa_nil)))))))
  (pss_one (ps_ret (pe_lc (own := [("row", 7)]) (g := (gName 7)) (tt := tYes) rfl sc_sheet_of.nd (Fa.listQ K (pv 3)) (blkOk_by (N := N_sheet_of) (sc := defScope s_sheet_of) (by decide +kernel)) (fun _ _ _ _ _ => (pg_name (i := 7) sc_sheet_of.nd rfl (by first | exact Or.inl rfl | exact Or.inr rfl))) (fun _ _ _ _ _ => pts_nil) (fun _ _ _ _ _ => (pe_call G__running_sums (hr.mono (by omega)) (by rfl) g__running_sums F__running_sums.kp b__running_sums .nil pass0 (pa_cons (pv 7) pa_nil)))))))))))), ?_⟩
    have n30 : n ≤ 30 := by have := hO.2.2; omega
    have hO30 : FmOk 30 fam := by
      obtain ⟨⟨c, hf⟩, hl, hn⟩ := hO
      exact ⟨⟨c, hf.asc, fun p hp => ⟨(hf.pat p hp).ne, (hf.pat p hp).asc, fun d hd => by have := (hf.pat p hp).bd d hd; omega⟩, hf.bd⟩, hl, Int.le_refl _⟩
    refine ⟨_, rfl, a, fam, 30, rfl, hF, hO30, fun H1 s1 => ?_⟩
    refine ⟨_, rfl, n, rfl, by omega, by omega, ?_⟩
    refine ⟨_, rfl, _, rfl, wd, n, rfl, by omega, by omega, ?_⟩
    refine ⟨_, rfl, _, rfl, a, fam, n, rfl, hF.same s1, hO, fun H2 s2 => ?_⟩
    have s02 := s1.trans s2
    have hF2 := hF.same s02
    refine ⟨_, rfl, n, rfl, by omega, by omega, fun D nD => ?_⟩
    refine lc_range (lo := 0) (fun i H3 => Same H2 H3 ∧ ∃ rs, GridAt H3 D rs i (fun s => cr (fun _ _ => 0) (min (s + 1) wd) s) ∧ ∀ r ∈ rs, H r = none) ?_ ?_ ?_
    · exact ⟨same_new nD, [], gridAt_nil upd_same, fun r z => (List.not_mem_nil z).elim⟩
    · rintro i H3 hi ⟨s3, rs, G, fresh⟩
      have mn : (if (wd : Int) < (0 : Int) + (i : Int) + 1 then (wd : Int) else (0 : Int) + (i : Int) + 1) = ((min (i + 1) wd : Nat) : Int) := by
        split <;> omega
      refine ⟨rfl, yes_if ⟨by show 1 ≤ sizeLine; decide, fun l nl => ⟨_, rfl, _, _, rfl, rfl, _, rfl, _, _, rfl, l, _, _, rfl, rfl, upd_same, ?_, ?_, ?_, fun p np => ?_⟩⟩⟩
      · rw [mn]
        omega
      · rw [mn]
        omega
      · rw [mn]
        show 1 * _ ≤ sizeLine
        rw [Nat.one_mul]
        exact Nat.le_of_lt (small1000 (by omega))
      · obtain ⟨nlD, nlr⟩ := G.noRow nl
        have G3 := G.off (o := .lst [.int 0]) nlD nlr
        obtain ⟨a1, a2, a3, a4⟩ := grow_step (l := (List.replicate (if (wd : Int) < (0 : Int) + (i : Int) + 1 then (wd : Int) else (0 : Int) + (i : Int) + 1).toNat [V.int 0]).flatten) (s3.trans (same_new nl)) nD G3 np (by rw [mn, Int.toNat_natCast, flat_zeros]; rfl) (by omega)
        refine ⟨_, a1, a2, a3, _, a4, fun r hr => ?_⟩
        rcases List.mem_append.mp hr with z | z
        · exact fresh r z
        · rw [List.mem_singleton.mp z]
          exact (s02.trans (s3.trans (same_new nl))).free np
    · rintro H3 ⟨s3, rs, G3, fresh⟩
      have s03 := s02.trans s3
      obtain ⟨xs, eg, hP⟩ := hF
      have hp : ∀ p ∈ fam, Pat n p.1 := by
        obtain ⟨⟨c, hf⟩, _⟩ := hO
        exact hf.pat
      refine ⟨_, rfl, a, rfl, ⟨xs, .inl (.inl (s03 _ _ eg))⟩, ?_⟩
      refine for_it (walk_list (xs := xs)) (fun i σ H' => Same H H' ∧ GridAt H' D rs n (fun s => cr (addLs (fam.take i)) (min (s + 1) wd) s) ∧ ∃ x4 x5, σ = [some (.ref a), some (.int n), some (.int wd), some (.ref D), x4, x5, none, none]) ?_ ?_ ?_ ?_
      · exact ⟨s03, G3, none, none, rfl⟩
      · rintro i σ H4 _ ⟨s4, _⟩
        exact .inl (.inl (s4 _ _ eg))
      · rintro i v σ _ H4 hi ⟨s4, G4, x4, x5, rfl⟩ ⟨rfl, ev⟩
        obtain ⟨pt, ep, t, b, rfl, h1, h2⟩ := paired_at hP ev
        refine ⟨t, _, rfl, .inl (.inl (s4 _ _ h1)), rfl, _, _, rfl, _, _, rfl, rfl, ?_⟩
        refine ⟨_, rfl, _, rfl, _, rfl, D, b, pt.2, n, wd, pt.1, _, rs, rfl, G4, s4 _ _ h2, hp pt (List.mem_of_getElem? ep), n30, fun H5 off G5 => ⟨fun c o z => off c o (fun mm => by rw [fresh c mm] at z; cases z) (s4 _ _ z), ?_, _, _, rfl⟩⟩
        rw [addLs_take ep]
        exact G5
      · rintro σ H4 ⟨s4, G4, x4, x5, rfl⟩
        rw [List.take_of_length_le (show fam.length ≤ xs.length by rw [hP.length]; exact Nat.le_refl _)] at G4
        refine ⟨_, rfl, D, rfl, ⟨_, .inl (.inl G4.top)⟩, fun D2 nD2 => ?_⟩
        refine lc_it (walk_list (xs := rs.map V.ref)) (fun i H5 => Same H4 H5 ∧ ∃ rs2, GridAt H5 D2 rs2 i (fun s => shRow fam s wd) ∧ ∀ r ∈ rs2, H r = none) ?_ ?_ ?_ ?_
        · exact ⟨same_new nD2, [], gridAt_nil upd_same, fun r z => (List.not_mem_nil z).elim⟩
        · rintro i H5 _ ⟨s5, _⟩
          exact .inl (.inl (s5 _ _ G4.top))
        · rintro i v _ H5 hi ⟨s5, rs2, G5, fr⟩ ⟨rfl, ev⟩
          rw [List.length_map, G4.cnt] at hi
          obtain ⟨r, er, hr', hrow⟩ := G4.get (s := i) hi
          rw [List.getElem?_map, er] at ev
          cases ev
          refine ⟨rfl, yes_if ⟨_, rfl, r, _, i, min (i + 1) wd, rfl, s5 _ _ hrow, by omega, fun H6 z s6 nz ez => ?_⟩⟩
          obtain ⟨zD, zr⟩ := G5.noRow nz
          have G6 := G5.same s6
          refine ⟨_, G6.top, ?_, fun b o y => ?_, rs2 ++ [z], G6.grow ?_ zD zr, fun y hy => ?_⟩
          · rw [List.length_map, G6.cnt]
            exact small1000 (by omega)
          · rw [upd_ne (ne_of_none y nD2)]
            exact s6 _ _ (s5 _ _ y)
          · rw [ez]
            refine congrArg (fun l : List Int => some (HO.lst (l.map V.int))) ?_
            unfold cr shRow
            refine List.map_congr_left fun kk _ => ?_
            exact prog_cells hp i kk
          · rcases List.mem_append.mp hy with m | m
            · exact fr y m
            · rw [List.mem_singleton.mp m]
              exact s4.free (s5.free nz)
        · rintro H5 ⟨s5, rs2, G5, fr⟩
          rw [List.length_map, G4.cnt] at G5
          exact q H5 D2 rs2 (s4.trans s5) (s4.free nD2) fr G5
end
end K21

/-! how long what is shown is -/
namespace Fa
open PySem PySem.Spec PyProof.Rows L2
def Num (x : Int) : Prop := 0 ≤ x ∧ x < 2 ^ 100
theorem Num.log {x : Int} (h : Num x) : x.natAbs.log2 < 100 := by
  obtain ⟨h0, h1⟩ := h
  by_cases z : x.natAbs = 0
  · rw [z]
    decide
  · rw [Nat.log2_lt z]
    have e : ((2 ^ 100 : Nat) : Int) = (2 : Int) ^ 100 := by decide +kernel
    omega
/-- shown in few signs -/
structure Sho (wt : Nat) (d : PyData) : Prop where
  sh : PyData.showable d = true
  nd : PyData.hasDict d = false
  lf : PyData.leavesShort 101 d = true
  wt : PyData.weight d ≤ wt
theorem sho_int {x : Int} (h : Num x) : Sho 100 (.int x) := by
  have l := h.log
  refine ⟨decide_eq_true (by omega), rfl, decide_eq_true ?_, ?_⟩
  · show (Str.ofString (toString x)).length ≤ 101
    rw [PySem.ofString_length]
    exact int_text_length_le (by decide) l
  · show (if x == 0 then 0 else x.natAbs.log2 + 1) ≤ 100
    split <;> omega
theorem sho_all {wt : Nat} : ∀ {ds : List PyData}, (∀ d ∈ ds, Sho wt d) → PyData.showableAll ds = true ∧ PyData.hasDictAll ds = false ∧ PyData.leavesShortAll 101 ds = true ∧ PyData.weightAll ds ≤ (wt + 1) * ds.length
  | [], _ => ⟨rfl, rfl, rfl, Nat.zero_le _⟩
  | d :: ds, h => by
    obtain ⟨a, b, c, e⟩ := h d List.mem_cons_self
    obtain ⟨a', b', c', e'⟩ := sho_all fun x hx => h x (List.mem_cons_of_mem _ hx)
    refine ⟨?_, ?_, ?_, ?_⟩
    · show (PyData.showable d && PyData.showableAll ds) = true
      rw [a, a']
      rfl
    · show (PyData.hasDict d || PyData.hasDictAll ds) = false
      rw [b, b']
      rfl
    · show (PyData.leavesShort 101 d && PyData.leavesShortAll 101 ds) = true
      rw [c, c']
      rfl
    · show PyData.weight d + 1 + PyData.weightAll ds ≤ (wt + 1) * (ds.length + 1)
      rw [Nat.mul_add]
      omega
theorem sho_list {wt n : Nat} {ds : List PyData} (h : ∀ d ∈ ds, Sho wt d) (l : ds.length ≤ n) : Sho ((wt + 1) * n) (.list ds) := by
  obtain ⟨a, b, c, e⟩ := sho_all h
  exact ⟨a, b, c, Nat.le_trans e (Nat.mul_le_mul_left _ l)⟩
theorem sho_grid {n : Nat} {f : Nat → List Int} (hn : n ≤ 30) (h : ∀ s, s < n → (f s).length ≤ 30 ∧ ∀ x ∈ f s, Num x) : Sho (((100 + 1) * 30 + 1) * 30) (gridD n f) := by
  refine sho_list (fun d hd => ?_) (by rw [List.length_map, List.length_range]; exact hn)
  obtain ⟨s, hs, rfl⟩ := List.mem_map.mp hd
  obtain ⟨h1, h2⟩ := h s (List.mem_range.mp hs)
  refine sho_list (fun e he => ?_) (by rw [List.length_map]; exact h1)
  obtain ⟨x, hx, rfl⟩ := List.mem_map.mp he
  exact sho_int (h2 x hx)
theorem sho_len {wt : Nat} {d : PyData} (h : Sho wt d) (l : 103 * wt + 101 ≤ sizeLine) : d.shown.length ≤ sizeLine := by
  have a := PyData.shown_le 101 (by decide) d h.lf
  have b : 103 * d.weight ≤ 103 * wt := Nat.mul_le_mul_left _ h.wt
  omega
theorem repr_ok {K : PySem.W.Frag} {H : Hp} {a : Addr} {d : PyData} {wt n : Nat} {Q : VK} (hd : Dp K H (.ref a) d) (s : Shp n d) (hn : n ≤ 64) (h : Sho wt d) (l : 103 * wt + 101 ≤ sizeLine) (q : Q (.str d.shown) H) : rRepr K [.ref a] H Q :=
  ⟨a, d, rfl, hd, Nat.le_trans s.2 hn, h.sh, h.nd, sho_len h l, q⟩
theorem grid_line : 103 * (((100 + 1) * 30 + 1) * 30) + 101 ≤ sizeLine := by
  rw [sizeLine_eq]
  decide
theorem un66 {A : Around} {k : Nat} (hr : Room k A) : A.units + 66 < cLine := by
  have := hr.un
  omega
theorem b_repr : bootBuiltins "repr" = some (.builtin "repr") := by decide +kernel
/-! families as data -/
def famD (fam : Fm) : PyData := .list (fam.map fun p => .tuple [.tuple (p.1.map .int), .int p.2])
theorem famD_shp (fam : Fm) : Shp 3 (famD fam) := shp_list fun d hd => by
  obtain ⟨p, _, rfl⟩ := List.mem_map.mp hd
  refine shp_tuple fun e he => ?_
  rcases List.mem_cons.mp he with rfl | he
  · exact shp_tuple fun x hx => by
      obtain ⟨i, _, rfl⟩ := List.mem_map.mp hx
      exact shp_int _ _
  · rw [List.mem_singleton.mp he]
    exact shp_int _ _
theorem FamAt.dp {K : PySem.W.Frag} {H : Hp} {a : Addr} {fam : Fm} (h : FamAt H a fam) : Dp K H (.ref a) (famD fam) := by
  obtain ⟨xs, e, hP⟩ := h
  refine .lst (.inl (.inl e)) (dpAll_of (by rw [List.length_map]; exact hP.length) fun i v d h1 h2 => ?_)
  obtain ⟨p, ep, t, b, rfl, h3, h4⟩ := paired_at hP h1
  rw [List.getElem?_map, ep] at h2
  cases h2
  exact .tup (.inl (.inl h3)) (.cons (.tup (.inl (.inl h4)) (dp_ints _)) (.cons (.int _) .nil))
/-! arguments by name, in the opposite sequence -/
theorem vals_rev : ∀ {zs : List V} {ws : List Value}, Vals zs ws → Vals zs.reverse ws.reverse
  | _, _, .nil => .nil
  | _, _, .cons r t => by
    rw [List.reverse_cons, List.reverse_cons]
    exact (vals_rev t).append (.cons r .nil)
def gRev {α : Type} (_ zs : List α) : List α := zs.reverse
theorem kbRev {K : PySem.W.Frag} {x qual : Str} {st : Stmt} {f : Addr} {fd : FuncData} {ps ks : List Str} (F : Fun K x qual st f fd)
    (h : ∀ (kV doc pm : Value) (an : Option Addr) (cdv ct : Value) (us ws : List Value), us.length = 0 → ws.length = ks.length → bindArgs (PySem.W.fnOf x qual (defArgs st) (defBody st) (defScope st) .none kV doc pm an cdv ct) ⟨us, ks.zip ws⟩ = pure (ps.zip (gRev us ws))) :
    KBn K fd ps 0 ks (fun us ws => gRev us ws) (fun vs zs => gRev vs zs) := kbn_of F (fun u z => gRev u z) (fun _ r => vals_rev r) h
theorem GridAt.kp {H H' : Hp} {g p : Addr} {rows : List Addr} {n : Nat} {f : Nat → List Int} (h : GridAt H g rows n f) (k : Kp p H H') (ng : g ≠ p) (nr : p ∉ rows) : GridAt H' g rows n f :=
  h.but fun b o hb e => k b o (hb.elim (fun z => by rw [z]; exact ng) (fun z y => nr (by rw [← y]; exact z))) e
theorem FamAt.kp {H H' : Hp} {a p : Addr} {fam : Fm} {l : List V} (h : FamAt H a fam) (k : Kp p H H') (ne : a ≠ p) (hp : H p = some (.lst l)) : FamAt H' a fam :=
  h.keep (fun _ e => k _ _ ne e) fun _ _ e => k _ _ (ne_of e hp (fun z => by cases z)) e
theorem sho_flat {n : Nat} {l : List Int} (h : ∀ x ∈ l, Num x) (hn : l.length ≤ n) : Sho ((100 + 1) * n) (.list (l.map .int)) := sho_list (fun d hd => by
  obtain ⟨x, hx, rfl⟩ := List.mem_map.mp hd
  exact sho_int (h x hx)) (by rw [List.length_map]; exact hn)
theorem num_small {x : Int} (h0 : 0 ≤ x) (h : x ≤ 1000000) : Num x := by
  have e : (1000000 : Int) < 2 ^ 100 := by decide +kernel
  exact ⟨h0, by omega⟩
theorem lst_dp {K : PySem.W.Frag} {H : Hp} {a : Addr} {l : List Int} (h : H a = some (.lst (l.map V.int))) : Dp K H (.ref a) (.list (l.map .int)) := .lst (.inl (.inl h)) (dp_ints l)
theorem flat_line : 103 * ((100 + 1) * 10) + 101 ≤ sizeLine := by
  rw [sizeLine_eq]
  decide
theorem off_new {l : List Addr} {H H1 H2 : Hp} (s : Same H H1) (o : Off l H1 H2) (n : ∀ r ∈ l, H r = none) : Same H H2 := fun b u e => o b u (fun z => by rw [n b z] at e; cases e) (s b u e)
theorem shRow_at {fam : Fm} {d w k : Nat} (h : k < min (d + 1) w) : (shRow fam d w)[k]? = some (unl fam ((d : Int) - (k : Int)) d) := by
  unfold shRow
  rw [List.getElem?_map, List.getElem?_range h]
  rfl
theorem shRow_len (fam : Fm) (d w : Nat) : (shRow fam d w).length = min (d + 1) w := by
  unfold shRow
  rw [List.length_map, List.length_range]
theorem shRow_take {fam : Fm} {d w m : Nat} (h : m ≤ w) : (shRow fam d w).take m = shRow fam d m := by
  unfold shRow
  rw [← List.map_take, List.take_range]
  congr 2
  omega
theorem shRow_num {fam : Fm} (h : ∀ b e, Num (unl fam b e)) {d w : Nat} {x : Int} (hx : x ∈ shRow fam d w) : Num x := by
  obtain ⟨k, _, rfl⟩ := List.mem_map.mp hx
  exact h _ _
theorem shRow_shf {fam : Fm} (h : ∀ b e, Num (unl fam b e)) {n w : Nat} (n1 : 1 ≤ n) (n30 : n ≤ 30) (w1 : 1 ≤ w) (wn : w ≤ n) : Shf n w fun s => shRow fam s w :=
  ⟨n1, n30, w1, wn, fun s _ => shRow_len fam s w, fun _ _ x hx => (shRow_num h hx).1⟩
theorem sho_sh {fam : Fm} (h : ∀ b e, Num (unl fam b e)) {n : Nat} (n30 : n ≤ 30) (w : Nat) : Sho (((100 + 1) * 30 + 1) * 30) (gridD n fun s => shRow fam s w) :=
  sho_grid n30 fun s hs => ⟨by rw [shRow_len]; omega, fun x hx => shRow_num h hx⟩
theorem grid_dep (n : Nat) (f : Nat → List Int) : PyData.depth (gridD n f) ≤ 64 := Nat.le_trans (gridD_shp 0 n f).2 (by decide)
end Fa

/-! lists of tuples of three numbers -/
namespace Fa
open PySem PySem.Spec PyProof.Rows L2
abbrev Tri : Type := Int × Int × Int
def TriAt (H : Hp) (x : V) (p : Tri) : Prop := ∃ t, x = .ref t ∧ H t = some (.tup [.int p.1, .int p.2.1, .int p.2.2])
def TrisAt (H : Hp) (l : Addr) (L : List Tri) : Prop := ∃ xs : List V, H l = some (.lst xs) ∧ Paired (TriAt H) xs L
theorem TriAt.keep {H H' : Hp} {x : V} {p : Tri} (h : TriAt H x p) (k : ∀ b us, H b = some (.tup us) → H' b = some (.tup us)) : TriAt H' x p := by
  obtain ⟨t, e, h1⟩ := h
  exact ⟨t, e, k _ _ h1⟩
theorem TrisAt.same {H H' : Hp} {l : Addr} {L : List Tri} (h : TrisAt H l L) (s : Same H H') : TrisAt H' l L := by
  obtain ⟨xs, e, p⟩ := h
  exact ⟨xs, s _ _ e, Paired.mapP p fun _ _ q => q.keep fun _ _ z => s _ _ z⟩
/-- a new tuple, then its place at the end of the list -/
theorem TrisAt.push {H : Hp} {l T : Addr} {xs : List V} {L : List Tri} {p : Tri} (el : H l = some (.lst xs)) (h : Paired (TriAt H) xs L) (nT : H T = none) :
    TrisAt (upd (upd H T (.tup [.int p.1, .int p.2.1, .int p.2.2])) l (.lst (xs ++ [.ref T]))) l (L ++ [p]) := by
  have lT : l ≠ T := ne_of_none el nT
  refine ⟨_, upd_same, paired_snoc (Paired.mapP h fun _ _ q => q.keep fun b us z => ?_) ⟨T, rfl, by rw [upd_ne lT.symm, upd_same]⟩⟩
  rw [upd_ne (ne_of z el (fun y => by cases y)), upd_ne (ne_of_none z nT)]
  exact z
def trisD (L : List Tri) : PyData := .list (L.map fun p => .tuple [.int p.1, .int p.2.1, .int p.2.2])
theorem trisD_shp (L : List Tri) : Shp 2 (trisD L) := shp_list fun d hd => by
  obtain ⟨p, _, rfl⟩ := List.mem_map.mp hd
  refine shp_tuple fun e he => ?_
  simp only [List.mem_cons, List.not_mem_nil, or_false] at he
  rcases he with rfl | rfl | rfl <;> exact shp_int _ _
theorem TrisAt.dp {K : PySem.W.Frag} {H : Hp} {l : Addr} {L : List Tri} (h : TrisAt H l L) : Dp K H (.ref l) (trisD L) := by
  obtain ⟨xs, e, hP⟩ := h
  refine .lst (.inl (.inl e)) (dpAll_of (by rw [List.length_map]; exact hP.length) fun i v d h1 h2 => ?_)
  obtain ⟨p, ep, t, rfl, h3⟩ := paired_at hP h1
  rw [List.getElem?_map, ep] at h2
  cases h2
  exact .tup (.inl (.inl h3)) (.cons (.int _) (.cons (.int _) (.cons (.int _) .nil)))
/-- below 2^100 in size, of either sign -/
def NumZ (x : Int) : Prop := x.natAbs < 2 ^ 100
theorem sho_intZ {x : Int} (h : NumZ x) : Sho 100 (.int x) := by
  have l : x.natAbs.log2 < 100 := by
    by_cases z : x.natAbs = 0
    · rw [z]
      decide
    · rw [Nat.log2_lt z]
      exact h
  refine ⟨decide_eq_true (by omega), rfl, decide_eq_true ?_, ?_⟩
  · show (Str.ofString (toString x)).length ≤ 101
    rw [PySem.ofString_length]
    exact int_text_length_le (by decide) l
  · show (if x == 0 then 0 else x.natAbs.log2 + 1) ≤ 100
    split <;> omega
theorem sho_tuple {wt n : Nat} {ds : List PyData} (h : ∀ d ∈ ds, Sho wt d) (l : ds.length ≤ n) : Sho ((wt + 1) * n) (.tuple ds) := by
  obtain ⟨a, b, c, e⟩ := sho_all h
  exact ⟨a, b, c, Nat.le_trans e (Nat.mul_le_mul_left _ l)⟩
theorem sho_tris {L : List Tri} (h : ∀ p ∈ L, NumZ p.1 ∧ NumZ p.2.1 ∧ NumZ p.2.2) (l : L.length ≤ 435) : Sho (((100 + 1) * 3 + 1) * 435) (trisD L) := by
  refine sho_list (fun d hd => ?_) (by rw [List.length_map]; exact l)
  obtain ⟨p, hp, rfl⟩ := List.mem_map.mp hd
  obtain ⟨h1, h2, h3⟩ := h p hp
  refine sho_tuple (fun e he => ?_) (by show 3 ≤ 3; decide)
  simp only [List.mem_cons, List.not_mem_nil, or_false] at he
  rcases he with rfl | rfl | rfl
  · exact sho_intZ h1
  · exact sho_intZ h2
  · exact sho_intZ h3
theorem tris_line : 103 * (((100 + 1) * 3 + 1) * 435) + 101 ≤ sizeLine := by
  rw [sizeLine_eq]
  decide
/-! lists of tuples of a word and two numbers -/
abbrev Bar : Type := Str × Int × Int
def BarAt (H : Hp) (x : V) (p : Bar) : Prop := ∃ t, x = .ref t ∧ H t = some (.tup [.str p.1, .int p.2.1, .int p.2.2])
def BarsAt (H : Hp) (l : Addr) (L : List Bar) : Prop := ∃ xs : List V, H l = some (.lst xs) ∧ Paired (BarAt H) xs L
theorem BarAt.keep {H H' : Hp} {x : V} {p : Bar} (h : BarAt H x p) (k : ∀ b us, H b = some (.tup us) → H' b = some (.tup us)) : BarAt H' x p := by
  obtain ⟨t, e, h1⟩ := h
  exact ⟨t, e, k _ _ h1⟩
theorem BarsAt.same {H H' : Hp} {l : Addr} {L : List Bar} (h : BarsAt H l L) (s : Same H H') : BarsAt H' l L := by
  obtain ⟨xs, e, p⟩ := h
  exact ⟨xs, s _ _ e, Paired.mapP p fun _ _ q => q.keep fun _ _ z => s _ _ z⟩
theorem BarsAt.push {H : Hp} {l T : Addr} {xs : List V} {L : List Bar} {p : Bar} (el : H l = some (.lst xs)) (h : Paired (BarAt H) xs L) (nT : H T = none) :
    BarsAt (upd (upd H T (.tup [.str p.1, .int p.2.1, .int p.2.2])) l (.lst (xs ++ [.ref T]))) l (L ++ [p]) := by
  have lT : l ≠ T := ne_of_none el nT
  refine ⟨_, upd_same, paired_snoc (Paired.mapP h fun _ _ q => q.keep fun b us z => ?_) ⟨T, rfl, by rw [upd_ne lT.symm, upd_same]⟩⟩
  rw [upd_ne (ne_of z el (fun y => by cases y)), upd_ne (ne_of_none z nT)]
  exact z
/-- the same of a heap that is not tracked at H0's places -/
theorem push_same {H0 H : Hp} {l T : Addr} {xs ys : List V} (s : Same H0 H) (nl : H0 l = none) (nT : H T = none) : Same H0 (upd (upd H T (.tup xs)) l (.lst ys)) := fun b o y => by
  rw [upd_ne (ne_of_none y nl)]
  exact same_new nT _ _ (s _ _ y)
end Fa

/-! numbers of a family's sheet: gaps, away and fresh ones are from 0 on; joining greedily and the least bound -/
namespace Fa
open PySem PySem.Spec PyProof.Rows L2
theorem hits_mono {p : List Int} {b e b' e' : Int} (h1 : b' ≤ b) (h2 : e ≤ e') (h : hits p b e = true) : hits p b' e' = true := by
  obtain ⟨d, hd, z⟩ := List.any_eq_true.mp h
  obtain ⟨z1, z2⟩ := He.ba z
  have z1 := of_decide_eq_true z1
  have z2 := of_decide_eq_true z2
  exact List.any_eq_true.mpr ⟨d, hd, Bool.and_eq_true_iff.mpr ⟨decide_eq_true (by omega), decide_eq_true (by omega)⟩⟩
theorem hits_none {p : List Int} {b e : Int} (h : e < b) : hits p b e = false := by
  unfold hits
  rw [List.any_eq_false]
  intro d _ z
  obtain ⟨z1, z2⟩ := He.ba z
  have z1 := of_decide_eq_true z1
  have z2 := of_decide_eq_true z2
  omega
theorem hits_two {p : List Int} {a b : Int} (ab : a < b) (h : hits p a b = true) : hits p a (b - 1) = true ∨ hits p (a + 1) b = true := by
  obtain ⟨d, hd, z⟩ := List.any_eq_true.mp h
  obtain ⟨z1, z2⟩ := He.ba z
  have z1 := of_decide_eq_true z1
  have z2 := of_decide_eq_true z2
  by_cases e : d = b
  · exact .inr (List.any_eq_true.mpr ⟨d, hd, Bool.and_eq_true_iff.mpr ⟨decide_eq_true (by omega), decide_eq_true (by omega)⟩⟩)
  · exact .inl (List.any_eq_true.mpr ⟨d, hd, Bool.and_eq_true_iff.mpr ⟨decide_eq_true (by omega), decide_eq_true (by omega)⟩⟩)
theorem unl_none (fam : Fm) {b e : Int} (h : e < b) : unl fam b e = 0 := by
  induction fam with
  | nil => rfl
  | cons p fam ih => rw [unl_cons, hits_none h, ih]; rfl
theorem unl_mono {fam : Fm} (h : ∀ p ∈ fam, 0 ≤ p.2) {b e b' e' : Int} (h1 : b' ≤ b) (h2 : e ≤ e') : unl fam b e ≤ unl fam b' e' := by
  induction fam with
  | nil => exact Int.le_refl _
  | cons p fam ih =>
    rw [unl_cons, unl_cons]
    have i := ih fun q hq => h q (List.mem_cons_of_mem _ hq)
    have p0 := h p List.mem_cons_self
    cases c : hits p.1 b e with
    | true =>
      rw [hits_mono h1 h2 c]
      simp only [if_true]
      omega
    | false =>
      simp only [Bool.false_eq_true, if_false]
      split <;> omega
theorem unl_gap {fam : Fm} (h : ∀ p ∈ fam, 0 ≤ p.2) {a b : Int} (ab : a < b) : 0 ≤ unl fam a (b - 1) + unl fam (a + 1) b - unl fam (a + 1) (b - 1) - unl fam a b := by
  induction fam with
  | nil => exact Int.le_refl _
  | cons p fam ih =>
    rw [unl_cons, unl_cons, unl_cons, unl_cons]
    have i := ih fun q hq => h q (List.mem_cons_of_mem _ hq)
    have p0 := h p List.mem_cons_self
    cases c3 : hits p.1 (a + 1) (b - 1) with
    | true =>
      rw [hits_mono (b' := a) (e' := b - 1) (by omega) (by omega) c3, hits_mono (b' := a + 1) (e' := b) (by omega) (by omega) c3, hits_mono (b' := a) (e' := b) (by omega) (by omega) c3]
      simp only [if_true]
      omega
    | false =>
      cases c4 : hits p.1 a b with
      | true =>
        rcases hits_two ab c4 with z | z
        · rw [z]
          simp only [if_true, Bool.false_eq_true, if_false]
          split <;> omega
        · rw [z]
          simp only [if_true, Bool.false_eq_true, if_false]
          split <;> omega
      | false =>
        simp only [Bool.false_eq_true, if_false]
        split <;> split <;> omega
/-! sums of the first n -/
def sa (g : Nat → Int) : Nat → Int
  | 0 => 0
  | n + 1 => sa g n + g n
theorem sa_sum (g : Nat → Int) : ∀ n, ((List.range n).map g).sum = sa g n
  | 0 => rfl
  | n + 1 => by
    rw [List.range_succ, List.map_append, List.sum_append, sa_sum g n]
    show _ + ([g n].sum) = sa g n + g n
    simp
theorem sa_ext {g g' : Nat → Int} : ∀ {n : Nat}, (∀ i, i < n → g i = g' i) → sa g n = sa g' n
  | 0, _ => rfl
  | n + 1, h => by
    show sa g n + g n = sa g' n + g' n
    rw [sa_ext fun i hi => h i (by omega), h n (by omega)]
theorem sa_shift (g : Nat → Int) (m : Nat) : ∀ n, sa (fun i => g (m + i)) n = sa g (m + n) - sa g m
  | 0 => by
    show (0 : Int) = sa g m - sa g m
    omega
  | n + 1 => by
    show sa (fun i => g (m + i)) n + g (m + n) = sa g (m + n) + g (m + n) - sa g m
    rw [sa_shift g m n]
    omega
theorem sa_nonneg {g : Nat → Int} : ∀ {n : Nat}, (∀ i, i < n → 0 ≤ g i) → 0 ≤ sa g n
  | 0, _ => Int.le_refl _
  | n + 1, h => by
    have := sa_nonneg (n := n) fun i hi => h i (by omega)
    have := h n (by omega)
    show 0 ≤ sa g n + g n
    omega
theorem sa_le {g : Nat → Int} {c : Int} : ∀ {n : Nat}, (∀ i, i < n → g i ≤ c) → sa g n ≤ c * (n : Int)
  | 0, _ => by
    show (0 : Int) ≤ c * 0
    rw [Int.mul_zero]
    exact Int.le_refl _
  | n + 1, h => by
    have a := sa_le (n := n) fun i hi => h i (by omega)
    have b := h n (by omega)
    show sa g n + g n ≤ c * ((n + 1 : Nat) : Int)
    rw [Int.natCast_add, Int.mul_add]
    show _ ≤ c * (n : Int) + c * 1
    rw [Int.mul_one]
    omega
/-! who can come again -/
/-- the bound of t: those who are away ahead of it, those who are fresh behind -/
def bd (a f : Nat → Int) (m t : Nat) : Int := sa a t + (sa f m - sa f t)
/-- joined day by day: who is left, how many are found -/
def grd (a f : Nat → Int) : Nat → Int × Int
  | 0 => (0, 0)
  | i + 1 => ((grd a f i).1 + a i - (if f i < (grd a f i).1 + a i then f i else (grd a f i).1 + a i), (grd a f i).2 + (if f i < (grd a f i).1 + a i then f i else (grd a f i).1 + a i))
theorem grd_sum (a f : Nat → Int) : ∀ m, (grd a f m).1 + (grd a f m).2 = sa a m
  | 0 => rfl
  | m + 1 => by
    have := grd_sum a f m
    show (grd a f m).1 + a m - _ + ((grd a f m).2 + _) = sa a m + a m
    omega
theorem grd_least (a f : Nat → Int) : ∀ m, (∃ t, t ≤ m ∧ bd a f m t = (grd a f m).2) ∧ ∀ t, t ≤ m → (grd a f m).2 ≤ bd a f m t
  | 0 => ⟨⟨0, Nat.le_refl _, rfl⟩, fun t ht => by
    have : t = 0 := by omega
    subst this
    exact Int.le_refl _⟩
  | m + 1 => by
    obtain ⟨⟨t0, h0, e0⟩, h1⟩ := grd_least a f m
    have s := grd_sum a f m
    have up : ∀ t, t ≤ m → bd a f (m + 1) t = bd a f m t + f m := fun t _ => by
      show sa a t + (sa f m + f m - sa f t) = sa a t + (sa f m - sa f t) + f m
      omega
    have top : bd a f (m + 1) (m + 1) = sa a m + a m := by
      show sa a m + a m + (sa f m + f m - (sa f m + f m)) = _
      omega
    show (∃ t, t ≤ m + 1 ∧ bd a f (m + 1) t = (grd a f m).2 + (if f m < (grd a f m).1 + a m then f m else (grd a f m).1 + a m)) ∧ ∀ t, t ≤ m + 1 → (grd a f m).2 + (if f m < (grd a f m).1 + a m then f m else (grd a f m).1 + a m) ≤ bd a f (m + 1) t
    refine ⟨?_, fun t ht => ?_⟩
    · by_cases c : f m < (grd a f m).1 + a m
      · rw [if_pos c]
        exact ⟨t0, by omega, by rw [up t0 h0, e0]⟩
      · rw [if_neg c]
        exact ⟨m + 1, Nat.le_refl _, by rw [top]; omega⟩
    · have z : t ≤ m ∨ t = m + 1 := by omega
      rcases z with z | rfl
      · rw [up t z]
        have := h1 t z
        split <;> omega
      · rw [top]
        split <;> omega
end Fa

/-! visitors led from day to day along links (first, second, number): the families that come of it, and their numbers -/
namespace Fa
open PySem PySem.Spec PyProof.Rows L2
/-- the visitors of a family whose pattern has a property -/
def tot (φ : List Int → Bool) (F : Fm) : Int := (F.map fun p => if φ p.1 then p.2 else 0).sum
def all' (_ : List Int) : Bool := true
theorem tot_nil (φ : List Int → Bool) : tot φ [] = 0 := rfl
theorem tot_cons (φ : List Int → Bool) (p : List Int × Int) (F : Fm) : tot φ (p :: F) = (if φ p.1 then p.2 else 0) + tot φ F := by
  unfold tot
  rw [List.map_cons, List.sum_cons]
theorem tot_app (φ : List Int → Bool) (F G : Fm) : tot φ (F ++ G) = tot φ F + tot φ G := by
  unfold tot
  rw [List.map_append, List.sum_append]
theorem tot_unl (F : Fm) (a b : Int) : tot (fun p => hits p a b) F = unl F a b := rfl
theorem tot_perm {φ : List Int → Bool} {F G : Fm} (h : F.Perm G) : tot φ F = tot φ G := by
  induction h with
  | nil => rfl
  | cons x _ ih => rw [tot_cons, tot_cons, ih]
  | swap x y l =>
    rw [tot_cons, tot_cons, tot_cons, tot_cons]
    omega
  | trans _ _ a b => exact a.trans b
theorem tot_ext {φ ψ : List Int → Bool} {F : Fm} (h : ∀ p ∈ F, φ p.1 = ψ p.1) : tot φ F = tot ψ F := by
  unfold tot
  congr 1
  refine List.map_congr_left fun p hp => ?_
  rw [h p hp]
theorem tot_zero {φ : List Int → Bool} {F : Fm} (h : ∀ p ∈ F, φ p.1 = false) : tot φ F = 0 := by
  induction F with
  | nil => rfl
  | cons p F ih =>
    rw [tot_cons, h p List.mem_cons_self, ih fun q hq => h q (List.mem_cons_of_mem _ hq)]
    rfl
theorem tot_nonneg {φ : List Int → Bool} {F : Fm} (h : ∀ p ∈ F, 0 ≤ p.2) : 0 ≤ tot φ F := by
  induction F with
  | nil => exact Int.le_refl _
  | cons p F ih =>
    rw [tot_cons]
    have := ih fun q hq => h q (List.mem_cons_of_mem _ hq)
    have := h p List.mem_cons_self
    split <;> omega
/-! ### dealing groups among ways -/
/-- so many out of a stack: what is given, what is left -/
def serve : Fm → Int → Fm × Fm
  | [], _ => ([], [])
  | (p, m) :: st, l => if l ≤ 0 then ([], (p, m) :: st) else if l < m then ([(p, l)], (p, m - l) :: st) else ((p, m) :: (serve st (l - m)).1, (serve st (l - m)).2)
abbrev Way : Type := Option Int × Int
abbrev Part : Type := List Int × Option Int × Int
def deal : Fm → List Way → List Part
  | _, [] => []
  | st, (s, l) :: ws => ((serve st l).1.map fun q => (q.1, s, q.2)) ++ deal (serve st l).2 ws
theorem serve_tot (φ : List Int → Bool) : ∀ (st : Fm) (l : Int), tot φ (serve st l).1 + tot φ (serve st l).2 = tot φ st
  | [], l => rfl
  | (p, m) :: st, l => by
    unfold serve
    split
    · show 0 + tot φ ((p, m) :: st) = tot φ ((p, m) :: st)
      omega
    · split
      · show tot φ [(p, l)] + tot φ ((p, m - l) :: st) = tot φ ((p, m) :: st)
        rw [tot_cons, tot_cons, tot_cons, tot_nil]
        dsimp only
        split <;> omega
      · have := serve_tot φ st (l - m)
        show tot φ ((p, m) :: (serve st (l - m)).1) + tot φ (serve st (l - m)).2 = tot φ ((p, m) :: st)
        rw [tot_cons, tot_cons]
        dsimp only
        omega
theorem serve_pos : ∀ {st : Fm} {l : Int}, (∀ p ∈ st, 1 ≤ p.2) → (∀ p ∈ (serve st l).1, 1 ≤ p.2) ∧ ∀ p ∈ (serve st l).2, 1 ≤ p.2
  | [], l, _ => ⟨fun _ h => (nomatch h), fun _ h => (nomatch h)⟩
  | (p, m) :: st, l, h => by
    have h0 := h (p, m) List.mem_cons_self
    have ht : ∀ q ∈ st, 1 ≤ q.2 := fun q hq => h q (List.mem_cons_of_mem _ hq)
    unfold serve
    split
    · exact ⟨fun _ h => (nomatch h), h⟩
    · split
      · refine ⟨fun q hq => ?_, fun q hq => ?_⟩
        · rw [List.mem_singleton.mp hq]
          show 1 ≤ l
          omega
        · rcases List.mem_cons.mp hq with rfl | hq
          · show 1 ≤ m - l
            omega
          · exact ht q hq
      · obtain ⟨a, b⟩ := serve_pos (l := l - m) ht
        refine ⟨fun q hq => ?_, b⟩
        rcases List.mem_cons.mp hq with rfl | hq
        · exact h0
        · exact a q hq
theorem serve_sum : ∀ {st : Fm} {l : Int}, (∀ p ∈ st, 1 ≤ p.2) → 0 ≤ l → l ≤ tot all' st → tot all' (serve st l).1 = l
  | [], l, _, h0, h1 => by
    have : tot all' ([] : Fm) = 0 := rfl
    show (0 : Int) = l
    omega
  | (p, m) :: st, l, h, h0, h1 => by
    have hm := h (p, m) List.mem_cons_self
    rw [tot_cons] at h1
    have h1 : l ≤ m + tot all' st := h1
    unfold serve
    split
    · rw [tot_nil]
      omega
    · split
      · rw [tot_cons, tot_nil]
        show l + 0 = l
        omega
      · have := serve_sum (st := st) (l := l - m) (fun q hq => h q (List.mem_cons_of_mem _ hq)) (by omega) (by omega)
        rw [tot_cons]
        show m + _ = l
        omega
theorem serve_pre : ∀ (st : Fm) (l : Int), (((serve st l).1.map (·.1)).Sublist (st.map (·.1))) ∧ (((serve st l).2.map (·.1)).Sublist (st.map (·.1)))
  | [], l => ⟨List.Sublist.refl _, List.Sublist.refl _⟩
  | (p, m) :: st, l => by
    unfold serve
    split
    · exact ⟨List.nil_sublist _, List.Sublist.refl _⟩
    · split
      · exact ⟨List.Sublist.cons₂ _ (List.nil_sublist _), List.Sublist.refl _⟩
      · obtain ⟨a, b⟩ := serve_pre st (l - m)
        exact ⟨List.Sublist.cons₂ _ a, List.Sublist.cons _ b⟩
theorem serve_len : ∀ (st : Fm) (l : Int), (serve st l).1.length + (serve st l).2.length ≤ st.length + 1
  | [], l => by
    show 0 + 0 ≤ 0 + 1
    omega
  | (p, m) :: st, l => by
    unfold serve
    split
    · simp
    · split
      · simp
        omega
      · have := serve_len st (l - m)
        simp only [List.length_cons]
        omega
def totD (φ : List Int → Bool) (ψ : Option Int → Bool) (D : List Part) : Int := (D.map fun q => if φ q.1 && ψ q.2.1 then q.2.2 else 0).sum
theorem totD_app (φ : List Int → Bool) (ψ : Option Int → Bool) (D E : List Part) : totD φ ψ (D ++ E) = totD φ ψ D + totD φ ψ E := by
  unfold totD
  rw [List.map_append, List.sum_append]
theorem totD_cons (φ : List Int → Bool) (ψ : Option Int → Bool) (q : Part) (D : List Part) : totD φ ψ (q :: D) = (if φ q.1 && ψ q.2.1 then q.2.2 else 0) + totD φ ψ D := by
  unfold totD
  rw [List.map_cons, List.sum_cons]
theorem totD_way (φ : List Int → Bool) (ψ : Option Int → Bool) (s : Option Int) (F : Fm) : totD φ ψ (F.map fun q => (q.1, s, q.2)) = if ψ s then tot φ F else 0 := by
  induction F with
  | nil =>
    show (0 : Int) = _
    split <;> rfl
  | cons p F ih =>
    rw [List.map_cons, totD_cons, ih, tot_cons]
    dsimp only
    cases ψ s with
    | true => simp
    | false => simp
def yes (_ : Option Int) : Bool := true
theorem tot_pos {F : Fm} (h : ∀ p ∈ F, 1 ≤ p.2) (z : tot all' F = 0) : F = [] := by
  cases F with
  | nil => rfl
  | cons p F =>
    rw [tot_cons] at z
    have a := h p List.mem_cons_self
    have b := tot_nonneg (φ := all') (F := F) fun q hq => by have := h q (List.mem_cons_of_mem _ hq); omega
    have z : p.2 + tot all' F = 0 := z
    omega
theorem deal_way (ψ : Option Int → Bool) : ∀ {ws : List Way} {st : Fm}, (∀ p ∈ st, 1 ≤ p.2) → (∀ q ∈ ws, 0 ≤ q.2) → (ws.map (·.2)).sum ≤ tot all' st → totD all' ψ (deal st ws) = (ws.map fun q => if ψ q.1 then q.2 else 0).sum
  | [], _, _, _, _ => rfl
  | (s, l) :: ws, st, h1, h2, h3 => by
    rw [List.map_cons, List.sum_cons] at h3
    have h3 : l + (ws.map (·.2)).sum ≤ tot all' st := h3
    have l0 : 0 ≤ l := h2 (s, l) List.mem_cons_self
    have w0 : 0 ≤ (ws.map (·.2)).sum := by
      have : ∀ xs : List Way, (∀ q ∈ xs, 0 ≤ q.2) → 0 ≤ (xs.map (·.2)).sum := fun xs => by
        induction xs with
        | nil => exact fun _ => Int.le_refl _
        | cons x xs ih =>
          intro z
          rw [List.map_cons, List.sum_cons]
          have := ih fun q hq => z q (List.mem_cons_of_mem _ hq)
          have := z x List.mem_cons_self
          omega
      exact this ws fun q hq => h2 q (List.mem_cons_of_mem _ hq)
    have e := serve_sum h1 l0 (by omega)
    have t := serve_tot all' st l
    have ih := deal_way ψ (ws := ws) (st := (serve st l).2) (serve_pos h1).2 (fun q hq => h2 q (List.mem_cons_of_mem _ hq)) (by omega)
    show totD all' ψ (((serve st l).1.map fun q => (q.1, s, q.2)) ++ deal (serve st l).2 ws) = _
    rw [totD_app, totD_way, ih, List.map_cons, List.sum_cons, e]
theorem deal_pat (φ : List Int → Bool) : ∀ {ws : List Way} {st : Fm}, (∀ p ∈ st, 1 ≤ p.2) → (∀ q ∈ ws, 0 ≤ q.2) → (ws.map (·.2)).sum = tot all' st → totD φ yes (deal st ws) = tot φ st
  | [], st, h1, _, h3 => by
    have : st = [] := tot_pos h1 h3.symm
    subst this
    rfl
  | (s, l) :: ws, st, h1, h2, h3 => by
    rw [List.map_cons, List.sum_cons] at h3
    have h3 : l + (ws.map (·.2)).sum = tot all' st := h3
    have l0 : 0 ≤ l := h2 (s, l) List.mem_cons_self
    have w0 : 0 ≤ (ws.map (·.2)).sum := by
      have : ∀ xs : List Way, (∀ q ∈ xs, 0 ≤ q.2) → 0 ≤ (xs.map (·.2)).sum := fun xs => by
        induction xs with
        | nil => exact fun _ => Int.le_refl _
        | cons x xs ih =>
          intro z
          rw [List.map_cons, List.sum_cons]
          have := ih fun q hq => z q (List.mem_cons_of_mem _ hq)
          have := z x List.mem_cons_self
          omega
      exact this ws fun q hq => h2 q (List.mem_cons_of_mem _ hq)
    have e := serve_sum h1 l0 (by omega)
    have t := serve_tot all' st l
    have tp := serve_tot φ st l
    have ih := deal_pat φ (ws := ws) (st := (serve st l).2) (serve_pos h1).2 (fun q hq => h2 q (List.mem_cons_of_mem _ hq)) (by omega)
    show totD φ yes (((serve st l).1.map fun q => (q.1, s, q.2)) ++ deal (serve st l).2 ws) = _
    rw [totD_app, totD_way, ih]
    show tot φ _ + _ = _
    omega
theorem deal_mem : ∀ {ws : List Way} {st : Fm} {q : Part}, (∀ p ∈ st, 1 ≤ p.2) → q ∈ deal st ws → 1 ≤ q.2.2 ∧ q.1 ∈ st.map (·.1) ∧ q.2.1 ∈ ws.map (·.1)
  | [], _, _, _, h => (nomatch h)
  | (s, l) :: ws, st, q, h1, h => by
    rcases List.mem_append.mp h with h | h
    · obtain ⟨p, hp, rfl⟩ := List.mem_map.mp h
      exact ⟨(serve_pos h1).1 p hp, (serve_pre st l).1.subset (List.mem_map.mpr ⟨p, hp, rfl⟩), List.mem_cons_self⟩
    · obtain ⟨a, b, c⟩ := deal_mem (serve_pos h1).2 h
      exact ⟨a, (serve_pre st l).2.subset b, List.mem_cons_of_mem _ c⟩
theorem deal_nodup : ∀ {ws : List Way} {st : Fm}, (∀ p ∈ st, 1 ≤ p.2) → (st.map (·.1)).Nodup → (ws.map (·.1)).Nodup → ((deal st ws).map fun q => (q.1, q.2.1)).Nodup
  | [], _, _, _, _ => List.nodup_nil
  | (s, l) :: ws, st, h1, h2, h3 => by
    rw [List.map_cons, List.nodup_cons] at h3
    show ((((serve st l).1.map fun q => (q.1, s, q.2)) ++ deal (serve st l).2 ws).map fun q : Part => (q.1, q.2.1)).Nodup
    rw [List.map_append, List.nodup_append]
    refine ⟨?_, deal_nodup (serve_pos h1).2 ((serve_pre st l).2.nodup h2) h3.2, fun x hx y hy z => ?_⟩
    · rw [List.map_map, show ((fun q : Part => (q.1, q.2.1)) ∘ fun q : List Int × Int => (q.1, s, q.2)) = (fun d : List Int => (d, s)) ∘ (·.1) from rfl, ← List.map_map]
      exact List.pairwise_map.mpr (((serve_pre st l).1.nodup h2).imp fun h z => h (Prod.mk.inj z).1)
    · obtain ⟨u, hu, rfl⟩ := List.mem_map.mp hx
      obtain ⟨v, hv, rfl⟩ := List.mem_map.mp hu
      obtain ⟨q, hq, rfl⟩ := List.mem_map.mp hy
      obtain ⟨_, _, c⟩ := deal_mem (serve_pos h1).2 hq
      have : q.2.1 = s := (Prod.mk.inj z).2.symm
      rw [this] at c
      exact h3.1 c
theorem deal_len : ∀ (ws : List Way) (st : Fm), (deal st ws).length ≤ st.length + ws.length
  | [], st => Nat.zero_le _
  | (s, l) :: ws, st => by
    have a := serve_len st l
    have b := deal_len ws (serve st l).2
    show (((serve st l).1.map fun q => (q.1, s, q.2)) ++ deal (serve st l).2 ws).length ≤ _
    rw [List.length_append, List.length_map, List.length_cons]
    omega
end Fa

namespace Fa
open PySem PySem.Spec PyProof.Rows L2
/-! ### links -/
def lsum (P : Tri → Bool) (L : List Tri) : Int := ((L.filter P).map fun p => p.2.2).sum
theorem lsum_cons (P : Tri → Bool) (p : Tri) (L : List Tri) : lsum P (p :: L) = (if P p then p.2.2 else 0) + lsum P L := by
  unfold lsum
  rw [List.filter_cons]
  split
  · rw [List.map_cons, List.sum_cons]
  · omega
theorem lsum_app (P : Tri → Bool) (L M : List Tri) : lsum P (L ++ M) = lsum P L + lsum P M := by
  unfold lsum
  rw [List.filter_append, List.map_append, List.sum_append]
theorem lsum_ext {P Q : Tri → Bool} {L : List Tri} (h : ∀ p ∈ L, P p = Q p) : lsum P L = lsum Q L := by
  unfold lsum
  rw [List.filter_congr h]
theorem lsum_add {P Q R : Tri → Bool} {L : List Tri} (h : ∀ p ∈ L, (if R p then p.2.2 else (0 : Int)) = (if P p then p.2.2 else 0) + (if Q p then p.2.2 else 0)) : lsum R L = lsum P L + lsum Q L := by
  induction L with
  | nil => rfl
  | cons p L ih =>
    rw [lsum_cons, lsum_cons, lsum_cons, ih fun q hq => h q (List.mem_cons_of_mem _ hq), h p List.mem_cons_self]
    omega
theorem lsum_zero {P : Tri → Bool} {L : List Tri} (h : ∀ p ∈ L, P p = false) : lsum P L = 0 := by
  unfold lsum
  rw [List.filter_eq_nil_iff.mpr fun p hp => by rw [h p hp]; exact Bool.false_ne_true]
  rfl
theorem lsum_nonneg {P : Tri → Bool} {L : List Tri} (h : ∀ p ∈ L, 0 ≤ p.2.2) : 0 ≤ lsum P L := by
  induction L with
  | nil => exact Int.le_refl _
  | cons p L ih =>
    rw [lsum_cons]
    have := ih fun q hq => h q (List.mem_cons_of_mem _ hq)
    have := h p List.mem_cons_self
    split <;> omega
def frm (i : Nat) (p : Tri) : Bool := decide (p.1 = (i : Int))
def tow (i : Nat) (p : Tri) : Bool := decide (p.2.1 = (i : Int))
structure Links (n : Nat) (r0 : Nat → Int) (L : List Tri) : Prop where
  ok : ∀ p ∈ L, 0 ≤ p.1 ∧ p.1 < p.2.1 ∧ p.2.1 < (n : Int) ∧ 1 ≤ p.2.2
  nd : (L.map fun p => (p.1, p.2.1)).Nodup
  out : ∀ i, i < n → lsum (frm i) L ≤ r0 i
  inn : ∀ i, i < n → lsum (tow i) L ≤ r0 i
def ways (L : List Tri) (i : Nat) : List Way := (L.filter (frm i)).map fun p => (some p.2.1, p.2.2)
def newN (r0 : Nat → Int) (L : List Tri) (i : Nat) : Int := r0 i - lsum (tow i) L
def goneN (r0 : Nat → Int) (L : List Tri) (i : Nat) : Int := r0 i - lsum (frm i) L
/-- o: the groups of a day in some order; v: its ways, in some order -/
def stk (r0 : Nat → Int) (L : List Tri) (o : Nat → Fm → Fm) (i : Nat) (g : Fm) : Fm := ((o i (g ++ [(([] : List Int), newN r0 L i)])).filter fun p : List Int × Int => decide (p.2 > 0)).reverse
def dayD (r0 : Nat → Int) (L : List Tri) (o : Nat → Fm → Fm) (v : Nat → List Way) (i : Nat) (g : Fm) : List Part := deal (stk r0 L o i g) (v i)
structure Ord (n : Nat) (r0 : Nat → Int) (L : List Tri) (o : Nat → Fm → Fm) (v : Nat → List Way) : Prop where
  o : ∀ i g, (o i g).Perm g
  v : ∀ i, i < n → (v i).Perm (ways L i ++ [((none : Option Int), goneN r0 L i)])
def stA (D : List Part) (i : Nat) (s : Option Int) : Fm := (D.filter fun q => decide (q.2.1 = s)).map fun q => (q.1 ++ [(i : Int)], q.2.2)
def route (r0 : Nat → Int) (L : List Tri) (o : Nat → Fm → Fm) (v : Nat → List Way) : Nat → (Nat → Fm) × Fm
  | 0 => (fun _ => [], [])
  | i + 1 => (fun x => (route r0 L o v i).1 x ++ stA (dayD r0 L o v i ((route r0 L o v i).1 i)) i (some (x : Int)), (route r0 L o v i).2 ++ stA (dayD r0 L o v i ((route r0 L o v i).1 i)) i none)
/-- the number of a stretch from a on, of the days below k -/
def UU (r0 : Nat → Int) (L : List Tri) (a : Int) : Nat → Int
  | 0 => 0
  | k + 1 => UU r0 L a k + if a ≤ (k : Int) then r0 k - lsum (fun p : Tri => tow k p && decide (a ≤ p.1)) L else 0
theorem UU_none (r0 : Nat → Int) (L : List Tri) {a : Int} : ∀ {k : Nat}, (k : Int) ≤ a → UU r0 L a k = 0
  | 0, _ => rfl
  | k + 1, h => by
    show UU r0 L a k + _ = 0
    rw [UU_none r0 L (k := k) (by omega), if_neg (by omega)]
    rfl
/-! ### sums over parts -/
def vsum (v : Part → Int) (D : List Part) : Int := (D.map v).sum
theorem vsum_cons (v : Part → Int) (q : Part) (D : List Part) : vsum v (q :: D) = v q + vsum v D := by
  unfold vsum
  rw [List.map_cons, List.sum_cons]
theorem sa_zero {g : Nat → Int} : ∀ {m : Nat}, (∀ i, i < m → g i = 0) → sa g m = 0
  | 0, _ => rfl
  | m + 1, h => by
    show sa g m + g m = 0
    rw [sa_zero fun i hi => h i (by omega), h m (by omega)]
    rfl
theorem sa_one (v : Int) (j : Nat) : ∀ m : Nat, sa (fun x => if x = j then v else 0) m = if j < m then v else 0
  | 0 => by
    rw [if_neg (by omega)]
    rfl
  | m + 1 => by
    show sa (fun x => if x = j then v else 0) m + (if m = j then v else 0) = _
    rw [sa_one v j m]
    by_cases h : j < m
    · rw [if_pos h, if_neg (by omega), if_pos (by omega)]
      omega
    · by_cases e : m = j
      · rw [if_neg h, if_pos e, if_pos (by omega)]
        omega
      · rw [if_neg h, if_neg e, if_neg (by omega)]
        rfl
theorem sa_add (g h : Nat → Int) : ∀ m, sa (fun x => g x + h x) m = sa g m + sa h m
  | 0 => rfl
  | m + 1 => by
    show sa (fun x => g x + h x) m + (g m + h m) = sa g m + g m + (sa h m + h m)
    rw [sa_add g h m]
    omega
theorem sa_head (g : Nat → Int) : ∀ m, sa g (m + 1) = g 0 + sa (fun x => g (x + 1)) m
  | 0 => by
    show (0 : Int) + g 0 = g 0 + 0
    omega
  | m + 1 => by
    show sa g (m + 1) + g (m + 1) = g 0 + (sa (fun x => g (x + 1)) m + g (m + 1))
    rw [sa_head g m]
    omega
theorem vsum_part (v : Part → Int) (i m : Nat) : ∀ {D : List Part}, (∀ q ∈ D, q.2.1 = none ∨ ∃ x : Nat, x < m ∧ q.2.1 = some (((i + x : Nat)) : Int)) →
    vsum v D = vsum (fun q => if q.2.1 = none then v q else 0) D + sa (fun x => vsum (fun q => if q.2.1 = some (((i + x : Nat)) : Int) then v q else 0) D) m
  | [], _ => by
    have z : sa (fun x => vsum (fun q => if q.2.1 = some (((i + x : Nat)) : Int) then v q else 0) []) m = 0 := sa_zero fun _ _ => rfl
    rw [z]
    rfl
  | q :: D, h => by
    have ih := vsum_part v i m (D := D) fun p hp => h p (List.mem_cons_of_mem _ hp)
    rw [vsum_cons, vsum_cons, ih, sa_ext (g := fun x => vsum (fun q => if q.2.1 = some (((i + x : Nat)) : Int) then v q else 0) (q :: D)) (g' := fun x => (if q.2.1 = some (((i + x : Nat)) : Int) then v q else 0) + vsum (fun q => if q.2.1 = some (((i + x : Nat)) : Int) then v q else 0) D) fun x _ => vsum_cons _ _ _, sa_add]
    rcases h q List.mem_cons_self with e | ⟨x0, hx, e⟩
    · rw [e, if_pos rfl, sa_zero (g := fun x => if (none : Option Int) = some (((i + x : Nat)) : Int) then v q else 0) fun x _ => if_neg (fun z => by cases z)]
      omega
    · rw [e, if_neg (fun z => by cases z)]
      have : sa (fun x => if (some (((i + x0 : Nat)) : Int) : Option Int) = some (((i + x : Nat)) : Int) then v q else 0) m = v q := by
        rw [sa_ext (g' := fun x => if x = x0 then v q else 0) fun x _ => ?_, sa_one, if_pos hx]
        by_cases z : x = x0
        · rw [z, if_pos rfl, if_pos rfl]
        · rw [if_neg z, if_neg fun y => z (by have := Option.some.inj y; omega)]
      rw [this]
      omega
theorem tot_stA (φ : List Int → Bool) (i : Nat) (s : Option Int) (D : List Part) : tot φ (stA D i s) = vsum (fun q => if q.2.1 = s then (if φ (q.1 ++ [(i : Int)]) then q.2.2 else 0) else 0) D := by
  induction D with
  | nil => rfl
  | cons q D ih =>
    rw [vsum_cons, ← ih]
    unfold stA
    rw [List.filter_cons]
    by_cases h : q.2.1 = s
    · rw [if_pos (decide_eq_true h), if_pos h, List.map_cons, tot_cons]
    · rw [if_neg (by rw [decide_eq_false h]; exact Bool.false_ne_true), if_neg h]
      omega
theorem len_stA (i : Nat) (s : Option Int) (D : List Part) : ((stA D i s).length : Int) = vsum (fun q => if q.2.1 = s then 1 else 0) D := by
  induction D with
  | nil => rfl
  | cons q D ih =>
    rw [vsum_cons, ← ih]
    unfold stA
    rw [List.filter_cons]
    by_cases h : q.2.1 = s
    · rw [if_pos (decide_eq_true h), if_pos h, List.map_cons, List.length_cons]
      omega
    · rw [if_neg (by rw [decide_eq_false h]; exact Bool.false_ne_true), if_neg h]
      omega
theorem len_vsum (D : List Part) : (D.length : Int) = vsum (fun _ => 1) D := by
  induction D with
  | nil => rfl
  | cons q D ih =>
    rw [vsum_cons, ← ih, List.length_cons]
    omega
theorem vsum_ext {v u : Part → Int} {D : List Part} (h : ∀ q ∈ D, v q = u q) : vsum v D = vsum u D := by
  unfold vsum
  rw [List.map_congr_left h]
theorem totD_vsum (φ : List Int → Bool) (ψ : Option Int → Bool) (D : List Part) : totD φ ψ D = vsum (fun q => if φ q.1 && ψ q.2.1 then q.2.2 else 0) D := rfl
/-! ### patterns -/
theorem Pat.up {i : Nat} {ds : List Int} (h : Pat (i : Int) ds) : Pat ((i + 1 : Nat) : Int) ds := ⟨h.ne, h.asc, fun d hd => by
  have := h.bd d hd
  omega⟩
theorem Pat.snoc {i : Nat} {ds : List Int} (h : ds = [] ∨ Pat (i : Int) ds) : Pat ((i + 1 : Nat) : Int) (ds ++ [(i : Int)]) := by
  have b : ∀ d ∈ ds, 0 ≤ d ∧ d < (i : Int) := fun d hd => by
    rcases h with rfl | h
    · cases hd
    · exact h.bd d hd
  refine ⟨by simp, ?_, fun d hd => ?_⟩
  · rw [List.pairwise_append]
    refine ⟨?_, List.pairwise_singleton _ _, fun x hx y hy => ?_⟩
    · rcases h with rfl | h
      · exact .nil
      · exact h.asc
    · rw [List.mem_singleton.mp hy]
      exact (b x hx).2
  · rcases List.mem_append.mp hd with z | z
    · have := b d z
      omega
    · rw [List.mem_singleton.mp z]
      omega
theorem hits_low {ds : List Int} {i : Int} (h : ∀ d ∈ ds, d < i) (a : Int) {b : Int} (hb : i - 1 ≤ b) : hits ds a b = hits ds a (i - 1) := by
  unfold hits
  rw [Bool.eq_iff_iff, List.any_eq_true, List.any_eq_true]
  constructor
  · rintro ⟨d, hd, z⟩
    have := h d hd
    obtain ⟨z1, z2⟩ := He.ba z
    exact ⟨d, hd, Bool.and_eq_true_iff.mpr ⟨z1, decide_eq_true (by omega)⟩⟩
  · rintro ⟨d, hd, z⟩
    obtain ⟨z1, z2⟩ := He.ba z
    have z2 := of_decide_eq_true z2
    exact ⟨d, hd, Bool.and_eq_true_iff.mpr ⟨z1, decide_eq_true (by omega)⟩⟩
theorem hits_snoc_low {ds : List Int} {i a b : Int} (hb : b < i) : hits (ds ++ [i]) a b = hits ds a b := by
  unfold hits
  rw [List.any_append]
  have : ([i].any fun d => decide (a ≤ d) && decide (d ≤ b)) = false := by
    rw [List.any_cons, List.any_nil, decide_eq_false (show ¬ i ≤ b by omega), Bool.and_false, Bool.or_false]
  rw [this, Bool.or_false]
theorem hits_snoc_at {ds : List Int} {i a : Int} (ha : a ≤ i) : hits (ds ++ [i]) a i = true :=
  List.any_eq_true.mpr ⟨i, List.mem_append_right _ List.mem_cons_self, Bool.and_eq_true_iff.mpr ⟨decide_eq_true ha, decide_eq_true (Int.le_refl _)⟩⟩
theorem Pat.hit {i : Int} {ds : List Int} (h : Pat i ds) : hits ds 0 (i - 1) = true := by
  cases ds with
  | nil => exact absurd rfl h.ne
  | cons d l =>
    have := h.bd d List.mem_cons_self
    exact List.any_eq_true.mpr ⟨d, List.mem_cons_self, Bool.and_eq_true_iff.mpr ⟨decide_eq_true this.1, decide_eq_true (by omega)⟩⟩
theorem tot_filter {φ : List Int → Bool} : ∀ {F : Fm}, (∀ p ∈ F, 0 ≤ p.2) → tot φ (F.filter fun p => decide (p.2 > 0)) = tot φ F
  | [], _ => rfl
  | p :: F, h => by
    have ih := tot_filter (φ := φ) (F := F) fun q hq => h q (List.mem_cons_of_mem _ hq)
    have p0 := h p List.mem_cons_self
    rw [List.filter_cons]
    by_cases z : p.2 > 0
    · rw [if_pos (decide_eq_true z), tot_cons, tot_cons, ih]
    · rw [if_neg (by rw [decide_eq_false z]; exact Bool.false_ne_true), tot_cons, ih]
      have : p.2 = 0 := by omega
      rw [this]
      split <;> omega
/-! ### a day -/
structure Rt (n : Nat) (r0 : Nat → Int) (L : List Tri) (i : Nat) (arr : Nat → Fm) (fam : Fm) : Prop where
  A : ∀ x q, q ∈ arr x → 1 ≤ q.2 ∧ Pat (i : Int) q.1
  C : ∀ q, q ∈ fam → 1 ≤ q.2 ∧ Pat (i : Int) q.1
  B : ∀ x : Nat, i ≤ x → ∀ a : Int, 0 ≤ a → tot (fun p => hits p a ((i : Int) - 1)) (arr x) = lsum (fun p => tow x p && (decide (a ≤ p.1) && decide (p.1 < (i : Int)))) L
  Da : ∀ x, ((arr x).map (·.1)).Nodup
  Df : (fam.map (·.1)).Nodup
  U : ∀ a : Int, 0 ≤ a → ∀ k : Nat, k ≤ i → tot (fun p => hits p a ((k : Int) - 1)) fam + sa (fun x => tot (fun p => hits p a ((k : Int) - 1)) (arr (i + x))) (n - i) = UU r0 L a k
  len : (fam.length : Int) + sa (fun x => ((arr (i + x)).length : Int)) (n - i) ≤ 2 * (i : Int) + ((L.filter fun p => decide (p.1 < (i : Int))).length : Int)
theorem rt_zero (n : Nat) (r0 : Nat → Int) (L : List Tri) (h : ∀ p ∈ L, 0 ≤ p.1) : Rt n r0 L 0 (fun _ => []) [] := by
  refine ⟨fun _ _ z => (nomatch z), fun _ z => (nomatch z), fun x _ a ha => ?_, fun _ => List.nodup_nil, List.nodup_nil, fun a ha k hk => ?_, ?_⟩
  · rw [lsum_zero fun p hp => ?_]
    · rfl
    · have := h p hp
      rw [decide_eq_false (show ¬ p.1 < ((0 : Nat) : Int) by omega), Bool.and_false, Bool.and_false]
  · have : k = 0 := by omega
    subst this
    have z : sa (fun _ => tot (fun p => hits p a (((0 : Nat) : Int) - 1)) []) (n - 0) = 0 := sa_zero fun _ _ => rfl
    rw [z]
    rfl
  · have z : sa (fun _ => (([] : Fm).length : Int)) (n - 0) = 0 := sa_zero fun _ _ => rfl
    rw [z]
    show ((0 : Nat) : Int) + 0 ≤ _
    omega
section
variable {n : Nat} {r0 : Nat → Int} {L : List Tri} {o : Nat → Fm → Fm} {v : Nat → List Way} {i : Nat} {arr : Nat → Fm} {fam : Fm}
theorem Rt.stk_pos (g : Fm) : ∀ p ∈ stk r0 L o i g, 1 ≤ p.2 := fun p hp => by
  have := (List.mem_filter.mp (List.mem_reverse.mp hp)).2
  have := of_decide_eq_true this
  omega
theorem Rt.stk_mem (hO : Ord n r0 L o v) {g : Fm} {p : List Int × Int} (h : p ∈ stk r0 L o i g) : p ∈ g ∨ p.1 = [] := by
  rcases List.mem_append.mp ((hO.o _ _).mem_iff.mp (List.mem_filter.mp (List.mem_reverse.mp h)).1) with z | z
  · exact .inl z
  · rw [List.mem_singleton.mp z]
    exact .inr rfl
theorem Rt.new0 (hL : Links n r0 L) (hi : i < n) : 0 ≤ newN r0 L i := by
  have := hL.inn i hi
  unfold newN
  omega
theorem Rt.gone0 (hL : Links n r0 L) (hi : i < n) : 0 ≤ goneN r0 L i := by
  have := hL.out i hi
  unfold goneN
  omega
theorem Rt.stk_tot (R : Rt n r0 L i arr fam) (hO : Ord n r0 L o v) (hL : Links n r0 L) (hi : i < n) (φ : List Int → Bool) : tot φ (stk r0 L o i (arr i)) = tot φ (arr i) + if φ [] then newN r0 L i else 0 := by
  unfold stk
  rw [tot_perm (List.reverse_perm _), tot_perm ((hO.o _ _).filter _), tot_filter, tot_app, tot_cons, tot_nil]
  · dsimp only
    omega
  · intro p hp
    rcases List.mem_append.mp hp with z | z
    · have := (R.A i p z).1
      omega
    · rw [List.mem_singleton.mp z]
      exact Rt.new0 hL hi
theorem Rt.arr_all (R : Rt n r0 L i arr fam) (hL : Links n r0 L) : tot all' (arr i) = lsum (tow i) L := by
  have := R.B i (Nat.le_refl _) 0 (Int.le_refl _)
  rw [tot_ext (ψ := fun p => hits p 0 ((i : Int) - 1)) fun p hp => ((R.A i p hp).2.hit).symm, this]
  refine lsum_ext fun p hp => ?_
  have o := hL.ok p hp
  unfold tow
  by_cases z : p.2.1 = (i : Int)
  · rw [decide_eq_true z, decide_eq_true o.1, decide_eq_true (show p.1 < (i : Int) by omega)]
    rfl
  · rw [decide_eq_false z, Bool.false_and]
theorem Rt.sup (R : Rt n r0 L i arr fam) (hO : Ord n r0 L o v) (hL : Links n r0 L) (hi : i < n) : tot all' (stk r0 L o i (arr i)) = r0 i := by
  rw [R.stk_tot hO hL hi, R.arr_all hL]
  show lsum (tow i) L + newN r0 L i = r0 i
  unfold newN
  omega
theorem ways_sum (ψ : Option Int → Bool) (L : List Tri) (i : Nat) : ((ways L i).map fun q => if ψ q.1 then q.2 else 0).sum = lsum (fun p : Tri => frm i p && ψ (some p.2.1)) L := by
  unfold ways
  induction L with
  | nil => rfl
  | cons p L ih =>
    rw [lsum_cons, List.filter_cons]
    by_cases h : frm i p = true
    · rw [if_pos h, List.map_cons, List.map_cons, List.sum_cons, ih, h, Bool.true_and]
    · rw [if_neg h, ih, Bool.eq_false_iff.mpr h, Bool.false_and, if_neg Bool.false_ne_true]
      omega
theorem sum_perm : ∀ {l m : List Int}, l.Perm m → l.sum = m.sum := fun h => by
  induction h with
  | nil => rfl
  | cons x _ ih => rw [List.sum_cons, List.sum_cons, ih]
  | swap x y l => simp only [List.sum_cons]; omega
  | trans _ _ a b => exact a.trans b
theorem Rt.dem (hO : Ord n r0 L o v) (hL : Links n r0 L) (hi : i < n) : ((v i).map fun q : Way => q.2).sum = r0 i ∧ ∀ q ∈ v i, 0 ≤ q.2 := by
  have pm := hO.v i hi
  rw [sum_perm (pm.map _)]
  suffices h : ((ways L i ++ [((none : Option Int), goneN r0 L i)]).map fun q : Way => q.2).sum = r0 i ∧ ∀ q ∈ ways L i ++ [((none : Option Int), goneN r0 L i)], 0 ≤ q.2 from ⟨h.1, fun q hq => h.2 q (pm.mem_iff.mp hq)⟩
  constructor
  · rw [List.map_append, List.sum_append]
    have := ways_sum (fun _ => true) L i
    rw [show (fun q : Way => if (fun _ : Option Int => true) q.1 then q.2 else 0) = (·.2) from rfl] at this
    rw [this, lsum_ext (Q := frm i) fun p _ => Bool.and_true _]
    show lsum (frm i) L + ([goneN r0 L i].sum) = r0 i
    unfold goneN
    simp only [List.sum_cons, List.sum_nil]
    omega
  · intro q hq
    rcases List.mem_append.mp hq with z | z
    · obtain ⟨p, hp, rfl⟩ := List.mem_map.mp z
      have := (hL.ok p (List.mem_filter.mp hp).1).2.2.2
      show 0 ≤ p.2.2
      omega
    · rw [List.mem_singleton.mp z]
      exact Rt.gone0 hL hi
theorem Rt.seg (hO : Ord n r0 L o v) (hL : Links n r0 L) (hi : i < n) {q : Part} (h : q ∈ dayD r0 L o v i (arr i)) : q.2.1 = none ∨ ∃ x : Nat, x < n - (i + 1) ∧ q.2.1 = some (((i + 1 + x : Nat)) : Int) := by
  obtain ⟨_, _, c⟩ := deal_mem (Rt.stk_pos _) h
  have c := ((hO.v i hi).map _).mem_iff.mp c
  rw [List.map_append] at c
  rcases List.mem_append.mp c with z | z
  · obtain ⟨w, hw, e⟩ := List.mem_map.mp z
    obtain ⟨p, hp, rfl⟩ := List.mem_map.mp hw
    obtain ⟨m1, m2⟩ := List.mem_filter.mp hp
    have o := hL.ok p m1
    have m2 := of_decide_eq_true m2
    refine .inr ⟨(p.2.1 - ((i + 1 : Nat) : Int)).toNat, by omega, ?_⟩
    rw [← e]
    show some p.2.1 = some _
    congr 1
    omega
  · exact .inl (List.mem_singleton.mp z)
/-- all parts of a day, by their way -/
theorem Rt.all_new (hO : Ord n r0 L o v) (hL : Links n r0 L) (hi : i < n) (φ : List Int → Bool) : tot φ (stA (dayD r0 L o v i (arr i)) i none) + sa (fun x => tot φ (stA (dayD r0 L o v i (arr i)) i (some (((i + 1 + x : Nat)) : Int)))) (n - (i + 1)) = totD (fun p => φ (p ++ [(i : Int)])) yes (dayD r0 L o v i (arr i)) := by
  rw [totD_vsum, vsum_part _ (i + 1) (n - (i + 1)) fun q hq => Rt.seg hO hL hi hq, tot_stA]
  congr 1
  · refine vsum_ext fun q _ => ?_
    show _ = if q.2.1 = none then (if φ (q.1 ++ [(i : Int)]) && true then q.2.2 else 0) else 0
    rw [Bool.and_true]
  · refine sa_ext fun x _ => ?_
    rw [tot_stA]
    refine vsum_ext fun q _ => ?_
    show _ = if q.2.1 = some (((i + 1 + x : Nat)) : Int) then (if φ (q.1 ++ [(i : Int)]) && true then q.2.2 else 0) else 0
    rw [Bool.and_true]
theorem Rt.step (R : Rt n r0 L i arr fam) (hO : Ord n r0 L o v) (hL : Links n r0 L) (hi : i < n) :
    Rt n r0 L (i + 1) (fun x => arr x ++ stA (dayD r0 L o v i (arr i)) i (some (x : Int))) (fam ++ stA (dayD r0 L o v i (arr i)) i none) := by
  have sp := Rt.stk_pos (r0 := r0) (L := L) (o := o) (i := i) (arr i)
  obtain ⟨dm, dn⟩ := Rt.dem hO hL hi
  have sup := R.sup hO hL hi
  have pat : ∀ q ∈ dayD r0 L o v i (arr i), 1 ≤ q.2.2 ∧ (q.1 = [] ∨ Pat (i : Int) q.1) := fun q hq => by
    obtain ⟨a, b, _⟩ := deal_mem sp hq
    obtain ⟨p, hp, e⟩ := List.mem_map.mp b
    refine ⟨a, ?_⟩
    rw [← e]
    rcases Rt.stk_mem hO hp with z | z
    · exact .inr (R.A i p z).2
    · exact .inl z
  have nA : ∀ s, ∀ q ∈ stA (dayD r0 L o v i (arr i)) i s, 1 ≤ q.2 ∧ Pat ((i + 1 : Nat) : Int) q.1 := fun s q hq => by
    obtain ⟨u, hu, rfl⟩ := List.mem_map.mp hq
    obtain ⟨h1, h2⟩ := pat u (List.mem_filter.mp hu).1
    exact ⟨h1, Pat.snoc h2⟩
  have sn : ((stk r0 L o i (arr i)).map (·.1)).Nodup := by
    unfold stk
    rw [List.map_reverse]
    refine ((List.reverse_perm _).nodup_iff).mpr ?_
    refine List.Sublist.nodup ((List.filter_sublist (p := fun p : List Int × Int => decide (p.2 > 0)) (l := o i (arr i ++ [([], newN r0 L i)]))).map (·.1)) ?_
    refine (((hO.o _ _).map _).nodup_iff).mpr ?_
    rw [List.map_append, List.nodup_append]
    refine ⟨R.Da i, List.pairwise_singleton _ _, fun x hx y hy z => ?_⟩
    obtain ⟨p, hp, rfl⟩ := List.mem_map.mp hx
    rw [List.mem_singleton.mp hy] at z
    exact (R.A i p hp).2.ne z
  have wn : ((v i).map (·.1)).Nodup := by
    refine (((hO.v i hi).map _).nodup_iff).mpr ?_
    rw [List.map_append, List.nodup_append]
    refine ⟨?_, List.pairwise_singleton _ _, fun x hx y hy z => ?_⟩
    · unfold ways
      rw [List.map_map]
      have nd := List.pairwise_map.mp (show List.Pairwise (· ≠ ·) _ from hL.nd)
      refine List.pairwise_map.mpr ?_
      refine (List.Pairwise.filter (frm i) nd).imp_of_mem fun {a b} ha hb h z => h ?_
      have e1 := of_decide_eq_true (List.mem_filter.mp ha).2
      have e2 := of_decide_eq_true (List.mem_filter.mp hb).2
      exact Prod.ext (e1.trans e2.symm) (Option.some.inj z)
    · obtain ⟨w, hw, rfl⟩ := List.mem_map.mp hx
      obtain ⟨p, _, rfl⟩ := List.mem_map.mp hw
      rw [List.mem_singleton.mp hy] at z
      cases z
  have dnd := deal_nodup sp sn wn
  have nD : ∀ s, ((stA (dayD r0 L o v i (arr i)) i s).map (·.1)).Nodup := fun s => by
    unfold stA
    rw [List.map_map]
    have nd := List.pairwise_map.mp (show List.Pairwise (· ≠ ·) _ from dnd)
    refine List.pairwise_map.mpr ?_
    refine (List.Pairwise.filter (fun q : Part => decide (q.2.1 = s)) nd).imp_of_mem fun {a b} ha hb h z => h ?_
    have e1 := of_decide_eq_true (List.mem_filter.mp ha).2
    have e2 := of_decide_eq_true (List.mem_filter.mp hb).2
    have e3 : a.1 ++ [(i : Int)] = b.1 ++ [(i : Int)] := z
    exact Prod.ext (List.append_cancel_right e3) (e1.trans e2.symm)
  have off : ∀ (F : Fm) s, (∀ q ∈ F, 1 ≤ q.2 ∧ Pat (i : Int) q.1) → (F.map (·.1)).Nodup → ((F ++ stA (dayD r0 L o v i (arr i)) i s).map (·.1)).Nodup := fun F s hF nF => by
    rw [List.map_append, List.nodup_append]
    refine ⟨nF, nD s, fun x hx y hy z => ?_⟩
    obtain ⟨p, hp, rfl⟩ := List.mem_map.mp hx
    obtain ⟨q, hq, rfl⟩ := List.mem_map.mp hy
    obtain ⟨u, hu, rfl⟩ := List.mem_map.mp hq
    have m : (i : Int) ∈ p.1 := by
      rw [z]
      exact List.mem_append_right _ List.mem_cons_self
    have := (hF p hp).2.bd _ m
    omega
  -- numbers of the old ones
  have low : ∀ (F : Fm) (a : Int), (∀ q ∈ F, 1 ≤ q.2 ∧ Pat (i : Int) q.1) → tot (fun p => hits p a ((i + 1 : Nat) - 1 : Int)) F = tot (fun p => hits p a ((i : Int) - 1)) F := fun F a hF => tot_ext fun p hp => hits_low (fun d hd => ((hF p hp).2.bd d hd).2) a (by omega)
  refine ⟨fun x q hq => ?_, fun q hq => ?_, fun x hx a ha => ?_, fun x => off _ _ (R.A x) (R.Da x), off _ _ R.C R.Df, fun a ha k hk => ?_, ?_⟩
  · rcases List.mem_append.mp hq with z | z
    · exact ⟨(R.A x q z).1, (R.A x q z).2.up⟩
    · exact nA _ q z
  · rcases List.mem_append.mp hq with z | z
    · exact ⟨(R.C q z).1, (R.C q z).2.up⟩
    · exact nA _ q z
  · rw [tot_app, low _ a (R.A x), R.B x (by omega) a ha, tot_stA]
    have e1 : vsum (fun q => if q.2.1 = some (x : Int) then (if hits (q.1 ++ [(i : Int)]) a ((i + 1 : Nat) - 1 : Int) then q.2.2 else 0) else 0) (dayD r0 L o v i (arr i)) = if a ≤ (i : Int) then lsum (fun p => frm i p && tow x p) L else 0 := by
      by_cases h : a ≤ (i : Int)
      · rw [if_pos h]
        have w := deal_way (fun s => decide (s = some (x : Int))) sp dn (by rw [dm, sup]; exact Int.le_refl _)
        have ws : ((ways L i).map fun q => if decide (q.1 = some (x : Int)) = true then q.2 else 0).sum = lsum (fun p : Tri => frm i p && decide (some p.2.1 = some (x : Int))) L := ways_sum (fun s => decide (s = some (x : Int))) L i
        rw [sum_perm ((hO.v i hi).map _), List.map_append, List.sum_append, ws] at w
        have w2 : totD all' (fun s => decide (s = some (x : Int))) (dayD r0 L o v i (arr i)) = lsum (fun p => frm i p && tow x p) L := by
          refine w.trans ?_
          rw [show ([((none : Option Int), goneN r0 L i)].map fun q => if (fun s => decide (s = some (x : Int))) q.1 then q.2 else 0).sum = 0 from rfl, Int.add_zero]
          refine lsum_ext fun p _ => ?_
          unfold tow
          congr 1
          by_cases z : p.2.1 = (x : Int)
          · rw [z, decide_eq_true rfl, decide_eq_true rfl]
          · rw [decide_eq_false z, decide_eq_false fun y => z (Option.some.inj y)]
        rw [← w2, totD_vsum]
        refine vsum_ext fun q _ => ?_
        show _ = if true && decide (q.2.1 = some (x : Int)) then q.2.2 else 0
        rw [Bool.true_and]
        by_cases z : q.2.1 = some (x : Int)
        · rw [if_pos z, if_pos (decide_eq_true z), show ((i + 1 : Nat) - 1 : Int) = (i : Int) by omega, hits_snoc_at h, if_pos rfl]
        · rw [if_neg z, if_neg (by rw [decide_eq_false z]; exact Bool.false_ne_true)]
      · rw [if_neg h]
        have : vsum (fun q => if q.2.1 = some (x : Int) then (if hits (q.1 ++ [(i : Int)]) a ((i + 1 : Nat) - 1 : Int) then q.2.2 else 0) else 0) (dayD r0 L o v i (arr i)) = vsum (fun _ => 0) (dayD r0 L o v i (arr i)) := vsum_ext fun q _ => by
          rw [hits_none (by omega)]
          simp
        rw [this]
        generalize dayD r0 L o v i (arr i) = D
        induction D with
        | nil => rfl
        | cons q D ih =>
          rw [vsum_cons, ih]
          rfl
    rw [e1]
    by_cases h : a ≤ (i : Int)
    · rw [if_pos h]
      refine (lsum_add fun p hp => ?_).symm
      unfold tow frm
      by_cases z : p.2.1 = (x : Int)
      · rw [decide_eq_true z]
        by_cases y : p.1 = (i : Int)
        · rw [decide_eq_true y, decide_eq_false (show ¬ p.1 < (i : Int) by omega), decide_eq_true (show p.1 < ((i + 1 : Nat) : Int) by omega), decide_eq_true (show a ≤ p.1 by omega)]
          simp
        · by_cases y2 : p.1 < (i : Int)
          · rw [decide_eq_true y2, decide_eq_true (show p.1 < ((i + 1 : Nat) : Int) by omega), decide_eq_false y]
            simp
          · rw [decide_eq_false y2, decide_eq_false (show ¬ p.1 < ((i + 1 : Nat) : Int) by omega), decide_eq_false y]
            simp
      · rw [decide_eq_false z]
        simp
    · rw [if_neg h, Int.add_zero]
      refine lsum_ext fun p hp => ?_
      by_cases y : a ≤ p.1
      · rw [decide_eq_false (show ¬ p.1 < (i : Int) by omega), decide_eq_false (show ¬ p.1 < ((i + 1 : Nat) : Int) by omega)]
      · rw [decide_eq_false y, Bool.false_and, Bool.false_and]
  · -- the numbers of stretches
    have hd : n - i = (n - (i + 1)) + 1 := by omega
    have parts : ∀ φ : List Int → Bool, tot φ (fam ++ stA (dayD r0 L o v i (arr i)) i none) + sa (fun x => tot φ (arr (i + 1 + x) ++ stA (dayD r0 L o v i (arr i)) i (some (((i + 1 + x : Nat)) : Int)))) (n - (i + 1)) = tot φ fam + sa (fun x => tot φ (arr (i + 1 + x))) (n - (i + 1)) + totD (fun p => φ (p ++ [(i : Int)])) yes (dayD r0 L o v i (arr i)) := fun φ => by
      rw [← Rt.all_new hO hL hi φ, tot_app, sa_ext (g' := fun x => tot φ (arr (i + 1 + x)) + tot φ (stA (dayD r0 L o v i (arr i)) i (some (((i + 1 + x : Nat)) : Int)))) fun x _ => tot_app _ _ _, sa_add]
      omega
    have old : ∀ φ : List Int → Bool, tot φ fam + sa (fun x => tot φ (arr (i + x))) (n - i) = tot φ fam + sa (fun x => tot φ (arr (i + 1 + x))) (n - (i + 1)) + tot φ (arr i) := fun φ => by
      rw [hd, sa_head, sa_ext (g' := fun x => tot φ (arr (i + 1 + x))) fun x _ => by rw [show i + (x + 1) = i + 1 + x by omega]]
      show tot φ fam + (tot φ (arr i) + _) = _
      omega
    rw [parts]
    have ke : k ≤ i ∨ k = i + 1 := by omega
    rcases ke with ke | rfl
    · have U := R.U a ha k ke
      rw [old] at U
      have dp := deal_pat (fun p => hits p a ((k : Int) - 1)) sp dn (by rw [dm, sup])
      have e1 : totD (fun p => hits (p ++ [(i : Int)]) a ((k : Int) - 1)) yes (dayD r0 L o v i (arr i)) = totD (fun p => hits p a ((k : Int) - 1)) yes (dayD r0 L o v i (arr i)) := by
        rw [totD_vsum, totD_vsum]
        refine vsum_ext fun q _ => ?_
        rw [hits_snoc_low (by omega)]
      rw [e1]
      have e2 := R.stk_tot hO hL hi (fun p => hits p a ((k : Int) - 1))
      rw [show (if hits [] a ((k : Int) - 1) then newN r0 L i else 0) = 0 from rfl, Int.add_zero] at e2
      have e3 : totD (fun p => hits p a ((k : Int) - 1)) yes (dayD r0 L o v i (arr i)) = tot (fun p => hits p a ((k : Int) - 1)) (stk r0 L o i (arr i)) := dp
      rw [e3, e2]
      exact U
    · have U := R.U a ha i (Nat.le_refl _)
      rw [old] at U
      have lf := low fam a R.C
      have la : sa (fun x => tot (fun p => hits p a ((i + 1 : Nat) - 1 : Int)) (arr (i + 1 + x))) (n - (i + 1)) = sa (fun x => tot (fun p => hits p a ((i : Int) - 1)) (arr (i + 1 + x))) (n - (i + 1)) := sa_ext fun x _ => low _ a (R.A _)
      rw [lf, la]
      by_cases h : a ≤ (i : Int)
      · have e1 : totD (fun p => hits (p ++ [(i : Int)]) a ((i + 1 : Nat) - 1 : Int)) yes (dayD r0 L o v i (arr i)) = totD all' yes (dayD r0 L o v i (arr i)) := by
          rw [totD_vsum, totD_vsum]
          refine vsum_ext fun q _ => ?_
          rw [show ((i + 1 : Nat) - 1 : Int) = (i : Int) by omega, hits_snoc_at h]
          rfl
        have dp := deal_pat all' sp dn (by rw [dm, sup])
        have e3 : totD all' yes (dayD r0 L o v i (arr i)) = r0 i := dp.trans sup
        have b := R.B i (Nat.le_refl _) a ha
        have e4 : lsum (fun p => tow i p && (decide (a ≤ p.1) && decide (p.1 < (i : Int)))) L = lsum (fun p => tow i p && decide (a ≤ p.1)) L := lsum_ext fun p hp => by
          have o := hL.ok p hp
          unfold tow
          by_cases z : p.2.1 = (i : Int)
          · rw [decide_eq_true (show p.1 < (i : Int) by omega), Bool.and_true]
          · rw [decide_eq_false z, Bool.false_and, Bool.false_and]
        rw [e1, e3]
        show _ = UU r0 L a i + if a ≤ (i : Int) then r0 i - lsum (fun p => tow i p && decide (a ≤ p.1)) L else 0
        rw [if_pos h, ← e4, ← b]
        omega
      · have e1 : totD (fun p => hits (p ++ [(i : Int)]) a ((i + 1 : Nat) - 1 : Int)) yes (dayD r0 L o v i (arr i)) = 0 := by
          rw [totD_vsum]
          have : vsum (fun q => if hits (q.1 ++ [(i : Int)]) a ((i + 1 : Nat) - 1 : Int) && yes q.2.1 then q.2.2 else 0) (dayD r0 L o v i (arr i)) = vsum (fun _ => 0) (dayD r0 L o v i (arr i)) := vsum_ext fun q _ => by
            rw [hits_none (by omega)]
            rfl
          rw [this]
          generalize dayD r0 L o v i (arr i) = D
          induction D with
          | nil => rfl
          | cons q D ih =>
            rw [vsum_cons, ih]
            rfl
        have e2 : tot (fun p => hits p a ((i : Int) - 1)) (arr i) = 0 := tot_zero fun p _ => hits_none (by omega)
        rw [e1]
        show _ = UU r0 L a i + if a ≤ (i : Int) then r0 i - lsum (fun p => tow i p && decide (a ≤ p.1)) L else 0
        rw [if_neg h]
        omega
  · have hd : n - i = (n - (i + 1)) + 1 := by omega
    have l0 := R.len
    rw [hd, sa_head, sa_ext (g' := fun x => ((arr (i + 1 + x)).length : Int)) fun x _ => by rw [show i + (x + 1) = i + 1 + x by omega]] at l0
    have l1 : ((arr (i + 0)).length : Int) = ((arr i).length : Int) := rfl
    have p1 := vsum_part (fun _ => 1) (i + 1) (n - (i + 1)) (D := dayD r0 L o v i (arr i)) fun q hq => Rt.seg hO hL hi hq
    rw [← len_vsum] at p1
    have dl := deal_len (v i) (stk r0 L o i (arr i))
    rw [(hO.v i hi).length_eq] at dl
    have sl : (stk r0 L o i (arr i)).length ≤ (arr i).length + 1 := by
      unfold stk
      rw [List.length_reverse]
      refine Nat.le_trans (List.length_filter_le _ _) ?_
      rw [(hO.o _ _).length_eq, List.length_append]
      exact Nat.le_refl _
    have dl' : (dayD r0 L o v i (arr i)).length ≤ (stk r0 L o i (arr i)).length + ((ways L i).length + 1) := by
      rw [List.length_append] at dl
      exact dl
    have fl : ((L.filter fun p => decide (p.1 < ((i + 1 : Nat) : Int))).length : Int) = ((L.filter fun p => decide (p.1 < (i : Int))).length : Int) + ((ways L i).length : Int) := by
      unfold ways
      rw [List.length_map]
      clear hO hL R sup sp dm dn pat nA sn wn dnd nD off low l0 p1 dl sl dl'
      induction L with
      | nil => rfl
      | cons p L ih =>
        rw [List.filter_cons, List.filter_cons, List.filter_cons]
        unfold frm at ih ⊢
        by_cases y : p.1 = (i : Int)
        · rw [if_pos (decide_eq_true (show p.1 < ((i + 1 : Nat) : Int) by omega)), if_neg (by rw [decide_eq_false (show ¬ p.1 < (i : Int) by omega)]; exact Bool.false_ne_true), if_pos (decide_eq_true y), List.length_cons, List.length_cons]
          omega
        · by_cases y2 : p.1 < (i : Int)
          · rw [if_pos (decide_eq_true (show p.1 < ((i + 1 : Nat) : Int) by omega)), if_pos (decide_eq_true y2), if_neg (by rw [decide_eq_false y]; exact Bool.false_ne_true), List.length_cons, List.length_cons]
            omega
          · rw [if_neg (by rw [decide_eq_false (show ¬ p.1 < ((i + 1 : Nat) : Int) by omega)]; exact Bool.false_ne_true), if_neg (by rw [decide_eq_false y2]; exact Bool.false_ne_true), if_neg (by rw [decide_eq_false y]; exact Bool.false_ne_true)]
            omega
    rw [List.length_append]
    have e5 : sa (fun x => ((arr (i + 1 + x) ++ stA (dayD r0 L o v i (arr i)) i (some (((i + 1 + x : Nat)) : Int))).length : Int)) (n - (i + 1)) = sa (fun x => ((arr (i + 1 + x)).length : Int)) (n - (i + 1)) + sa (fun x => vsum (fun q => if q.2.1 = some (((i + 1 + x : Nat)) : Int) then 1 else 0) (dayD r0 L o v i (arr i))) (n - (i + 1)) := by
      rw [← sa_add]
      refine sa_ext fun x _ => ?_
      rw [List.length_append, Int.natCast_add, len_stA]
    have e6 := len_stA i none (dayD r0 L o v i (arr i))
    rw [e5, Int.natCast_add, e6]
    omega
theorem route_ok (hO : Ord n r0 L o v) (hL : Links n r0 L) : ∀ i, i ≤ n → Rt n r0 L i (route r0 L o v i).1 (route r0 L o v i).2
  | 0, _ => rt_zero n r0 L fun p hp => (hL.ok p hp).1
  | i + 1, h => (route_ok hO hL i (by omega)).step hO hL (by omega)
end
end Fa

/-! joins of days a0 + i with days a0 + w + j, i up to j, each as great as it can be, so many together -/
namespace Fa
open PySem PySem.Spec PyProof.Rows L2
def mn2 (x y : Int) : Int := if y < x then y else x
def mn3 (x y z : Int) : Int := mn2 (mn2 x y) z
abbrev JSt : Type := (Nat → Int) × Int × Int × List Tri
def jstep (a0 w j i : Nat) (s : JSt) : JSt := if mn3 (s.1 i) s.2.1 s.2.2.1 > 0 then (fun x => if x = i then s.1 i - mn3 (s.1 i) s.2.1 s.2.2.1 else s.1 x, s.2.1 - mn3 (s.1 i) s.2.1 s.2.2.1, s.2.2.1 - mn3 (s.1 i) s.2.1 s.2.2.1, s.2.2.2 ++ [(((a0 + i : Nat) : Int), ((a0 + w + j : Nat) : Int), mn3 (s.1 i) s.2.1 s.2.2.1)]) else s
def jin (a0 w j : Nat) (s : JSt) : Nat → JSt
  | 0 => s
  | i + 1 => jstep a0 w j i (jin a0 w j s i)
def jout (a0 w : Nat) (f : Nat → Int) (A : Nat → Int) (t : Int) : Nat → (Nat → Int) × Int × List Tri
  | 0 => (A, t, [])
  | j + 1 => ((jin a0 w j ((jout a0 w f A t j).1, f j, (jout a0 w f A t j).2.1, (jout a0 w f A t j).2.2) (j + 1)).1, (jin a0 w j ((jout a0 w f A t j).1, f j, (jout a0 w f A t j).2.1, (jout a0 w f A t j).2.2) (j + 1)).2.2.1, (jin a0 w j ((jout a0 w f A t j).1, f j, (jout a0 w f A t j).2.1, (jout a0 w f A t j).2.2) (j + 1)).2.2.2)
def anyT (_ : Tri) : Bool := true
theorem mn3_bd {x y z : Int} (h : mn3 x y z > 0) : mn3 x y z ≤ x ∧ mn3 x y z ≤ y ∧ mn3 x y z ≤ z := by
  unfold mn3 mn2 at *
  split <;> split <;> omega
theorem mn3_zero {x y z : Int} (h : ¬ mn3 x y z > 0) (x0 : 0 ≤ x) (y0 : 0 ≤ y) (z0 : 0 ≤ z) : x = 0 ∨ y = 0 ∨ z = 0 := by
  unfold mn3 mn2 at h
  split at h <;> split at h <;> omega
/-- within a day j: what holds behind i steps -/
structure JIn (a0 w j : Nat) (s0 : JSt) (i : Nat) (s : JSt) : Prop where
  A0 : ∀ x, 0 ≤ s.1 x
  f0 : 0 ≤ s.2.1
  l0 : 0 ≤ s.2.2.1
  later : ∀ x, i ≤ x → s.1 x = s0.1 x
  sums : sa s.1 i + (s0.2.1 - s.2.1) = sa s0.1 i
  left : s.2.2.1 + (s0.2.1 - s.2.1) = s0.2.2.1
  le : s.2.1 ≤ s0.2.1
  full : sa s.1 i = 0 ∨ s.2.1 = 0 ∨ s.2.2.1 = 0
  tot : lsum anyT s.2.2.2 = lsum anyT s0.2.2.2 + (s0.2.1 - s.2.1)
  to : ∀ b, lsum (tow b) s.2.2.2 = lsum (tow b) s0.2.2.2 + if b = a0 + w + j then s0.2.1 - s.2.1 else 0
  fr : ∀ x, lsum (frm (a0 + x)) s.2.2.2 + s.1 x = lsum (frm (a0 + x)) s0.2.2.2 + s0.1 x
  out : ∀ b, b < a0 → lsum (frm b) s.2.2.2 = lsum (frm b) s0.2.2.2
  mem : ∀ p ∈ s.2.2.2, p ∈ s0.2.2.2 ∨ ∃ x m, x < i ∧ 1 ≤ m ∧ p = (((a0 + x : Nat) : Int), ((a0 + w + j : Nat) : Int), m)
  nd : (s.2.2.2.map fun p => (p.1, p.2.1)).Nodup
  len : s.2.2.2.length ≤ s0.2.2.2.length + i
theorem sa_upd {g : Nat → Int} {i : Nat} {v : Int} : ∀ {k : Nat}, k ≤ i → sa (fun x => if x = i then v else g x) k = sa g k
  | 0, _ => rfl
  | k + 1, h => by
    show sa (fun x => if x = i then v else g x) k + (if k = i then v else g k) = sa g k + g k
    rw [sa_upd (k := k) (by omega), if_neg (by omega)]
theorem jin_ok {a0 w j : Nat} {s0 : JSt} (A0 : ∀ x, 0 ≤ s0.1 x) (f0 : 0 ≤ s0.2.1) (l0 : 0 ≤ s0.2.2.1) (nd : (s0.2.2.2.map fun p => (p.1, p.2.1)).Nodup) (fresh : ∀ p ∈ s0.2.2.2, p.2.1 ≠ ((a0 + w + j : Nat) : Int)) : ∀ i, JIn a0 w j s0 i (jin a0 w j s0 i)
  | 0 => ⟨A0, f0, l0, fun _ _ => rfl, by show (0 : Int) + (s0.2.1 - s0.2.1) = 0; omega, by show s0.2.2.1 + (s0.2.1 - s0.2.1) = _; omega, Int.le_refl _, .inl rfl, by show lsum anyT s0.2.2.2 = lsum anyT s0.2.2.2 + (s0.2.1 - s0.2.1); omega, fun b => by
      show lsum (tow b) s0.2.2.2 = lsum (tow b) s0.2.2.2 + if b = a0 + w + j then s0.2.1 - s0.2.1 else 0
      split <;> omega, fun x => rfl, fun _ _ => rfl, fun p hp => .inl hp, nd, Nat.le_refl _⟩
  | i + 1 => by
    have h := jin_ok A0 f0 l0 nd fresh i
    show JIn a0 w j s0 (i + 1) (jstep a0 w j i (jin a0 w j s0 i))
    generalize jin a0 w j s0 i = s at h ⊢
    obtain ⟨A, fr, lf, J⟩ := s
    unfold jstep
    by_cases c : mn3 (A i) fr lf > 0
    · rw [if_pos c]
      have bd := mn3_bd c
      dsimp only
      obtain ⟨mm, em⟩ : ∃ mm : Int, mm = mn3 (A i) fr lf := ⟨_, rfl⟩
      rw [← em] at c bd ⊢
      have hA := h.A0
      have hsum := h.sums
      have hleft := h.left
      have hle := h.le
      have htot := h.tot
      have hf := h.f0
      have hl := h.l0
      dsimp only at hA hsum hleft hle htot hf hl
      have Ai : A i = s0.1 i := h.later i (Nat.le_refl _)
      have one : ∀ P : Tri → Bool, lsum P (J ++ [(((a0 + i : Nat) : Int), ((a0 + w + j : Nat) : Int), mm)]) = lsum P J + if P (((a0 + i : Nat) : Int), ((a0 + w + j : Nat) : Int), mm) then mm else 0 := fun P => by
        rw [lsum_app, lsum_cons]
        show lsum P J + ((if P _ then mm else 0) + 0) = _
        omega
      refine ⟨fun x => ?_, by show 0 ≤ fr - mm; omega, by show 0 ≤ lf - mm; omega, fun x hx => ?_, ?_, by show lf - mm + (s0.2.1 - (fr - mm)) = _; omega, by show fr - mm ≤ _; omega, ?_, ?_, fun b => ?_, fun x => ?_, fun b hb => ?_, fun p hp => ?_, ?_, ?_⟩
      · show 0 ≤ if x = i then A i - mm else A x
        split
        · omega
        · exact hA x
      · show (if x = i then A i - mm else A x) = _
        rw [if_neg (by omega)]
        exact h.later x (by omega)
      · show sa (fun x => if x = i then A i - mm else A x) i + (if i = i then A i - mm else A i) + (s0.2.1 - (fr - mm)) = sa s0.1 i + s0.1 i
        rw [sa_upd (Nat.le_refl _), if_pos rfl]
        omega
      · show sa (fun x => if x = i then A i - mm else A x) i + (if i = i then A i - mm else A i) = 0 ∨ fr - mm = 0 ∨ lf - mm = 0
        rw [sa_upd (Nat.le_refl _), if_pos rfl]
        have hfull := h.full
        dsimp only at hfull
        have e3 : mm = A i ∨ mm = fr ∨ mm = lf := by
          rw [em]
          unfold mn3 mn2
          split <;> split <;> omega
        have := h.full
        omega
      · show lsum anyT (J ++ _) = _ + (s0.2.1 - (fr - mm))
        rw [one, htot]
        show _ + mm = _
        omega
      · show lsum (tow b) (J ++ _) = _ + if b = a0 + w + j then s0.2.1 - (fr - mm) else 0
        have := h.to b
        dsimp only at this
        rw [one, this]
        unfold tow
        by_cases z : b = a0 + w + j
        · rw [if_pos z, if_pos z, if_pos (decide_eq_true (by show ((a0 + w + j : Nat) : Int) = (b : Int); omega))]
          omega
        · rw [if_neg z, if_neg z, if_neg (by rw [decide_eq_false (by show ¬ ((a0 + w + j : Nat) : Int) = (b : Int); omega)]; exact Bool.false_ne_true)]
          omega
      · show lsum (frm (a0 + x)) (J ++ _) + (if x = i then A i - mm else A x) = _
        have := h.fr x
        dsimp only at this
        rw [one]
        unfold frm at this ⊢
        by_cases z : x = i
        · subst z
          rw [if_pos rfl, if_pos (decide_eq_true rfl)]
          omega
        · rw [if_neg z, if_neg (by rw [decide_eq_false (by show ¬ ((a0 + i : Nat) : Int) = ((a0 + x : Nat) : Int); omega)]; exact Bool.false_ne_true)]
          omega
      · show lsum (frm b) (J ++ _) = _
        have := h.out b hb
        dsimp only at this
        rw [one, this]
        unfold frm
        rw [if_neg (by rw [decide_eq_false (by show ¬ ((a0 + i : Nat) : Int) = (b : Int); omega)]; exact Bool.false_ne_true)]
        omega
      · rcases List.mem_append.mp hp with z | z
        · rcases h.mem p z with y | ⟨x, m, hx, hm, e⟩
          · exact .inl y
          · exact .inr ⟨x, m, by omega, hm, e⟩
        · exact .inr ⟨i, mm, by omega, by omega, List.mem_singleton.mp z⟩
      · show ((J ++ _).map fun p => (p.1, p.2.1)).Nodup
        rw [List.map_append, List.nodup_append]
        refine ⟨h.nd, List.pairwise_singleton _ _, fun x hx y hy z => ?_⟩
        obtain ⟨p, hp, rfl⟩ := List.mem_map.mp hx
        rw [List.mem_singleton.mp hy] at z
        obtain ⟨z1, z2⟩ := Prod.mk.inj z
        rcases h.mem p hp with y | ⟨x, m, hx, _, e⟩
        · exact fresh p y z2
        · rw [e] at z1
          have z1 : ((a0 + x : Nat) : Int) = ((a0 + i : Nat) : Int) := z1
          omega
      · show (J ++ _).length ≤ _
        have := h.len
        dsimp only at this
        rw [List.length_append]
        show J.length + 1 ≤ _
        omega
    · rw [if_neg c]
      have hA := h.A0
      have hz := mn3_zero c (hA i) h.f0 h.l0
      have hfull := h.full
      have hsum := h.sums
      have Ai : A i = s0.1 i := h.later i (Nat.le_refl _)
      dsimp only at hA hz hfull hsum
      refine ⟨h.A0, h.f0, h.l0, fun x hx => h.later x (by omega), ?_, h.left, h.le, ?_, h.tot, h.to, h.fr, h.out, fun p hp => ?_, h.nd, by have := h.len; omega⟩
      · show sa A i + A i + (s0.2.1 - fr) = sa s0.1 i + s0.1 i
        omega
      · show sa A i + A i = 0 ∨ fr = 0 ∨ lf = 0
        omega
      · rcases h.mem p hp with y | ⟨x, m, hx, hm, e⟩
        · exact .inl y
        · exact .inr ⟨x, m, by omega, hm, e⟩
/-- behind j days -/
structure JOut (a0 w : Nat) (a f : Nat → Int) (t : Int) (j : Nat) (s : (Nat → Int) × Int × List Tri) : Prop where
  A0 : ∀ x, 0 ≤ s.1 x
  l0 : 0 ≤ s.2.1
  later : ∀ x, j ≤ x → s.1 x = a x
  sums : sa s.1 j + (t - s.2.1) = sa a j
  tot : lsum anyT s.2.2 = t - s.2.1
  grd : t - s.2.1 = mn2 t (grd a f j).2
  to : ∀ b, lsum (tow b) s.2.2 ≤ if a0 + w ≤ b ∧ b < a0 + w + j then f (b - (a0 + w)) else 0
  fr : ∀ x, lsum (frm (a0 + x)) s.2.2 + s.1 x = a x
  out : ∀ b, b < a0 → lsum (frm b) s.2.2 = 0
  mem : ∀ p ∈ s.2.2, ∃ x y m, x ≤ y ∧ y < j ∧ 1 ≤ m ∧ p = (((a0 + x : Nat) : Int), ((a0 + w + y : Nat) : Int), m)
  nd : (s.2.2.map fun p => (p.1, p.2.1)).Nodup
  len : s.2.2.length ≤ j * j
theorem jout_ok {a0 w : Nat} {a f : Nat → Int} {t : Int} (ha : ∀ x, 0 ≤ a x) (hf : ∀ x, 0 ≤ f x) (t0 : 0 ≤ t) : ∀ j, JOut a0 w a f t j (jout a0 w f a t j)
  | 0 => by
    refine ⟨ha, t0, fun _ _ => rfl, by show (0 : Int) + (t - t) = 0; omega, by show (0 : Int) = t - t; omega, ?_, fun b => ?_, fun x => by show (0 : Int) + a x = a x; omega, fun _ _ => rfl, fun _ z => (nomatch z), List.nodup_nil, Nat.le_refl _⟩
    · show t - t = mn2 t 0
      unfold mn2
      split <;> omega
    · show (0 : Int) ≤ _
      split
      · exact hf _
      · exact Int.le_refl _
  | j + 1 => by
    have h := jout_ok (a0 := a0) (w := w) ha hf t0 j
    show JOut a0 w a f t (j + 1) ((jin a0 w j ((jout a0 w f a t j).1, f j, (jout a0 w f a t j).2.1, (jout a0 w f a t j).2.2) (j + 1)).1, (jin a0 w j ((jout a0 w f a t j).1, f j, (jout a0 w f a t j).2.1, (jout a0 w f a t j).2.2) (j + 1)).2.2.1, (jin a0 w j ((jout a0 w f a t j).1, f j, (jout a0 w f a t j).2.1, (jout a0 w f a t j).2.2) (j + 1)).2.2.2)
    generalize jout a0 w f a t j = s at h ⊢
    obtain ⟨A, lf, J⟩ := s
    have I := jin_ok (a0 := a0) (w := w) (j := j) (s0 := (A, f j, lf, J)) h.A0 (hf j) h.l0 h.nd (fun p hp z => by
      obtain ⟨x, y, m, _, hy, _, e⟩ := h.mem p hp
      rw [e] at z
      have z : ((a0 + w + y : Nat) : Int) = ((a0 + w + j : Nat) : Int) := z
      omega) (j + 1)
    show JOut a0 w a f t (j + 1) ((jin a0 w j (A, f j, lf, J) (j + 1)).1, (jin a0 w j (A, f j, lf, J) (j + 1)).2.2.1, (jin a0 w j (A, f j, lf, J) (j + 1)).2.2.2)
    generalize jin a0 w j (A, f j, lf, J) (j + 1) = r at I ⊢
    obtain ⟨A', fr', lf', J'⟩ := r
    have i1 := I.sums
    have i2 := I.left
    have i3 := I.tot
    have i4 := I.full
    have i5 := I.le
    have i6 := I.A0
    have i7 := I.f0
    have i8 := I.l0
    have o1 := h.sums
    have o2 := h.tot
    have o3 := h.grd
    have o4 := h.later
    dsimp only at i1 i2 i3 i4 i5 i6 i7 i8 o1 o2 o3 o4
    have i1 : sa A' (j + 1) + (f j - fr') = sa A j + A j := i1
    have Aj : A j = a j := o4 j (Nat.le_refl _)
    have gs := grd_sum a f j
    refine ⟨i6, i8, fun x hx => (I.later x hx).trans (o4 x (by omega)), ?_, ?_, ?_, fun b => ?_, fun x => ?_, fun b hb => ?_, fun p hp => ?_, I.nd, ?_⟩
    · show sa A' (j + 1) + (t - lf') = sa a j + a j
      omega
    · show lsum anyT J' = t - lf'
      omega
    · show t - lf' = mn2 t ((Fa.grd a f j).2 + (if f j < (Fa.grd a f j).1 + a j then f j else (Fa.grd a f j).1 + a j))
      have sA := sa_nonneg (g := A') (n := j + 1) fun x _ => i6 x
      have sB := sa_nonneg (g := A) (n := j) fun x _ => h.A0 x
      have aj := ha j
      have fj := hf j
      unfold mn2 at o3 ⊢
      split at o3 <;> split <;> split <;> omega
    · show lsum (tow b) J' ≤ _
      have a1 := I.to b
      have a2 := h.to b
      dsimp only at a1 a2
      rw [a1]
      by_cases z : b = a0 + w + j
      · subst z
        rw [if_neg (by omega)] at a2
        rw [if_pos rfl, if_pos (by omega), show a0 + w + j - (a0 + w) = j by omega]
        omega
      · rw [if_neg z]
        by_cases y : a0 + w ≤ b ∧ b < a0 + w + j
        · rw [if_pos y] at a2
          rw [if_pos (by omega)]
          omega
        · rw [if_neg y] at a2
          rw [if_neg (by omega)]
          omega
    · have a1 := I.fr x
      have a2 := h.fr x
      dsimp only at a1 a2
      show lsum (frm (a0 + x)) J' + A' x = a x
      omega
    · exact (I.out b hb).trans (h.out b hb)
    · rcases I.mem p hp with z | ⟨x, m, hx, hm, e⟩
      · obtain ⟨x, y, m, h1, h2, h3, e⟩ := h.mem p z
        exact ⟨x, y, m, h1, by omega, h3, e⟩
      · exact ⟨x, j, m, by omega, by omega, hm, e⟩
    · have a1 := I.len
      have a2 := h.len
      dsimp only at a1 a2
      show J'.length ≤ (j + 1) * (j + 1)
      have : (j + 1) * (j + 1) = j * j + 2 * j + 1 := by
        rw [Nat.add_mul, Nat.mul_add]
        omega
      omega
end Fa

/-! min of a list of pairs of numbers; comprehensions of numbers; small calls -/
namespace Fa
open PySem PySem.Spec PyProof.Rows L2
abbrev Two : Type := Int × Int
def TwoAt (H : Hp) (x : V) (p : Two) : Prop := ∃ t, x = .ref t ∧ H t = some (.tup [.int p.1, .int p.2])
/-- at most, first item first -/
def le2 (p q : Two) : Prop := p.1 < q.1 ∨ (p.1 = q.1 ∧ p.2 ≤ q.2)
theorem lt2_iff (p q : Two) : PySem.W.DatumOrd.lt p q = true ↔ p.1 < q.1 ∨ (p.1 = q.1 ∧ p.2 < q.2) := by
  show (if p.1 = q.1 then decide (p.2 < q.2) else decide (p.1 < q.1)) = true ↔ _
  by_cases h : p.1 = q.1
  · rw [if_pos h]
    constructor
    · intro z
      exact .inr ⟨h, of_decide_eq_true z⟩
    · intro z
      rcases z with z | z
      · omega
      · exact decide_eq_true z.2
  · rw [if_neg h]
    constructor
    · intro z
      exact .inl (of_decide_eq_true z)
    · intro z
      rcases z with z | z
      · exact decide_eq_true z
      · exact absurd z.1 h
theorem min2_le : ∀ (xs : List Two) (x : Two), (∀ y ∈ x :: xs, le2 (PySem.W.minOf x xs) y) ∧ PySem.W.minOf x xs ∈ x :: xs
  | [], x => ⟨fun y hy => by
      rw [List.mem_singleton.mp hy]
      exact .inr ⟨rfl, Int.le_refl _⟩, List.mem_cons_self⟩
  | z :: xs, x => by
    show (∀ y ∈ x :: z :: xs, le2 (PySem.W.minOf (if PySem.W.DatumOrd.lt z x = true then z else x) xs) y) ∧ PySem.W.minOf (if PySem.W.DatumOrd.lt z x = true then z else x) xs ∈ x :: z :: xs
    by_cases c : PySem.W.DatumOrd.lt z x = true
    · rw [if_pos c]
      obtain ⟨h1, h2⟩ := min2_le xs z
      refine ⟨fun y hy => ?_, List.mem_cons_of_mem _ h2⟩
      rcases List.mem_cons.mp hy with rfl | hy
      · have a := h1 z List.mem_cons_self
        have b := (lt2_iff z y).mp c
        unfold le2 at a ⊢
        omega
      · exact h1 y hy
    · rw [if_neg c]
      obtain ⟨h1, h2⟩ := min2_le xs x
      refine ⟨fun y hy => ?_, ?_⟩
      · rcases List.mem_cons.mp hy with rfl | hy
        · exact h1 y List.mem_cons_self
        · rcases List.mem_cons.mp hy with rfl | hy
          · have a := h1 x List.mem_cons_self
            have b : ¬ (y.1 < x.1 ∨ (y.1 = x.1 ∧ y.2 < x.2)) := fun z => c ((lt2_iff y x).mpr z)
            unfold le2 at a ⊢
            omega
          · exact h1 y (List.mem_cons_of_mem _ hy)
      · rcases List.mem_cons.mp h2 with e | e
        · rw [e]
          exact List.mem_cons_self
        · exact List.mem_cons_of_mem _ (List.mem_cons_of_mem _ e)
theorem twos_dp {K : PySem.W.Frag} {H : Hp} : ∀ {xs : List V} {ps : List Two}, Paired (TwoAt H) xs ps → DpAll K H xs (ps.map PySem.W.Datum.toD)
  | _, _, .nil => .nil
  | _, _, .cons ⟨t, e, h⟩ r => by
    subst e
    exact .cons (.tup (.inl (.inl h)) (.cons (.int _) (.cons (.int _) .nil))) (twos_dp r)
/-- min(l), l a list of pairs of numbers: the least one itself -/
def rMinP (K : PySem.W.Frag) : List V → Hp → VK → Prop := fun vs H Q => ∃ (a : Addr) (xs : List V) (ps : List Two), vs = [.ref a] ∧ SqL K H a xs ∧ Paired (TwoAt H) xs ps ∧ ps ≠ [] ∧
  ∀ x m, TwoAt H x m → m ∈ ps → (∀ y ∈ ps, le2 m y) → Q x H
theorem cr_minP {X : Cx} (hc : X.calm = true) (hu : X.A.units + 64 < cLine) : CallR X (.builtin "min") (rMinP X.K) := by
  intro pins s σ H vs us Q I r h
  obtain ⟨a, xs, ps, rfl, hs, hP, ne, q⟩ := h
  obtain ⟨its, rv, hl, hz⟩ := I.list hs
  obtain ⟨u, rfl, ru⟩ := vals1 r
  obtain rfl : u = Value.ref a := ru
  obtain ⟨as, hr⟩ := Dp.readsAll I _ xs its (twos_dp hP) rv
  cases ps with
  | nil => exact absurd rfl ne
  | cons p ps =>
    refine PySem.W.min_list_datum (α := Two) (x := p) (xs := ps) (I.ok.hd hc) hl.isList (by rw [List.toList_toArray]; exact ⟨as, hr⟩) ?_ fun i v h' tk hi hv hk => ?_
    · show X.A.units + 1 + 1 < cLine
      omega
    · have hi' : its[i]? = some v := by
        rw [← hi]
        simp
      have hil : i < its.length := (List.getElem?_eq_some_iff.mp hi').1
      have hx : i < xs.length := by rw [rv.length]; exact hil
      have ex : xs[i]? = some xs[i] := List.getElem?_eq_getElem hx
      obtain ⟨m, em, tm⟩ := paired_at hP ex
      obtain ⟨u2, e2, rx⟩ := rv.get ex
      rw [hi'] at e2
      cases e2
      -- what v holds is the pair at its place
      have I2 := I.kept (t' := tk) hk
      have same : m = PySem.W.minOf p ps := by
        obtain ⟨t, et, ht⟩ := tm
        obtain ⟨b1, r1⟩ := Dp.reads I2 (PySem.W.Datum.toD m) xs[i] v (by rw [et]; exact .tup (.inl (.inl ht)) (.cons (.int _) (.cons (.int _) .nil))) rx
        obtain ⟨b2, r2⟩ := hv
        have e3 := (PySem.SeqAt.readOf_eq rfl r1).symm.trans (PySem.SeqAt.readOf_eq rfl r2)
        have e4 := List.cons.inj (PyData.tuple.inj e3)
        exact Prod.ext (PyData.int.inj e4.1) (PyData.int.inj (List.cons.inj e4.2).1)
      exact ⟨xs[i], H, I2, rx, q _ m tm (List.mem_of_getElem? em) (by rw [same]; exact (min2_le ps p).1)⟩
section
variable (K : PySem.W.Frag) {X : Cx}
theorem minPQ (hc : X.calm = true) (hu : X.A.units + 64 < cLine) (h : X.K = K := by rfl) : CallR X (.builtin "min") (rMinP K) := h ▸ cr_minP hc hu
theorem minQ (hc : X.calm = true) (h : X.K = K := by rfl) : CallR X (.builtin "min") (rMin K) := h ▸ cr_min hc
theorem sumQ (hc : X.calm = true) (h : X.K = K := by rfl) : CallR X (.builtin "sum") (rSum K) := h ▸ cr_sum hc
theorem sortIQ (h : X.K = K := by rfl) : CallR X (.builtin "sorted") (rSorted K) := h ▸ cr_sorted
theorem idxQ (h : X.K = K := by rfl) : MtR X "list.index" (rIndex K) := h ▸ mt_index
end
theorem b_sum : bootBuiltins "sum" = some (.builtin "sum") := by decide +kernel
theorem b_min : bootBuiltins "min" = some (.builtin "min") := by decide +kernel
theorem b_sorted : bootBuiltins "sorted" = some (.builtin "sorted") := by decide +kernel
/-! numbers below 2^200 in size, shown -/
def NumW (x : Int) : Prop := x.natAbs < 2 ^ 200
structure ShoW (wt : Nat) (d : PyData) : Prop where
  sh : PyData.showable d = true
  nd : PyData.hasDict d = false
  lf : PyData.leavesShort 201 d = true
  wt : PyData.weight d ≤ wt
theorem shoW_int {x : Int} (h : NumW x) : ShoW 200 (.int x) := by
  have l : x.natAbs.log2 < 200 := by
    by_cases z : x.natAbs = 0
    · rw [z]
      decide
    · rw [Nat.log2_lt z]
      exact h
  refine ⟨decide_eq_true (by omega), rfl, decide_eq_true ?_, ?_⟩
  · show (Str.ofString (toString x)).length ≤ 201
    rw [PySem.ofString_length]
    exact int_text_length_le (by decide) l
  · show (if x == 0 then 0 else x.natAbs.log2 + 1) ≤ 200
    split <;> omega
theorem shoW_all {wt : Nat} : ∀ {ds : List PyData}, (∀ d ∈ ds, ShoW wt d) → PyData.showableAll ds = true ∧ PyData.hasDictAll ds = false ∧ PyData.leavesShortAll 201 ds = true ∧ PyData.weightAll ds ≤ (wt + 1) * ds.length
  | [], _ => ⟨rfl, rfl, rfl, Nat.zero_le _⟩
  | d :: ds, h => by
    obtain ⟨a, b, c, e⟩ := h d List.mem_cons_self
    obtain ⟨a', b', c', e'⟩ := shoW_all fun x hx => h x (List.mem_cons_of_mem _ hx)
    refine ⟨?_, ?_, ?_, ?_⟩
    · show (PyData.showable d && PyData.showableAll ds) = true
      rw [a, a']
      rfl
    · show (PyData.hasDict d || PyData.hasDictAll ds) = false
      rw [b, b']
      rfl
    · show (PyData.leavesShort 201 d && PyData.leavesShortAll 201 ds) = true
      rw [c, c']
      rfl
    · show PyData.weight d + 1 + PyData.weightAll ds ≤ (wt + 1) * (ds.length + 1)
      rw [Nat.mul_add]
      omega
theorem shoW_tuple {wt n : Nat} {ds : List PyData} (h : ∀ d ∈ ds, ShoW wt d) (l : ds.length ≤ n) : ShoW ((wt + 1) * n) (.tuple ds) := by
  obtain ⟨a, b, c, e⟩ := shoW_all h
  exact ⟨a, b, c, Nat.le_trans e (Nat.mul_le_mul_left _ l)⟩
theorem shoW_list {wt n : Nat} {ds : List PyData} (h : ∀ d ∈ ds, ShoW wt d) (l : ds.length ≤ n) : ShoW ((wt + 1) * n) (.list ds) := by
  obtain ⟨a, b, c, e⟩ := shoW_all h
  exact ⟨a, b, c, Nat.le_trans e (Nat.mul_le_mul_left _ l)⟩
theorem shoW_len {wt : Nat} {d : PyData} (h : ShoW wt d) (l : 203 * wt + 201 ≤ sizeLine) : d.shown.length ≤ sizeLine := by
  have a := PyData.shown_le 201 (by decide) d h.lf
  have b : 203 * d.weight ≤ 203 * wt := Nat.mul_le_mul_left _ h.wt
  omega
def twoD (p : Two) : PyData := .tuple [.int p.1, .int p.2]
theorem two_dp {K : PySem.W.Frag} {H : Hp} {t : Addr} {p : Two} (h : H t = some (.tup [.int p.1, .int p.2])) : Dp K H (.ref t) (twoD p) := .tup (.inl (.inl h)) (.cons (.int _) (.cons (.int _) .nil))
theorem shoW_two {p : Two} (h1 : NumW p.1) (h2 : NumW p.2) : ShoW ((200 + 1) * 2) (twoD p) := shoW_tuple (fun e he => by
  simp only [List.mem_cons, List.not_mem_nil, or_false] at he
  rcases he with rfl | rfl
  · exact shoW_int h1
  · exact shoW_int h2) (by show 2 ≤ 2; decide)
theorem two_line : 203 * ((200 + 1) * 2) + 201 ≤ sizeLine := by
  rw [sizeLine_eq]
  decide
theorem two_repr {K : PySem.W.Frag} {H : Hp} {t : Addr} {p : Two} {Q : VK} (h : H t = some (.tup [.int p.1, .int p.2])) (h1 : NumW p.1) (h2 : NumW p.2) (q : Q (.str (twoD p).shown) H) : rRepr K [.ref t] H Q :=
  ⟨t, twoD p, rfl, two_dp h, by show 1 ≤ 64; decide, (shoW_two h1 h2).sh, (shoW_two h1 h2).nd, shoW_len (shoW_two h1 h2) two_line, q⟩
/-- the numbers of v, made one after another -/
def nums (v : Nat → Int) (n : Nat) : List Int := (List.range n).map v
theorem nums_len (v : Nat → Int) (n : Nat) : (nums v n).length = n := by
  unfold nums
  rw [List.length_map, List.length_range]
theorem nums_succ (v : Nat → Int) (n : Nat) : nums v (n + 1) = nums v n ++ [v n] := by
  unfold nums
  rw [List.range_succ, List.map_append]
  rfl
/-- [e for x in range(..)] of numbers -/
theorem lc_rangeI {lo : Int} {n ix : Nat} {te : TE} {vs : List Nat} {σ : L2.St} {H0 H1 : Hp} {D : Addr} {Qd : Hp → Prop} (v : Nat → Int) (hn : n ≤ 900) (s0 : Same H0 H1) (nD : H1 D = none)
    (hs : ∀ (i : Nat) (H : Hp) (Qe : VK), i < n → Same H1 H → (∀ H4, Same H H4 → Qe (.int (v i)) H4) → wipe ((wipe σ vs).set ix (some (.int (lo + i)))) vs = wipe σ vs ∧ te ((wipe σ vs).set ix (some (.int (lo + i)))) H Qe)
    (hd : ∀ H, Same H0 H → H D = some (.lst ((nums v n).map V.int)) → Qd H) :
    ∃ W : Nat → Nat → Hp → Prop, (∃ m, W 0 m (upd H1 D (.lst []))) ∧ ∀ i m H, W i m H →
      ((Itr lo n).stop i H ∧ Qd H) ∨ ((Itr lo n).go i H ∧ ∃ Nx : Hp → Prop, (∀ H', Nx H' → ∃ m', m' < m ∧ W (i + 1) m' H') ∧ ∀ x H', (Itr lo n).yld i H x H' → gName ix x (wipe σ vs) H' fun σ2 H2 => wipe σ2 vs = wipe σ vs ∧ tYes σ2 H2 fun b H3 =>
        if b = true then te σ2 H3 fun y H4 => ∃ acc, H4 D = some (.lst acc) ∧ acc.length < sizeLine ∧ Nx (upd H4 D (.lst (acc ++ [y]))) else Nx H3) := by
  refine lc_range (fun i H => Same H1 H ∧ H D = some (.lst ((nums v i).map V.int))) ⟨same_new nD, upd_same⟩ ?_ fun H h => hd H (s0.trans h.1) h.2
  rintro i H hi ⟨s, e⟩
  have key := hs i H (fun y H4 => ∃ acc, H4 D = some (.lst acc) ∧ acc.length < sizeLine ∧ (Same H1 (upd H4 D (.lst (acc ++ [y]))) ∧ upd H4 D (.lst (acc ++ [y])) D = some (.lst ((nums v (i + 1)).map V.int)))) hi s ?_
  · exact ⟨key.1, yes_if key.2⟩
  · intro H4 s4
    refine ⟨_, s4 _ _ e, ?_, fun b o z => ?_, ?_⟩
    · rw [List.length_map, nums_len]
      exact small1000 (by omega)
    · rw [upd_ne (ne_of_none z nD)]
      exact s4 _ _ (s _ _ z)
    · rw [upd_same, nums_succ, List.map_append]
      rfl
end Fa

/-! dicts from days to numbers; min of three -/
namespace Fa
open PySem PySem.Spec PyProof.Rows L2
theorem nu_lt (x y : Int) : nuLt (.int x) (.int y) = some (decide (x < y)) := rfl
theorem nu_min2 (x y : Int) : nuMin2 (.int x) (.int y) = some (.int (mn2 x y)) := by
  unfold nuMin2 mn2
  rw [nu_lt]
  show some (if decide (y < x) = true then V.int y else V.int x) = _
  by_cases h : y < x
  · rw [if_pos h, if_pos (decide_eq_true h)]
  · rw [if_neg h, if_neg (fun z => h (of_decide_eq_true z))]
theorem nu_min3 (x y z : Int) : nuMin3 (.int x) (.int y) (.int z) = some (.int (mn3 x y z)) := by
  unfold nuMin3 mn3
  rw [nu_min2]
  exact nu_min2 _ _
def min3Q {X : Cx} (hc : X.calm = true) : CallR X (.builtin "min") (rNuC3 nuMin3) := call_min3Nu hc
theorem put_len {kvs : List (Key × V)} {k : Key} {v z : V} (h : valV kvs k = some z) : (putK kvs k v).length = kvs.length := by
  unfold putK
  rw [if_pos (by rw [valV_any, h]; rfl), List.length_map]
/-- a dict of numbers of days a + i, i < m -/
def NumD (a : Int) (g : Nat → Int) (m : Nat) (kvs : List (Key × V)) : Prop := kvs.length ≤ m ∧ ∀ i, i < m → valV kvs (.inl (a + (i : Int))) = some (.int (g i))
theorem NumD.grow {a : Int} {g : Nat → Int} {i : Nat} {kvs : List (Key × V)} (h : NumD a g i kvs) : NumD a g (i + 1) (putK kvs (.inl (a + (i : Int))) (.int (g i))) := by
  refine ⟨Nat.le_trans (length_putK _ _ _) (Nat.succ_le_succ h.1), fun j hj => ?_⟩
  rw [valV_put]
  by_cases e : j = i
  · subst e
    rw [if_pos rfl]
  · rw [if_neg (fun z => e (by have := Sum.inl.inj z; omega))]
    exact h.2 j (by omega)
theorem NumD.put {a : Int} {g : Nat → Int} {m i : Nat} {kvs : List (Key × V)} (h : NumD a g m kvs) (hi : i < m) (z : Int) : NumD a (fun x => if x = i then z else g x) m (putK kvs (.inl (a + (i : Int))) (.int z)) := by
  refine ⟨by rw [put_len (h.2 i hi)]; exact h.1, fun j hj => ?_⟩
  rw [valV_put]
  by_cases e : j = i
  · subst e
    rw [if_pos rfl]
    show _ = some (V.int (if j = j then z else g j))
    rw [if_pos rfl]
  · rw [if_neg (fun z => e (by have := Sum.inl.inj z; omega))]
    show _ = some (V.int (if j = i then z else g j))
    rw [if_neg e]
    exact h.2 j hj
theorem NumD.ext {a : Int} {g g' : Nat → Int} {m : Nat} {kvs : List (Key × V)} (h : NumD a g m kvs) (e : ∀ i, i < m → g i = g' i) : NumD a g' m kvs := ⟨h.1, fun i hi => by rw [h.2 i hi, e i hi]⟩
theorem dc_range {lo : Int} {n : Nat} {g : TG} {tt : TT} {tk tv : TE} {vs : List Nat} {σ : L2.St} {H1 : Hp} {D : Addr} {Qd : Hp → Prop} (Pv : Nat → Hp → Prop) (h0 : Pv 0 (upd H1 D (.dK [])))
    (hs : ∀ i H, i < n → Pv i H → g (.int (lo + i)) (wipe σ vs) H fun σ2 H2 => wipe σ2 vs = wipe σ vs ∧ tt σ2 H2 fun b H3 =>
      if b = true then tk σ2 H3 fun y H4 => tv σ2 H4 fun z H5 => ∃ kvs k, y = kV k ∧ H5 D = some (.dK kvs) ∧ kvs.length < sizeLine ∧ Pv (i + 1) (upd H5 D (.dK (putK kvs k z))) else Pv (i + 1) H3) (hd : ∀ H, Pv n H → Qd H) :
    ∃ W : Nat → Nat → Hp → Prop, (∃ m, W 0 m (upd H1 D (.dK []))) ∧ ∀ i m H, W i m H →
      ((Itr lo n).stop i H ∧ Qd H) ∨ ((Itr lo n).go i H ∧ ∃ Nx : Hp → Prop, (∀ H', Nx H' → ∃ m', m' < m ∧ W (i + 1) m' H') ∧ ∀ x H', (Itr lo n).yld i H x H' → g x (wipe σ vs) H' fun σ2 H2 => wipe σ2 vs = wipe σ vs ∧ tt σ2 H2 fun b H3 =>
        if b = true then tk σ2 H3 fun y H4 => tv σ2 H4 fun z H5 => ∃ kvs k, y = kV k ∧ H5 D = some (.dK kvs) ∧ kvs.length < sizeLine ∧ Nx (upd H5 D (.dK (putK kvs k z))) else Nx H3) := by
  refine ⟨fun i m H => m = n - i ∧ i ≤ n ∧ Pv i H, ⟨n, by simp, Nat.zero_le _, h0⟩, ?_⟩
  rintro i m H ⟨rfl, hi, p⟩
  by_cases c : i < n
  · refine .inr ⟨c, Pv (i + 1), fun H' p' => ⟨n - (i + 1), by omega, rfl, c, p'⟩, fun x H' y => ?_⟩
    obtain ⟨e, y⟩ := y
    subst e y
    exact hs i _ c p
  · obtain rfl : i = n := by omega
    exact .inl ⟨Nat.le_refl _, hd H p⟩
section
variable {X : Cx}
/-- name = {..: .. for ..} on one line, the name a local -/
theorem ps_setDc {i : Nat} {y : Str} {py : Pos} {kx vx tg iter : Expr} {ifs : List Expr} {scope : Scope} {own : List (Str × Nat)} {pos spos : Pos} {wi : TI} {g : TG} {tt : TT} {tk tv : TE} (hc : X.calm = true) (hN : X.N.Nodup) (hy : X.N[i]? = some y) (hyl : X.env.scope.names.lookup y = some .local)
    (hsw : swapsWith (.DictComp kx vx [⟨tg, iter, ifs, 0⟩] scope pos) (some (.Name y py)) spos.line X.env = pure true) (hi : PI X tg iter wi) (ok : BlkOk X.N X.env.scope scope own)
    (hg : ∀ (s : Shared) (H : Hp) (C : Addr) (cl : List (Str × Addr)) (fp : List Addr), PG (X.blk s H scope (compEnvC scope cl C X.env) fp) tg g) (ht : ∀ (s : Shared) (H : Hp) (C : Addr) (cl : List (Str × Addr)) (fp : List Addr), PTs (X.blk s H scope (compEnvC scope cl C X.env) fp) ifs tt)
    (hk : ∀ (s : Shared) (H : Hp) (C : Addr) (cl : List (Str × Addr)) (fp : List Addr), PE (X.blk s H scope (compEnvC scope cl C X.env) fp) kx tk)
    (he : ∀ (s : Shared) (H : Hp) (C : Addr) (cl : List (Str × Addr)) (fp : List Addr), PE (X.blk s H scope (compEnvC scope cl C X.env) fp) vx tv) (hs : ∀ x, foldedSetIterable iter X.env x = pure x := by intro _; rfl) :
    PS X (.Assign [.Name y py] (.DictComp kx vx [⟨tg, iter, ifs, 0⟩] scope pos) spos) (tAsg (tDc wi g tt tk tv (own.map (·.2))) (gName i)) := by
  refine ⟨fun pins s σ H D I h => ?_⟩
  rw [exec_Assign_Name_used _ _ _ _ hsw]
  refine wpAny_bind (wpAny_standAt (wpAny_bind ?_))
  show wpAny _ X.A (do let _ ← comprehension (.DictComp kx vx [⟨tg, iter, ifs, 0⟩] scope pos) scope X.env (firstIterPos [⟨tg, iter, ifs, 0⟩] pos) newDict false (eval iter X.env) (some (assign (.Name y py) X.env))) _ _ s
  have h : tDc wi g tt tk tv (own.map (·.2)) σ H (fun x H1 => gName i x σ H1 D.nx) := h
  refine wpAny_bind (thn (dc_core (Qf := fun _ s' => SP X pins D .next s') hc hN I hi ok hg ht hk he hs h fun L C s' m H' I' q hn f => ?_) fun _ s' hq => wpAny_pure (wpAny_pure hq))
  show wpAny _ _ (assign (.Name y py) X.env (.ref L)) _ _ _
  refine wpAny_assign_Name (store_ok2 (v := V.ref L) I' hN hy (.inl hyl) rfl (fun s2 I2 ⟨a, sb, ha⟩ => ?_) (.inr hyl))
  obtain ⟨f0, f1, f2, f3, f4, f5⟩ := f
  have haC : C ≠ a := by
    rcases ha with z | z
    · rw [z]
      exact f1
    · exact fun e => f4 y a z e.symm
  exact ⟨m, hn.sameBut sb haC, fun h3 sb3 => ⟨_, H', I2.turned (t' := s2.toks) (fun b o hb e => (sb3.2 b hb).trans e) f0 f1 f3 f4 f5, q⟩⟩
theorem sw_trueD {kx vx : Expr} {gs : List Comprehension} {scope : Scope} {pos py : Pos} {y : Str} {l : Nat} {env : Env} (hk : env.scope.kind = .function) (hy : env.scope.names.lookup y = some .local) (hl : (py.line == pos.line) = true)
    (ha : (scope.names.any fun (n, k) => n == y && (k == .local || k == .cell)) = false) : swapsWith (.DictComp kx vx gs scope pos) (some (.Name y py)) l env = pure true := by
  have ky : env.kindOf y = some .local := hy
  have hb : env.blockKind = .function := by
    unfold Env.blockKind
    rw [hk]
    rfl
  unfold swapsWith
  simp only [hb, ky, ha, Expr.pos, hl]
  rfl
end
end Fa

/-! dicts whose keys are tuples: made by a comprehension, walked by their items -/
namespace Fa
open PySem PySem.Spec PyProof.Rows L2
section
variable {X : Cx}
/-- a comprehension puts a value at a tuple -/
theorem putT {pins : List (Addr × Obj)} {σ : L2.St} {H : Hp} {s : Shared} {E : Value → Shared → Prop} {D b : Addr} {kvs : List (List Key × V)} {k : List Key} {v : V} {r : Value} {Q : Unit → Shared → Prop} (room : X.A.units < cLine)
    (I : Inv X pins σ H s) (eD : H D = some (.dT kvs)) (eb : H b = some (.tup (k.map kV))) (small : kvs.length < sizeLine) (rv : RelV v r)
    (fin : ∀ s', Inv X pins σ (upd H D (.dT (putK kvs k v))) s' → Q () s') : wpAny (model X.prog X.w) X.A (dictSet D (.ref b) r) Q E s := by
  obtain ⟨l1, hd, ents, kt, at_⟩ := dt_of I.hok eD
  have l2 : ents.length ≤ sizeLine := by
    rw [← Paired.length kt]
    exact l1
  have l3 : (putK kvs k v).length ≤ sizeLine := Nat.le_trans (length_putK kvs k v) small
  refine wpAny_dictSet_heap (hsz := l2) room (key_of I.hok eb) at_ fun h' new same => fin _ ?_
  obtain ⟨ob, es, ep, e1, e2, e3, e4, _, e5⟩ := new
  refine d_write I (by rw [eD]; trivial) same ⟨ob, e1⟩ ⟨l3, hd, _, (kt.put k eb rv).keeps fun c ys ec => ?_, ob, es, ep, e1, e2, e3, e4, e5⟩
  rw [upd_ne (ne_of ec eD fun z => nomatch z)]
  exact ec
/-- {(..): v for target in iter if ..}: D the new dict -/
def tDcT (wi : TI) (g : TG) (tt : TT) (tk tv : TE) (vs : List Nat) : TE := fun σ H Q => wi σ H fun J H1 => ∀ D, H1 D = none → ∃ W : Nat → Nat → Hp → Prop, (∃ m, W 0 m (upd H1 D (.dT []))) ∧ ∀ i m H, W i m H →
  (J.stop i H ∧ Q (.ref D) H) ∨ (J.go i H ∧ ∃ Nx : Hp → Prop, (∀ H', Nx H' → ∃ m', m' < m ∧ W (i + 1) m' H') ∧ ∀ x H', J.yld i H x H' → g x (wipe σ vs) H' fun σ2 H2 => wipe σ2 vs = wipe σ vs ∧ tt σ2 H2 fun b H3 =>
    if b = true then tk σ2 H3 fun y H4 => tv σ2 H4 fun z H5 => ∃ t kvs k, y = .ref t ∧ H5 t = some (.tup (k.map kV)) ∧ H5 D = some (.dT kvs) ∧ kvs.length < sizeLine ∧ Nx (upd H5 D (.dT (putK kvs k z))) else Nx H3)
theorem dcT_core {pins : List (Addr × Obj)} {s : Shared} {σ : L2.St} {H : Hp} {Q : VK} {kx vx tg iter : Expr} {ifs : List Expr} {scope : Scope} {own : List (Str × Nat)} {pos pos' : Pos} {wi : TI} {g : TG} {tt : TT} {tk tv : TE} {use : Option (Value → Sem Unit)} {Qf : Value → Shared → Prop}
    (room : X.A.units < cLine) (hc : X.calm = true) (hN : X.N.Nodup) (I : Inv X pins σ H s) (hi : PI X tg iter wi) (ok : BlkOk X.N X.env.scope scope own)
    (hg : ∀ (s : Shared) (H : Hp) (C : Addr) (cl : List (Str × Addr)) (fp : List Addr), PG (X.blk s H scope (compEnvC scope cl C X.env) fp) tg g)
    (ht : ∀ (s : Shared) (H : Hp) (C : Addr) (cl : List (Str × Addr)) (fp : List Addr), PTs (X.blk s H scope (compEnvC scope cl C X.env) fp) ifs tt)
    (hk : ∀ (s : Shared) (H : Hp) (C : Addr) (cl : List (Str × Addr)) (fp : List Addr), PE (X.blk s H scope (compEnvC scope cl C X.env) fp) kx tk)
    (he : ∀ (s : Shared) (H : Hp) (C : Addr) (cl : List (Str × Addr)) (fp : List Addr), PE (X.blk s H scope (compEnvC scope cl C X.env) fp) vx tv) (hs : ∀ x, foldedSetIterable iter X.env x = pure x)
    (h : tDcT wi g tt tk tv (own.map (·.2)) σ H Q)
    (last : ∀ D C s' m H', Inv X pins σ H' s' → Q (.ref D) H' → s'.heap.Ns C m → FpOk X pins H' C → compPost (model X.prog X.w) X.A X.xe use Qf (.ref D) C (.ok .next) s') :
    wpAny (model X.prog X.w) X.A (comprehension (.DictComp kx vx [⟨tg, iter, ifs, 0⟩] scope pos) scope X.env pos' newDict false (eval iter X.env) use) Qf X.xe s := by
  have caught : ∀ y ∈ scope.names, y.2 = .free → ∃ c, X.env.cells.lookup y.1 = some c := fun y hy e => I.ok.has _ (ok.free y hy e)
  refine wpAny_comprehension_free (use := use) rfl hs (closure_ok caught) ok.kind (fun y hy e => by rw [ok.uniq y hy, e]) ?_
  refine thn (hi.run pins s σ H _ I h) fun xv s1 come => thn come fun itv s2 ⟨it, fp, tn, J, H2, ei, I2, T, st2, f2, q⟩ => ?_
  subst ei
  refine wpAny_newObj_type (newEnv_comp ?_)
  obtain ⟨D, eD⟩ : ∃ D, s2.heap.objs.size = D := ⟨_, rfl⟩
  rw [eD]
  obtain ⟨W, ⟨m0, w0⟩, turn⟩ := q D (I2.hok.fresh (Nat.le_of_eq eD))
  -- the heap with the new dict
  obtain ⟨s3, es3⟩ : ∃ s3 : Shared, { s2 with heap := s2.heap.push { cls := .type "dict", data := .dict #[] } } = s3 := ⟨_, rfl⟩
  have hp3 : s3.heap = s2.heap.push { cls := .type "dict", data := .dict #[] } := by rw [← es3]
  have I3 : Inv X pins σ (upd H2 D (.dT [])) s3 := by
    rw [← es3]
    refine I2.laid (t' := s2.toks) (fun b o e => Heap.get?_push_of_some _ e) (Nat.le_of_eq eD) ?_
    rw [← eD]
    exact dt_empty s2.heap I2.big
  have low : ∀ b ∈ fp, b < s2.heap.objs.size := fun b hb => let ⟨_, e, _⟩ := T.obj _ _ st2 b hb; Heap.lt_size e
  have f3 : ∀ b ∈ fp, FpOk X pins (upd H2 D (.dT [])) b ∧ b < s3.heap.objs.size := fun b hb => by
    have lt := low b hb
    refine ⟨⟨?_, (f2 b hb).2⟩, ?_⟩
    · rw [upd_ne (Nat.ne_of_lt (eD ▸ lt))]
      exact (f2 b hb).1
    · rw [hp3, Heap.size_push]
      exact Nat.lt_succ_of_lt lt
  have st3 : tn 0 s3.heap := T.keep _ _ _ st2 fun b _ o e => by
    rw [hp3]
    exact Heap.get?_push_of_some _ e
  have I4 := block_start I3 ok hN f3
  have pg := hg s3 (upd H2 D (.dT [])) s3.heap.objs.size (cellsFrom (s3.heap.objs.size + 1) scope.names (cloFrom X.env.cells scope.names [])) fp
  have pt := ht s3 (upd H2 D (.dT [])) s3.heap.objs.size (cellsFrom (s3.heap.objs.size + 1) scope.names (cloFrom X.env.cells scope.names [])) fp
  have pk := hk s3 (upd H2 D (.dT [])) s3.heap.objs.size (cellsFrom (s3.heap.objs.size + 1) scope.names (cloFrom X.env.cells scope.names [])) fp
  have pe := he s3 (upd H2 D (.dT [])) s3.heap.objs.size (cellsFrom (s3.heap.objs.size + 1) scope.names (cloFrom X.env.cells scope.names [])) fp
  rw [es3]
  show codeAny _ _ (.compStart (.DictComp kx vx [⟨tg, iter, ifs, 0⟩] scope pos) 0 (.ref it) (.ref D)
      (compEnvC scope (cellsFrom (s3.heap.objs.size + 1) scope.names (cloFrom X.env.cells scope.names [])) s3.heap.objs.size X.env))
    (compPost (model X.prog X.w) X.A X.xe use Qf (.ref D) s3.heap.objs.size) { s3 with heap := pushCells (s3.heap.push { cls := .type "dict", data := .dict #[] }) scope.names }
  have free3 : ∀ b ∈ fp, (upd H2 D (.dT [])) b = none := fun b hb => (f3 b hb).1.1
  generalize ece : compEnvC scope (cellsFrom (s3.heap.objs.size + 1) scope.names (cloFrom X.env.cells scope.names [])) s3.heap.objs.size X.env = ce at I4 pg pt pk pe ⊢
  have cL : ce.locals = s3.heap.objs.size := by
    rw [← ece]
    rfl
  generalize upd H2 D (.dT []) = H3 at I3 I4 pg pt pk pe w0 free3 f3
  generalize es4 : ({ s3 with heap := pushCells (s3.heap.push { cls := .type "dict", data := .dict #[] }) scope.names } : Shared) = s4 at I4 ⊢
  have st4 : tn 0 s4.heap := T.keep _ _ _ st3 fun b _ o e => by
    rw [← es4]
    exact pushCells_keeps _ _ _ _ (Heap.get?_push_of_some _ e)
  have walker : ∀ {σ' : L2.St} {H' : Hp} {s' : Shared}, Inv (X.blk s3 H3 scope ce fp) [] σ' H' s' → (∀ b ∈ fp, H' b = none) → ∀ b ∈ fp, FpOk (X.blk s3 H3 scope ce fp) [] H' b := fun {σ' H' s'} I' hn b hb =>
    ⟨hn b hb, (I'.ok.exf b hb).1, I'.ok.exfs b hb, .inl hb, fun x c e => (I'.ok.exf b hb).2 x c e, fun p hp => absurd (show p ∈ ([] : List (Addr × Obj)) ++ [] from hp) (List.not_mem_nil)⟩
  refine codeAny_compStart_dict ?_ (T.self X.A 0 _ _ _ st4 ?_) <;>
  · refine compLoop_anyD (fun n s' => ∃ i H', Inv (X.blk s3 H3 scope ce fp) [] (wipe σ (own.map (·.2))) H' s' ∧ tn i s'.heap ∧ (∀ b ∈ fp, H' b = none) ∧ W i n H') ?_ m0 ⟨0, H3, I4, st4, free3, w0⟩
    rintro n s5 ⟨i, H5, I5, st5, n5, w5⟩
    rcases turn i n H5 w5 with ⟨stop, qq⟩ | ⟨go, Nx, hNx, step⟩
    · refine thnF (T.done (X.blk s3 H3 scope ce fp) rfl rfl rfl hc i [] s5 _ H5 (fun _ _ => False) I5 (walker I5 n5) st5 stop) fun r s6 ⟨er, I6⟩ => ?_
      subst er
      have I7 : Inv X pins σ H5 s6 := I3.call' (ch := fp) I6.os I6.base I6.hok I6.bare fun b hb =>
        let z := (f3 b hb).1.2
        ⟨z.2.2.1, z.1, z.2.2.2.1, z.2.2.2.2⟩
      have fL : H5 ce.locals = none := I6.free
      obtain ⟨m, ns, _⟩ := I6.loc
      have ns : s6.heap.Ns ce.locals m := ns
      rw [cL] at ns fL
      exact last D s3.heap.objs.size s6 m H5 I7 qq ns (I3.fpOk (Nat.le_refl _) fL)
    · refine thnF (T.item (X.blk s3 H3 scope ce fp) rfl rfl rfl hc i [] s5 _ H5 (fun _ _ => False) I5 (walker I5 n5) st5 go) fun r s6 ⟨u, er, h6⟩ => ?_
      subst er
      refine thnF h6 fun _ s7 ⟨x, H7, I7, r7, y7, st7, n7⟩ => ?_
      refine thnF (pg.run _ s7 _ H7 x u _ (I7.pinned (walker I7 n7) (T.obj _ _ st7)) r7 (step x H7 y7)) fun _ s8 ⟨σ8, H8, I8, hw8, q8⟩ => ?_
      have close : ∀ {s' : Shared} {H' : Hp}, Inv (X.blk s3 H3 scope ce fp) ([] ++ pinsAt fp s7.heap) σ8 H' s' → Nx H' → ∃ m, m < n ∧ ∃ i H', Inv (X.blk s3 H3 scope ce fp) [] (wipe σ (own.map (·.2))) H' s' ∧ tn i s'.heap ∧ (∀ b ∈ fp, H' b = none) ∧ W i m H' := fun {s' H'} I' nx => by
        obtain ⟨m', less, w'⟩ := hNx H' nx
        have held : ∀ b ∈ fp, ∀ o, s7.heap.get? b = some o → s'.heap.get? b = some o ∧ H' b = none := fun b hb o e =>
          let z := I'.pin (b, o) (List.mem_append_right _ (List.mem_append_right _ (mem_pinsAt hb e)))
          ⟨z.1, z.2.1⟩
        refine ⟨m', less, i + 1, H', (I'.unpinned (pins := [])).weak (by rw [← hw8, wipe_length]) (fun j v e => ?_), T.keep _ _ _ st7 fun b hb o e => (held b hb o e).1, fun b hb => ?_, w'⟩
        · rw [← hw8] at e
          exact (wipe_some e).1
        · obtain ⟨o, e, _⟩ := T.obj _ _ st7 b hb
          exact (held b hb o e).2
      refine thnF (pt.run _ s8 σ8 H8 _ I8 q8) fun b s9 ⟨H9, I9, q9⟩ => ?_
      cases b with
      | false =>
        rw [if_neg Bool.false_ne_true] at q9
        rw [if_neg Bool.false_ne_true]
        exact close I9 q9
      | true =>
        rw [if_pos rfl] at q9
        rw [if_pos rfl]
        refine thnF (pk.run _ s9 σ8 H9 _ I9 q9) fun z s10 ⟨yk, H10, I10, r10, q10⟩ => ?_
        refine thnF (pe.run _ s10 σ8 H10 _ I10 q10) fun z2 s11 ⟨yv, H11, I11, r11, t, kvs, k, ek, et, eD11, small, nx⟩ => ?_
        subst ek
        cases (show z = Value.ref t from r10)
        exact putT (X := X.blk s3 H3 scope ce fp) room I11 eD11 et small r11 fun s12 I12 => close I12 nx
/-- name = {(..): .. for ..} on one line, the name a local -/
theorem ps_setDcT {i : Nat} {y : Str} {py : Pos} {kx vx tg iter : Expr} {ifs : List Expr} {scope : Scope} {own : List (Str × Nat)} {pos spos : Pos} {wi : TI} {g : TG} {tt : TT} {tk tv : TE} (room : X.A.units < cLine) (hc : X.calm = true) (hN : X.N.Nodup) (hy : X.N[i]? = some y)
    (hyl : X.env.scope.names.lookup y = some .local) (hsw : swapsWith (.DictComp kx vx [⟨tg, iter, ifs, 0⟩] scope pos) (some (.Name y py)) spos.line X.env = pure true) (hi : PI X tg iter wi) (ok : BlkOk X.N X.env.scope scope own)
    (hg : ∀ (s : Shared) (H : Hp) (C : Addr) (cl : List (Str × Addr)) (fp : List Addr), PG (X.blk s H scope (compEnvC scope cl C X.env) fp) tg g)
    (ht : ∀ (s : Shared) (H : Hp) (C : Addr) (cl : List (Str × Addr)) (fp : List Addr), PTs (X.blk s H scope (compEnvC scope cl C X.env) fp) ifs tt)
    (hk : ∀ (s : Shared) (H : Hp) (C : Addr) (cl : List (Str × Addr)) (fp : List Addr), PE (X.blk s H scope (compEnvC scope cl C X.env) fp) kx tk)
    (he : ∀ (s : Shared) (H : Hp) (C : Addr) (cl : List (Str × Addr)) (fp : List Addr), PE (X.blk s H scope (compEnvC scope cl C X.env) fp) vx tv) (hs : ∀ x, foldedSetIterable iter X.env x = pure x := by intro _; rfl) :
    PS X (.Assign [.Name y py] (.DictComp kx vx [⟨tg, iter, ifs, 0⟩] scope pos) spos) (tAsg (tDcT wi g tt tk tv (own.map (·.2))) (gName i)) := by
  refine ⟨fun pins s σ H D I h => ?_⟩
  rw [exec_Assign_Name_used _ _ _ _ hsw]
  refine wpAny_bind (wpAny_standAt (wpAny_bind ?_))
  have h : tDcT wi g tt tk tv (own.map (·.2)) σ H (fun x H1 => gName i x σ H1 D.nx) := h
  show wpAny _ X.A (do let _ ← comprehension (.DictComp kx vx [⟨tg, iter, ifs, 0⟩] scope pos) scope X.env (firstIterPos [⟨tg, iter, ifs, 0⟩] pos) newDict false (eval iter X.env) (some (assign (.Name y py) X.env))) _ _ s
  refine wpAny_bind (thn (dcT_core (Qf := fun _ s' => SP X pins D .next s') room hc hN I hi ok hg ht hk he hs h fun L C s' m H' I' q ns f => ?_) fun _ s' hq => wpAny_pure (wpAny_pure hq))
  show wpAny _ _ (assign (.Name y py) X.env (.ref L)) _ _ _
  refine wpAny_assign_Name (store_ok2 (v := V.ref L) I' hN hy (.inl hyl) rfl (fun s2 I2 ⟨a, sb, ha⟩ => ?_) (.inr hyl))
  obtain ⟨f0, f1, f2, f3, f4, f5⟩ := f
  have nC : C ≠ a := by
    rcases ha with z | z
    · exact fun e => f1 (e.trans z)
    · exact fun e => f4 y a z e.symm
  exact ⟨m, ns.sameBut sb nC, fun h3 sb3 => ⟨_, H', I2.turned (t' := s2.toks) (fun b o hb e => (sb3.2 b hb).trans e) f0 f1 f3 f4 f5, q⟩⟩
end
/-! ### for .. in d.items(), the keys tuples -/
/-- the pairs of the locked dict at d, each a new tuple of the key's own tuple and the value -/
def Itit (d : Addr) (o : Obj) (kvs : List (List Key × V)) : It :=
  ⟨fun i H => H d = some (.frz o (.dT kvs)) ∧ i < kvs.length,
   fun i H x H' => ∃ T t k v, kvs[i]? = some (k, v) ∧ H t = some (.tup (k.map kV)) ∧ x = .ref T ∧ H T = none ∧ H' = upd H T (.tup [.ref t, v]),
   fun i H => H d = some (.frz o (.dT kvs)) ∧ kvs.length ≤ i⟩
section
variable {X : Cx} {pins : List (Addr × Obj)} {σ : L2.St} {H : Hp} {s : Shared}
theorem frzT2 {d : Addr} {o : Obj} {kvs : List (List Key × V)} (I : Inv X pins σ H s) (h : H d = some (.frz o (.dT kvs))) :
    (d == sysModules) = false ∧ ∃ (es : Array DictEntry) (ep : Nat), o.data = .dict es ep ∧ es.size = kvs.length ∧ s.heap.DictRaw d es ep ∧
      ∀ (i : Nat) (hi : i < es.size) (k : List Key) (v : V), kvs[i]? = some (k, v) → ∃ t u, es[i].key = .ref t ∧ es[i].val = u ∧ RelV v u ∧ H t = some (.tup (k.map kV)) := by
  obtain ⟨e0, _, hs, xs, pr, o', es, ep, ho, hx, hdt, he, _⟩ := I.hok d _ h
  rw [e0] at ho
  cases ho
  have l1 : es.size = xs.length := size_of_entries he
  have l2 : kvs.length = xs.length := Paired.length pr
  refine ⟨hs, es, ep, hdt, by omega, ⟨o, e0, hx, hdt⟩, fun i hi k v ek => ?_⟩
  obtain ⟨x, ex, e1, e2, e3⟩ := paired_get pr ek
  have en := entry_at he i
  rw [ex, Array.getElem?_eq_getElem hi] at en
  have en := Option.some.inj en
  refine ⟨x.2.1, x.2.2, by rw [en]; rfl, by rw [en]; rfl, e3, ?_⟩
  have e1 : k = x.1 := e1
  have e2 : H x.2.1 = some (.tup (k.map kV)) := e2
  exact e2
end
theorem turn_itemsT {P : Program} {w : World} {K : PySem.W.Frag} {d : Addr} {o : Obj} {es : Array DictEntry} {ep : Nat} {kvs : List (List Key × V)} {elts : List Expr} {kk : Nat} {tpos : Pos} (it : Addr) (hod : o.data = .dict es ep) (hes : es.size = kvs.length) :
    Turn P w K (.Tuple elts kk tpos) (Itit d o kvs) [it] it (fun i h => ∃ ok ov, IsItemIter h it d i es.size ep ok ov) where
  mem := List.mem_singleton.mpr rfl
  obj := fun i h ⟨ok, ov, e⟩ b hb => by
    cases List.mem_singleton.mp hb
    exact ⟨_, e, fun v z => nomatch z⟩
  keep := fun i h h' ⟨ok, ov, e⟩ k => ⟨ok, ov, k it (List.mem_singleton.mpr rfl) _ e⟩
  item := by
    intro X hP hw hK hc i pins s σ H E I hf ⟨ok, ov, hit⟩ ⟨hd, hi⟩
    subst hP hw hK
    obtain ⟨_, es', ep', hdt, _, raw, ent⟩ := frzT2 I hd
    rw [hod] at hdt
    cases hdt
    have hi' : i < es.size := by omega
    obtain ⟨k, v, ekv⟩ : ∃ k v, kvs[i]? = some (k, v) := ⟨kvs[i].1, kvs[i].2, List.getElem?_eq_getElem hi⟩
    obtain ⟨t, u, e1, e2, ru, et⟩ := ent i hi' k v ekv
    have lt : it < s.heap.objs.size := Heap.lt_size hit
    refine wpAny_pyNext_items_item_raw hit raw hi' fun h' out tup size keep => ⟨_, rfl, wpAny_letOwnedTupleGo_items (s := { s with heap := h' }) out fun h'' back same => ?_⟩
    rw [e1, e2] at tup
    have tup2 : h''.get? s.heap.objs.size = some { cls := .type "tuple", data := .seq #[.ref t, u] } := (same.2 _ (Nat.ne_of_gt lt)).trans tup
    have new : ObjOk X.prog X.w (upd H s.heap.objs.size (.tup [.ref t, v])) h'' s.heap.objs.size (.tup [.ref t, v]) :=
      ⟨by show 2 ≤ sizeLine; decide, [.ref t, u], .cons rfl (.cons ru .nil), ⟨_, tup2, rfl, _, rfl⟩⟩
    refine ⟨.ref s.heap.objs.size, _, I.turnedNew (t' := s.toks) (ch := [it]) (fun b ob hb e => (same.2 b (fun z => hb (List.mem_singleton.mpr z))).trans (keep b ob (fun z => hb (List.mem_singleton.mpr z)) e)) hf (Nat.le_refl _) new, rfl,
      ⟨_, t, k, v, ekv, et, rfl, I.hok.fresh (Nat.le_refl _), rfl⟩, ⟨_, _, back⟩, fun b hb => ?_⟩
    cases List.mem_singleton.mp hb
    rw [upd_ne (Nat.ne_of_lt lt)]
    exact (hf _ (List.mem_singleton.mpr rfl)).1
  done := by
    intro X hP hw hK hc i pins s σ H E I hf ⟨ok, ov, hit⟩ ⟨hd, hi⟩
    subst hP hw hK
    obtain ⟨_, es', ep', hdt, _, raw, _⟩ := frzT2 I hd
    rw [hod] at hdt
    cases hdt
    obtain ⟨f0, f1, f2, f3, f4, f5⟩ := hf it (List.mem_singleton.mpr rfl)
    exact wpAny_pyNext_items_end_raw (I.ok.hd hc) hit raw (by omega) fun h' eb => ⟨rfl, I.turned (t' := s.toks) (fun b ob hb e => eb b ob hb e) f0 f1 f3 f4 f5⟩
  self := fun A i s Q E ⟨_, _, e⟩ h => PySem.W.kcp_self e h
def iItemsT (td : TE) : TI := fun σ H R => td σ H fun x H1 => ∃ d o kvs, x = .ref d ∧ H1 d = some (.frz o (.dT kvs)) ∧ R (Itit d o kvs) H1
theorem pi_itemsT {X : Cx} {e : Expr} {td : TE} {apos cpos : Pos} {elts : List Expr} {kk : Nat} {tpos : Pos} (he : PE X e td) (hbase : attributeBase e "items" X.env (eval e X.env) = eval e X.env := by rfl) (hline : (apos.endLine == cpos.line) = true := by rfl) :
    PI X (.Tuple elts kk tpos) (.Call (.Attribute e "items" apos) [] [] cpos) (iItemsT td) := by
  refine ⟨fun pins s σ H R I h => ?_⟩
  refine wpAny_Call_method (T := "dict") (id := "dict.items") hbase rfl hline F.plainAttrs_dict F.slot_dict_items F.type_dict_items (thn (he.run pins s σ H _ I h) fun u s1 ⟨x, H1, I1, rx, d, o, kvs, ex, hd, q⟩ => ?_)
  subst ex
  cases (show u = Value.ref d from rx)
  obtain ⟨hs, es, ep, hdt, hes, ⟨ob, raw1, raw2, raw3⟩, _⟩ := frzT2 I1 hd
  refine ⟨⟨ob, raw1, raw2.1⟩, fun b hb => ?_, ?_⟩
  · cases hb
    exact ⟨ob, raw1, raw2.2.1⟩
  · have I2 : Inv X pins σ H1 { s1 with heap := s1.heap.push { cls := .type "dict_items", data := .fields #[.ref d] } } := I1.kept (t' := s1.toks) fun b ob q => Heap.get?_push_of_some _ q
    show wpAny _ _ (callWith cpos (.builtin "dict.items") [.ref d] [] []) _ X.xe s1
    refine method_meetsIn F.slot_dict_items F.entry_dict_items rfl (PySem.evalArgs_none ⟨rfl, ⟨ob, raw1, raw2.1⟩, F.args_dict_items_1 _, _, DT.meetsItems (es := es) (ep := ep) hs, ⟨⟨ob, raw1, raw2, raw3⟩, ?_⟩⟩)
    exact DT.iterI (d := d) (es := es) (ep := ep) ⟨_, Heap.get?_push_size _ rfl, rfl, rfl⟩ (DT.Raw.push ⟨ob, raw1, raw2, raw3⟩ _) (pi_one (tk := s1.toks) I2 _ (turn_itemsT _ hdt hes) ⟨.none, .none, Heap.get?_push_size _ rfl⟩ q)
/-! ### loops of such comprehensions, of those with two for's -/
section
variable {J : It} {n : Nat} {G : Hp → Prop} {Y : Nat → Hp → V → Hp → Prop}
theorem dcT_it (w : Walk J n G Y) {g : TG} {tt : TT} {tk tv : TE} {vs : List Nat} {σ : L2.St} {H1 : Hp} {D : Addr} {Qd : Hp → Prop} (Pv : Nat → Hp → Prop) (h0 : Pv 0 (upd H1 D (.dT []))) (hG : ∀ i H, i ≤ n → Pv i H → G H)
    (hs : ∀ i x H H', i < n → Pv i H → Y i H x H' → g x (wipe σ vs) H' fun σ2 H2 => wipe σ2 vs = wipe σ vs ∧ tt σ2 H2 fun b H3 =>
      if b = true then tk σ2 H3 fun y H4 => tv σ2 H4 fun z H5 => ∃ t kvs k, y = .ref t ∧ H5 t = some (.tup (k.map kV)) ∧ H5 D = some (.dT kvs) ∧ kvs.length < sizeLine ∧ Pv (i + 1) (upd H5 D (.dT (putK kvs k z))) else Pv (i + 1) H3) (hd : ∀ H, Pv n H → Qd H) :
    ∃ W : Nat → Nat → Hp → Prop, (∃ m, W 0 m (upd H1 D (.dT []))) ∧ ∀ i m H, W i m H →
      (J.stop i H ∧ Qd H) ∨ (J.go i H ∧ ∃ Nx : Hp → Prop, (∀ H', Nx H' → ∃ m', m' < m ∧ W (i + 1) m' H') ∧ ∀ x H', J.yld i H x H' → g x (wipe σ vs) H' fun σ2 H2 => wipe σ2 vs = wipe σ vs ∧ tt σ2 H2 fun b H3 =>
        if b = true then tk σ2 H3 fun y H4 => tv σ2 H4 fun z H5 => ∃ t kvs k, y = .ref t ∧ H5 t = some (.tup (k.map kV)) ∧ H5 D = some (.dT kvs) ∧ kvs.length < sizeLine ∧ Nx (upd H5 D (.dT (putK kvs k z))) else Nx H3) := by
  refine ⟨fun i m H => m + i = n ∧ Pv i H, ⟨n, rfl, h0⟩, fun i m H ⟨e, p⟩ => ?_⟩
  cases m with
  | zero =>
    obtain rfl : i = n := by omega
    exact .inl ⟨w.stops H (hG _ H (Nat.le_refl _) p), hd H p⟩
  | succ m => exact .inr ⟨w.goes i H (by omega) (hG i H (by omega) p), Pv (i + 1), fun H' p' => ⟨m, Nat.lt_succ_self _, by omega, p'⟩, fun x H' y => hs i x H H' (by omega) p (w.yields i H x H' (by omega) (hG i H (by omega) p) y)⟩
/-- the first for of two -/
theorem lc2_out (w : Walk J n G Y) {g : TG} {tt : TT} {wi1 : TI} {A : (Hp → Prop) → L2.St → It → Hp → Prop} {vs : List Nat} {σ : L2.St} {H0 : Hp} {Qd : Hp → Prop} (Pv : Nat → Hp → Prop) (h0 : Pv 0 H0) (hG : ∀ i H, i ≤ n → Pv i H → G H)
    (hs : ∀ i x H H', i < n → Pv i H → Y i H x H' → g x (wipe σ vs) H' fun σ2 H2 => wipe σ2 vs = wipe σ vs ∧ tt σ2 H2 fun b H3 => if b = true then wi1 σ2 H3 (A (Pv (i + 1)) σ2) else Pv (i + 1) H3) (hd : ∀ H, Pv n H → Qd H) :
    ∃ W : Nat → Nat → Hp → Prop, (∃ m, W 0 m H0) ∧ ∀ i m H, W i m H →
      (J.stop i H ∧ Qd H) ∨ (J.go i H ∧ ∃ Nx : Hp → Prop, (∀ H', Nx H' → ∃ m', m' < m ∧ W (i + 1) m' H') ∧ ∀ x H', J.yld i H x H' → g x (wipe σ vs) H' fun σ2 H2 => wipe σ2 vs = wipe σ vs ∧ tt σ2 H2 fun b H3 =>
        if b = true then wi1 σ2 H3 (A Nx σ2) else Nx H3) := by
  refine ⟨fun i m H => m + i = n ∧ Pv i H, ⟨n, rfl, h0⟩, fun i m H ⟨e, p⟩ => ?_⟩
  cases m with
  | zero =>
    obtain rfl : i = n := by omega
    exact .inl ⟨w.stops H (hG _ H (Nat.le_refl _) p), hd H p⟩
  | succ m => exact .inr ⟨w.goes i H (by omega) (hG i H (by omega) p), Pv (i + 1), fun H' p' => ⟨m, Nat.lt_succ_self _, by omega, p'⟩, fun x H' y => hs i x H H' (by omega) p (w.yields i H x H' (by omega) (hG i H (by omega) p) y)⟩
/-- the second one -/
theorem lc2_in (w : Walk J n G Y) {g1 : TG} {tt1 : TT} {te : TE} {vs1 : List Nat} {σ2 : L2.St} {D : Addr} {H4 : Hp} {Nx : Hp → Prop} (Pv : Nat → Hp → Prop) (h0 : Pv 0 H4) (hG : ∀ i H, i ≤ n → Pv i H → G H)
    (hs : ∀ j x H H', j < n → Pv j H → Y j H x H' → g1 x (wipe σ2 vs1) H' fun σ3 H5 => wipe σ3 vs1 = wipe σ2 vs1 ∧ tt1 σ3 H5 fun b H6 =>
      if b = true then te σ3 H6 fun y H7 => ∃ acc, H7 D = some (.lst acc) ∧ acc.length < sizeLine ∧ Pv (j + 1) (upd H7 D (.lst (acc ++ [y]))) else Pv (j + 1) H6) (hd : ∀ H, Pv n H → Nx H) :
    ∃ W1 : Nat → Nat → Hp → Prop, (∃ m, W1 0 m H4) ∧ ∀ j k H, W1 j k H →
      (J.stop j H ∧ Nx H) ∨ (J.go j H ∧ ∃ Nx1 : Hp → Prop, (∀ H', Nx1 H' → ∃ k', k' < k ∧ W1 (j + 1) k' H') ∧ ∀ x H', J.yld j H x H' → g1 x (wipe σ2 vs1) H' fun σ3 H5 => wipe σ3 vs1 = wipe σ2 vs1 ∧ tt1 σ3 H5 fun b H6 =>
        if b = true then te σ3 H6 fun y H7 => ∃ acc, H7 D = some (.lst acc) ∧ acc.length < sizeLine ∧ Nx1 (upd H7 D (.lst (acc ++ [y]))) else Nx1 H6) := by
  refine ⟨fun i m H => m + i = n ∧ Pv i H, ⟨n, rfl, h0⟩, fun i m H ⟨e, p⟩ => ?_⟩
  cases m with
  | zero =>
    obtain rfl : i = n := by omega
    exact .inl ⟨w.stops H (hG _ H (Nat.le_refl _) p), hd H p⟩
  | succ m => exact .inr ⟨w.goes i H (by omega) (hG i H (by omega) p), Pv (i + 1), fun H' p' => ⟨m, Nat.lt_succ_self _, by omega, p'⟩, fun x H' y => hs i x H H' (by omega) p (w.yields i H x H' (by omega) (hG i H (by omega) p) y)⟩
end
/-- the items of a locked dict with tuple keys -/
theorem walk_itemsT {d : Addr} {o : Obj} {kvs : List (List Key × V)} : Walk (Itit d o kvs) kvs.length (fun H => H d = some (.frz o (.dT kvs))) (fun i H x H' => ∃ T t k v, kvs[i]? = some (k, v) ∧ H t = some (.tup (k.map kV)) ∧ x = .ref T ∧ H T = none ∧ H' = upd H T (.tup [.ref t, v])) :=
  ⟨fun _ _ hi q => ⟨q, hi⟩, fun _ q => ⟨q, Nat.le_refl _⟩, fun _ _ _ _ _ _ y => y⟩
/-! ### a dict grows by keys that are new -/
theorem putK_new {κ : Type} [DecidableEq κ] {kvs : List (κ × V)} {k : κ} {v : V} (h : k ∉ kvs.map (·.1)) : putK kvs k v = kvs ++ [(k, v)] := by
  unfold putK
  rw [if_neg]
  intro z
  obtain ⟨p, hp, e⟩ := List.any_eq_true.mp z
  exact h (List.mem_map.mpr ⟨p, hp, of_decide_eq_true e⟩)
theorem putK_take {κ : Type} [DecidableEq κ] {L : List (κ × V)} {i : Nat} {p : κ × V} (nd : (L.map (·.1)).Nodup) (h : L[i]? = some p) : putK (L.take i) p.1 p.2 = L.take (i + 1) := by
  rw [List.take_add_one, h]
  refine putK_new fun z => ?_
  rw [List.map_take] at z
  obtain ⟨j, hj⟩ := List.mem_iff_getElem?.mp z
  rw [List.getElem?_take] at hj
  by_cases c : j < i
  · rw [if_pos c] at hj
    have hi : (L.map (·.1))[i]? = some p.1 := by rw [List.getElem?_map, h]; rfl
    have := (List.getElem?_inj (List.getElem?_eq_some_iff.mp hj).1 nd).mp (hj.trans hi.symm)
    omega
  · rw [if_neg c] at hj
    cases hj
/-! ### lists of tuples of two numbers -/
def DuoAt (H : Hp) (x : V) (p : Int × Int) : Prop := ∃ t, x = .ref t ∧ H t = some (.tup [.int p.1, .int p.2])
theorem DuoAt.keep {H H' : Hp} {x : V} {p : Int × Int} (h : DuoAt H x p) (k : ∀ b us, H b = some (.tup us) → H' b = some (.tup us)) : DuoAt H' x p := by
  obtain ⟨t, e, h1⟩ := h
  exact ⟨t, e, k _ _ h1⟩
theorem DuoAt.push {H : Hp} {l T : Addr} {xs : List V} {L : List (Int × Int)} {p : Int × Int} (el : H l = some (.lst xs)) (h : Paired (DuoAt H) xs L) (nT : H T = none) :
    Paired (DuoAt (upd (upd H T (.tup [.int p.1, .int p.2])) l (.lst (xs ++ [.ref T])))) (xs ++ [.ref T]) (L ++ [p]) := by
  have lT : l ≠ T := ne_of_none el nT
  refine paired_snoc (Paired.mapP h fun _ _ q => q.keep fun b us z => ?_) ⟨T, rfl, by rw [upd_ne lT.symm, upd_same]⟩
  rw [upd_ne (ne_of z el (fun y => by cases y)), upd_ne (ne_of_none z nT)]
  exact z
theorem TriAt.push {H : Hp} {l T : Addr} {xs : List V} {L : List Tri} {p : Tri} (el : H l = some (.lst xs)) (h : Paired (TriAt H) xs L) (nT : H T = none) :
    Paired (TriAt (upd (upd H T (.tup [.int p.1, .int p.2.1, .int p.2.2])) l (.lst (xs ++ [.ref T])))) (xs ++ [.ref T]) (L ++ [p]) := by
  have lT : l ≠ T := ne_of_none el nT
  refine paired_snoc (Paired.mapP h fun _ _ q => q.keep fun b us z => ?_) ⟨T, rfl, by rw [upd_ne lT.symm, upd_same]⟩
  rw [upd_ne (ne_of z el (fun y => by cases y)), upd_ne (ne_of_none z nT)]
  exact z
end Fa

namespace K21
open PySem PySem.Spec PyProof.Rows L2 Fa
abbrev s_gap_between : Stmt := topS 30
abbrev N_gap_between : List Str := ["sheet", "first", "second", "from_first", "behind_first"]
theorem sc_gap_between : FnScope N_gap_between ["sheet", "first", "second"] (defScope s_gap_between) := ⟨rfl, rfl, rfl, by decide +kernel, rfl, by decide +kernel, by decide +kernel⟩
abbrev s_end_of_away : Stmt := topS 32
abbrev N_end_of_away : List Str := ["sheet", "day"]
theorem sc_end_of_away : FnScope N_end_of_away ["sheet", "day"] (defScope s_end_of_away) := ⟨rfl, rfl, rfl, by decide +kernel, rfl, by decide +kernel, by decide +kernel⟩
abbrev s_away_from : Stmt := topS 31
abbrev N_away_from : List Str := ["sheet", "day", "end"]
theorem sc_away_from : FnScope N_away_from ["sheet", "day"] (defScope s_away_from) := ⟨rfl, rfl, rfl, by decide +kernel, rfl, by decide +kernel, by decide +kernel⟩
abbrev s_start_of_fresh : Stmt := topS 34
abbrev N_start_of_fresh : List Str := ["sheet", "day"]
theorem sc_start_of_fresh : FnScope N_start_of_fresh ["sheet", "day"] (defScope s_start_of_fresh) := ⟨rfl, rfl, rfl, by decide +kernel, rfl, by decide +kernel, by decide +kernel⟩
abbrev s_fresh_on : Stmt := topS 33
abbrev N_fresh_on : List Str := ["sheet", "day", "start"]
theorem sc_fresh_on : FnScope N_fresh_on ["sheet", "day"] (defScope s_fresh_on) := ⟨rfl, rfl, rfl, by decide +kernel, rfl, by decide +kernel, by decide +kernel⟩
abbrev s__told_pairs : Stmt := topS 35
abbrev N__told_pairs : List Str := ["sheet", "days", "width", "first", "second"]
theorem sc__told_pairs : FnScope N__told_pairs ["sheet"] (defScope s__told_pairs) := ⟨rfl, rfl, rfl, by decide +kernel, rfl, by decide +kernel, by decide +kernel⟩
/-- the numbers of R1 and R2 -/
def gp (f : Nat → List Int) (a b : Int) : Int := uu f a (b - 1) + uu f (a + 1) b - uu f (a + 1) (b - 1) - uu f a b
def eA (n w : Nat) (a : Int) : Int := if (n : Int) - 1 < a + w - 1 then (n : Int) - 1 else a + w - 1
def sF (w : Nat) (b : Int) : Int := if b - w + 1 > 0 then b - w + 1 else 0
def aw (f : Nat → List Int) (n w : Nat) (a : Int) : Int := uu f a (eA n w a) - uu f (a + 1) (eA n w a)
def fr (f : Nat → List Int) (w : Nat) (b : Int) : Int := uu f (sF w b) b - uu f (sF w b) (b - 1)
/-- the gaps of a day, the gaps of all days -/
def gRow (f : Nat → List Int) (a m : Nat) : List Tri := ((List.range m).map fun j : Nat => ((a : Int), (a : Int) + 1 + (j : Int), gp f a ((a : Int) + 1 + (j : Int)))).filter fun p => decide (p.2.2 ≠ 0)
def gAll (f : Nat → List Int) (n w i : Nat) : List Tri := (List.range i).flatMap fun a => gRow f a (min (a + w) n - (a + 1))
theorem gRow_succ (f : Nat → List Int) (a m : Nat) : gRow f a (m + 1) = gRow f a m ++ if gp f a ((a : Int) + 1 + (m : Int)) ≠ 0 then [((a : Int), (a : Int) + 1 + (m : Int), gp f a ((a : Int) + 1 + (m : Int)))] else [] := by
  unfold gRow
  rw [List.range_succ, List.map_append, List.filter_append]
  congr 1
  show List.filter _ [_] = _
  rw [List.filter_cons, List.filter_nil]
  by_cases h : gp f a ((a : Int) + 1 + (m : Int)) ≠ 0
  · rw [if_pos h, if_pos (decide_eq_true h)]
  · rw [if_neg h, if_neg (by rw [decide_eq_false h]; exact Bool.false_ne_true)]
theorem gAll_succ (f : Nat → List Int) (n w i : Nat) : gAll f n w (i + 1) = gAll f n w i ++ gRow f i (min (i + w) n - (i + 1)) := by
  unfold gAll
  rw [List.range_succ, List.flatMap_append]
  simp
theorem gRow_len (f : Nat → List Int) (a m : Nat) : (gRow f a m).length ≤ m := by
  have := List.length_filter_le (fun p : Tri => decide (p.2.2 ≠ 0)) ((List.range m).map fun j : Nat => ((a : Int), (a : Int) + 1 + (j : Int), gp f a ((a : Int) + 1 + (j : Int))))
  rw [List.length_map, List.length_range] at this
  exact this
theorem gAll_len (f : Nat → List Int) {n w : Nat} (hn : n ≤ 30) : ∀ i, (gAll f n w i).length ≤ 30 * i
  | 0 => Nat.le_refl _
  | i + 1 => by
    rw [gAll_succ, List.length_append]
    have := gAll_len f (w := w) hn i
    have := gRow_len f i (min (i + w) n - (i + 1))
    omega
/-- pairs of unlike days that stand in one told stretch -/
def prRow (a m : Nat) : List (Int × Int) := (List.range m).map fun j : Nat => ((a : Int), (a : Int) + 1 + (j : Int))
def prAll (n w i : Nat) : List (Int × Int) := (List.range i).flatMap fun a => prRow a (min (a + w) n - (a + 1))
theorem prRow_succ (a m : Nat) : prRow a (m + 1) = prRow a m ++ [((a : Int), (a : Int) + 1 + (m : Int))] := by
  unfold prRow
  rw [List.range_succ, List.map_append]
  rfl
theorem prAll_succ (n w i : Nat) : prAll n w (i + 1) = prAll n w i ++ prRow i (min (i + w) n - (i + 1)) := by
  unfold prAll
  rw [List.range_succ, List.flatMap_append]
  simp
theorem prRow_len (a m : Nat) : (prRow a m).length = m := by
  unfold prRow
  rw [List.length_map, List.length_range]
theorem prAll_len {n w : Nat} (hn : n ≤ 30) : ∀ i, (prAll n w i).length ≤ 30 * i
  | 0 => Nat.le_refl _
  | i + 1 => by
    rw [prAll_succ, List.length_append, prRow_len]
    have := prAll_len (w := w) hn i
    omega
theorem prAll_mem {n w i : Nat} {p : Int × Int} (h : p ∈ prAll n w i) (hi : i ≤ n) : 0 ≤ p.1 ∧ p.1 < p.2 ∧ p.2 < n ∧ p.2 - p.1 < w ∧ p.1 < i := by
  obtain ⟨a, ha, h2⟩ := List.mem_flatMap.mp h
  have ha := List.mem_range.mp ha
  obtain ⟨j, hj, rfl⟩ := List.mem_map.mp h2
  have hj := List.mem_range.mp hj
  show (0 : Int) ≤ (a : Int) ∧ (a : Int) < (a : Int) + 1 + (j : Int) ∧ (a : Int) + 1 + (j : Int) < n ∧ (a : Int) + 1 + (j : Int) - (a : Int) < w ∧ (a : Int) < i
  omega
def gTri (f : Nat → List Int) (p : Int × Int) : Tri := (p.1, p.2, gp f p.1 p.2)
theorem gAll_pairs (f : Nat → List Int) (n w i : Nat) : gAll f n w i = ((prAll n w i).map (gTri f)).filter fun p => decide (p.2.2 ≠ 0) := by
  unfold gAll prAll
  rw [List.map_flatMap, List.filter_flatMap]
  refine congrArg (fun z => List.flatMap z (List.range i)) (funext fun a => ?_)
  unfold gRow prRow
  rw [List.map_map]
  rfl
section
variable {P : Program} {w : World} {K : PySem.W.Frag} {mg : Str → Option Value} {base : Heap}
def spGapB : Sp := fun vs H Q _ => ∃ (g : Addr) (n w : Nat) (f : Nat → List Int) (a b : Int), vs = [.ref g, .int a, .int b] ∧ ShAt H g n w f ∧ 0 ≤ a ∧ a < b ∧ b < n ∧ b - a < w ∧ Q (.int (gp f a b)) H
def spEndA : Sp := fun vs H Q _ => ∃ (g : Addr) (n w : Nat) (f : Nat → List Int) (a : Int), vs = [.ref g, .int a] ∧ ShAt H g n w f ∧ 0 ≤ a ∧ a < n ∧ Q (.int (eA n w a)) H
def spAwF : Sp := fun vs H Q _ => ∃ (g : Addr) (n w : Nat) (f : Nat → List Int) (a : Int), vs = [.ref g, .int a] ∧ ShAt H g n w f ∧ 0 ≤ a ∧ a < n ∧ Q (.int (aw f n w a)) H
def spStF : Sp := fun vs H Q _ => ∃ (g : Addr) (n w : Nat) (f : Nat → List Int) (b : Int), vs = [.ref g, .int b] ∧ ShAt H g n w f ∧ 0 ≤ b ∧ b < n ∧ Q (.int (sF w b)) H
def spFrO : Sp := fun vs H Q _ => ∃ (g : Addr) (n w : Nat) (f : Nat → List Int) (b : Int), vs = [.ref g, .int b] ∧ ShAt H g n w f ∧ 0 ≤ b ∧ b < n ∧ Q (.int (fr f w b)) H
def spGapsIn : Sp := fun vs H Q _ => ∃ (g : Addr) (n w : Nat) (f : Nat → List Int), vs = [.ref g] ∧ ShAt H g n w f ∧ ∀ H' l, Same H H' → H l = none → TrisAt H' l (gAll f n w n) → Q (.ref l) H'
theorem ok_gapb {f fT : Addr} {fd fdT : FuncData} {k : Nat} (F : Fun K "gap_between" "gap_between" s_gap_between f fd) (F_told_number : Fun K "told_number" "told_number" s_told_number fT fdT) (G_told_number : FnOk P w K mg base CX0 k fT fdT ["sheet", "first", "last"] spU) (b_told_number : Binds K fdT ["sheet", "first", "last"] [])
    (g_told_number : mg "told_number" = some (.ref fT)) : FnOk P w K mg base CX0 (k + 1) f fd ["sheet", "first", "second"] spGapB := by
  refine F.ok sc_gap_between (fun vs H Q E h => ?_) (fun cdv A outer s H vs Q E hr h => ?_)
  · obtain ⟨g, _, _, _, _, _, rfl, _⟩ := h
    rfl
  · obtain ⟨g, n, m, f, a, b, rfl, hS, h0, h1, h2, h3, q⟩ := h
    refine ⟨_, (pss_cons (ps_set (i := 3) sc_gap_between.nd rfl (by first | exact Or.inl rfl | exact Or.inr rfl) (pe_op op_sub (pe_call G_told_number (hr.mono (by omega)) (by rfl) g_told_number F_told_number.kp b_told_number .nil pass0 (pa_cons (pv 0) (pa_cons (pv 1) (pa_cons (pe_op op_sub (pv 2) pe_int) pa_nil)))) (pe_call G_told_number (hr.mono (by omega)) (by rfl) g_told_number F_told_number.kp b_told_number .nil pass0 (pa_cons (pv 0) (pa_cons (pv 1) (pa_cons (pv 2) pa_nil))))))
  (pss_cons (ps_set (i := 4) sc_gap_between.nd rfl (by first | exact Or.inl rfl | exact Or.inr rfl) (pe_op op_sub (pe_call G_told_number (hr.mono (by omega)) (by rfl) g_told_number F_told_number.kp b_told_number .nil pass0 (pa_cons (pv 0) (pa_cons (pe_op op_add (pv 1) pe_int) (pa_cons (pv 2) pa_nil)))) (pe_call G_told_number (hr.mono (by omega)) (by rfl) g_told_number F_told_number.kp b_told_number .nil pass0 (pa_cons (pv 0) (pa_cons (pe_op op_add (pv 1) pe_int) (pa_cons (pe_op op_sub (pv 2) pe_int) pa_nil))))))
  (pss_one (ps_ret (pe_op op_add (pv 3) (pv 4)))))), ?_⟩
    refine ⟨_, rfl, _, rfl, _, rfl, _, _, rfl, rfl, g, n, m, f, a, b - 1, rfl, hS, fun _ => ⟨by omega, by omega, by omega⟩, _, rfl, _, rfl, _, rfl, g, n, m, f, a, b, rfl, hS, fun _ => ⟨by omega, by omega, by omega⟩, _, _, rfl, rfl, ?_⟩
    refine ⟨_, rfl, _, rfl, _, _, rfl, rfl, _, rfl, g, n, m, f, a + 1, b, rfl, hS, fun _ => ⟨by omega, by omega, by omega⟩, _, rfl, _, rfl, _, _, rfl, rfl, _, rfl, _, _, rfl, rfl, g, n, m, f, a + 1, b - 1, rfl, hS, fun _ => ⟨by omega, by omega, by omega⟩, _, _, rfl, rfl, ?_⟩
    refine ⟨_, rfl, _, rfl, _, _, rfl, rfl, ?_⟩
    show Q (V.int (uu f a (b - 1) - uu f a b + (uu f (a + 1) b - uu f (a + 1) (b - 1)))) H
    have e : uu f a (b - 1) - uu f a b + (uu f (a + 1) b - uu f (a + 1) (b - 1)) = gp f a b := by
      unfold gp
      omega
    rw [e]
    exact q
theorem ok_enda {f : Addr} {fd : FuncData} {k : Nat} (F : Fun K "end_of_away" "end_of_away" s_end_of_away f fd) (m_len : mg "len" = none) (m_min : mg "min" = none) : FnOk P w K mg base CX0 (k + 1) f fd ["sheet", "day"] spEndA := by
  refine F.ok sc_end_of_away (fun vs H Q E h => ?_) (fun cdv A outer s H vs Q E hr h => ?_)
  · obtain ⟨g, _, _, _, _, rfl, _⟩ := h
    rfl
  · obtain ⟨g, n, m, f, a, rfl, ⟨⟨rows, G⟩, hf⟩, h0, h1, q⟩ := h
    refine ⟨_, (pss_one (ps_ret (pe_callB (call_min2 rfl) (by rfl) m_min PyProof.Rows.boot_min (pa_cons (pe_op op_sub (pe_op op_add (pv 1) (pe_callB (Fa.lenQ K) (by rfl) m_len PySem.boot_len (pa_cons (pe_ix (Fa.ixL K) (pv 0) (pe_un un_neg pe_int) (fun _ _ => rfl)) pa_nil))) pe_int) (pa_cons (pe_op op_sub (pe_callB (Fa.lenQ K) (by rfl) m_len PySem.boot_len (pa_cons (pv 0) pa_nil)) pe_int) pa_nil))))), ?_⟩
    obtain ⟨r, ea, er, hr'⟩ := G.last hf.n1
    refine ⟨_, rfl, _, rfl, 1, rfl, g, _, _, _, rfl, rfl, .inl (.inl G.top), ea, r, _, rfl, .inl (.inl (.inl hr')), _, _, rfl, rfl, _, _, rfl, rfl, _, rfl, g, _, rfl, .inl (.inl (.inl G.top)), _, _, rfl, rfl, _, _, rfl, ?_⟩
    rw [List.length_map, List.length_map, G.cnt, hf.last]
    exact q
theorem ok_awf {f fE fT : Addr} {fd fdE fdT : FuncData} {k : Nat} (F : Fun K "away_from" "away_from" s_away_from f fd) (F_end_of_away : Fun K "end_of_away" "end_of_away" s_end_of_away fE fdE) (G_end_of_away : FnOk P w K mg base CX0 k fE fdE ["sheet", "day"] spEndA) (b_end_of_away : Binds K fdE ["sheet", "day"] []) (g_end_of_away : mg "end_of_away" = some (.ref fE))
    (F_told_number : Fun K "told_number" "told_number" s_told_number fT fdT) (G_told_number : FnOk P w K mg base CX0 k fT fdT ["sheet", "first", "last"] spU) (b_told_number : Binds K fdT ["sheet", "first", "last"] [])
    (g_told_number : mg "told_number" = some (.ref fT)) : FnOk P w K mg base CX0 (k + 1) f fd ["sheet", "day"] spAwF := by
  refine F.ok sc_away_from (fun vs H Q E h => ?_) (fun cdv A outer s H vs Q E hr h => ?_)
  · obtain ⟨g, _, _, _, _, rfl, _⟩ := h
    rfl
  · obtain ⟨g, n, m, f, a, rfl, hS, h0, h1, q⟩ := h
    refine ⟨_, (pss_cons (ps_set (i := 2) sc_away_from.nd rfl (by first | exact Or.inl rfl | exact Or.inr rfl) (pe_call G_end_of_away (hr.mono (by omega)) (by rfl) g_end_of_away F_end_of_away.kp b_end_of_away .nil pass0 (pa_cons (pv 0) (pa_cons (pv 1) pa_nil))))
  (pss_one (ps_ret (pe_op op_sub (pe_call G_told_number (hr.mono (by omega)) (by rfl) g_told_number F_told_number.kp b_told_number .nil pass0 (pa_cons (pv 0) (pa_cons (pv 1) (pa_cons (pv 2) pa_nil)))) (pe_call G_told_number (hr.mono (by omega)) (by rfl) g_told_number F_told_number.kp b_told_number .nil pass0 (pa_cons (pv 0) (pa_cons (pe_op op_add (pv 1) pe_int) (pa_cons (pv 2) pa_nil)))))))), ?_⟩
    have w1 := hS.2.w1
    have e1 : eA n m a < n ∧ eA n m a - a < m := by
      unfold eA
      split <;> omega
    exact ⟨_, rfl, _, rfl, g, n, m, f, a, rfl, hS, h0, h1, _, rfl, _, rfl, _, rfl, g, n, m, f, a, eA n m a, rfl, hS, fun _ => ⟨h0, e1.1, e1.2⟩, _, rfl, _, rfl, _, _, rfl, rfl, _, rfl, g, n, m, f, a + 1, eA n m a, rfl, hS, fun _ => ⟨by omega, e1.1, by omega⟩, _, _, rfl, rfl, q⟩
theorem ok_stf {f : Addr} {fd : FuncData} {k : Nat} (F : Fun K "start_of_fresh" "start_of_fresh" s_start_of_fresh f fd) (m_len : mg "len" = none) (m_max : mg "max" = none) : FnOk P w K mg base CX0 (k + 1) f fd ["sheet", "day"] spStF := by
  refine F.ok sc_start_of_fresh (fun vs H Q E h => ?_) (fun cdv A outer s H vs Q E hr h => ?_)
  · obtain ⟨g, _, _, _, _, rfl, _⟩ := h
    rfl
  · obtain ⟨g, n, m, f, b, rfl, ⟨⟨rows, G⟩, hf⟩, h0, h1, q⟩ := h
    refine ⟨_, (pss_one (ps_ret (pe_callB (call_max2 rfl) (by rfl) m_max PyProof.Rows.boot_max (pa_cons pe_int (pa_cons (pe_op op_add (pe_op op_sub (pv 1) (pe_callB (Fa.lenQ K) (by rfl) m_len PySem.boot_len (pa_cons (pe_ix (Fa.ixL K) (pv 0) (pe_un un_neg pe_int) (fun _ _ => rfl)) pa_nil))) pe_int) pa_nil))))), ?_⟩
    obtain ⟨r, ea, er, hr'⟩ := G.last hf.n1
    refine ⟨_, rfl, _, rfl, 1, rfl, g, _, _, _, rfl, rfl, .inl (.inl G.top), ea, r, _, rfl, .inl (.inl (.inl hr')), _, _, rfl, rfl, _, _, rfl, rfl, 0, _, rfl, ?_⟩
    rw [List.length_map, hf.last]
    exact q
theorem ok_fro {f fE fT : Addr} {fd fdE fdT : FuncData} {k : Nat} (F : Fun K "fresh_on" "fresh_on" s_fresh_on f fd) (F_start_of_fresh : Fun K "start_of_fresh" "start_of_fresh" s_start_of_fresh fE fdE) (G_start_of_fresh : FnOk P w K mg base CX0 k fE fdE ["sheet", "day"] spStF) (b_start_of_fresh : Binds K fdE ["sheet", "day"] []) (g_start_of_fresh : mg "start_of_fresh" = some (.ref fE))
    (F_told_number : Fun K "told_number" "told_number" s_told_number fT fdT) (G_told_number : FnOk P w K mg base CX0 k fT fdT ["sheet", "first", "last"] spU) (b_told_number : Binds K fdT ["sheet", "first", "last"] [])
    (g_told_number : mg "told_number" = some (.ref fT)) : FnOk P w K mg base CX0 (k + 1) f fd ["sheet", "day"] spFrO := by
  refine F.ok sc_fresh_on (fun vs H Q E h => ?_) (fun cdv A outer s H vs Q E hr h => ?_)
  · obtain ⟨g, _, _, _, _, rfl, _⟩ := h
    rfl
  · obtain ⟨g, n, m, f, b, rfl, hS, h0, h1, q⟩ := h
    refine ⟨_, (pss_cons (ps_set (i := 2) sc_fresh_on.nd rfl (by first | exact Or.inl rfl | exact Or.inr rfl) (pe_call G_start_of_fresh (hr.mono (by omega)) (by rfl) g_start_of_fresh F_start_of_fresh.kp b_start_of_fresh .nil pass0 (pa_cons (pv 0) (pa_cons (pv 1) pa_nil))))
  (pss_one (ps_ret (pe_op op_sub (pe_call G_told_number (hr.mono (by omega)) (by rfl) g_told_number F_told_number.kp b_told_number .nil pass0 (pa_cons (pv 0) (pa_cons (pv 2) (pa_cons (pv 1) pa_nil)))) (pe_call G_told_number (hr.mono (by omega)) (by rfl) g_told_number F_told_number.kp b_told_number .nil pass0 (pa_cons (pv 0) (pa_cons (pv 2) (pa_cons (pe_op op_sub (pv 1) pe_int) pa_nil)))))))), ?_⟩
    have w1 := hS.2.w1
    have e1 : 0 ≤ sF m b ∧ b - sF m b < m := by
      unfold sF
      split <;> omega
    exact ⟨_, rfl, _, rfl, g, n, m, f, b, rfl, hS, h0, h1, _, rfl, _, rfl, _, rfl, g, n, m, f, sF m b, b, rfl, hS, fun _ => ⟨e1.1, h1, e1.2⟩, _, rfl, _, rfl, _, rfl, _, _, rfl, rfl, g, n, m, f, sF m b, b - 1, rfl, hS, fun _ => ⟨e1.1, by omega, by omega⟩, _, _, rfl, rfl, q⟩
def spPairs : Sp := fun vs H Q _ => ∃ (g : Addr) (n w : Nat) (f : Nat → List Int), vs = [.ref g] ∧ ShAt H g n w f ∧ ∀ H' l xs, Same H H' → H l = none → H' l = some (.lst xs) → Paired (DuoAt H') xs (prAll n w n) → Q (.ref l) H'
theorem ok_pairs {f : Addr} {fd : FuncData} {k : Nat} (F : Fun K "_told_pairs" "_told_pairs" s__told_pairs f fd) (m_len : mg "len" = none) (m_min : mg "min" = none) (m_range : mg "range" = none) : FnOk P w K mg base CX0 (k + 1) f fd ["sheet"] spPairs := by
  refine F.ok sc__told_pairs (fun vs H Q E h => ?_) (fun cdv A outer s H vs Q E hr h => ?_)
  · obtain ⟨g, _, _, _, rfl, _⟩ := h
    rfl
  · obtain ⟨g, n, m, f, rfl, ⟨⟨rows, G⟩, hf⟩, q⟩ := h
    refine ⟨_, (pss_cons (ps_set (i := 1) sc__told_pairs.nd rfl (by first | exact Or.inl rfl | exact Or.inr rfl) (pe_callB (Fa.lenQ K) (by rfl) m_len PySem.boot_len (pa_cons (pv 0) pa_nil)))
  (pss_cons (ps_set (i := 2) sc__told_pairs.nd rfl (by first | exact Or.inl rfl | exact Or.inr rfl) (pe_callB (Fa.lenQ K) (by rfl) m_len PySem.boot_len (pa_cons (pe_ix (Fa.ixL K) (pv 0) (pe_un un_neg pe_int) (fun _ _ => rfl)) pa_nil)))
  (pss_one (ps_ret (pe_lc2 (own := [("first", 3), ("second", 4)]) (vs1 := [4]) (g := (gName 3)) (g1 := (gName 4)) (tt := tYes) (tt1 := tYes) rfl sc__told_pairs.nd (pi_range1 (by rfl) m_range (pa_cons (pv 1) pa_nil)) (blkOk_by (N := N__told_pairs) (sc := defScope s__told_pairs) (by decide +kernel)) (by decide) (fun _ _ _ _ _ => (pg_name (i := 3) sc__told_pairs.nd rfl (by first | exact Or.inl rfl | exact Or.inr rfl))) (fun _ _ _ _ _ => pts_nil) (fun _ _ _ _ _ => (pi_range2 (by rfl) m_range (pa_cons (pe_op op_add (pv 3) pe_int) (pa_cons (pe_callB (call_min2 rfl) (by rfl) m_min PyProof.Rows.boot_min (pa_cons (pe_op op_add (pv 3) (pv 2)) (pa_cons (pv 1) pa_nil))) pa_nil)))) (fun _ _ _ _ _ => (pg_name (i := 4) sc__told_pairs.nd rfl (by first | exact Or.inl rfl | exact Or.inr rfl))) (fun _ _ _ _ _ => pts_nil) (fun _ _ _ _ _ => (pe_tup (pa_cons (pv 3) (pa_cons (pv 4) pa_nil))))))))), ?_⟩
    have n1 := hf.n1
    have n30 := hf.n30
    have w1 := hf.w1
    have rl : (rows.map V.ref).length = n := by rw [List.length_map, G.cnt]
    obtain ⟨r, ea, er, hr'⟩ := G.last n1
    have ll : ((f (n - 1)).map V.int).length = m := by rw [List.length_map, hf.last]
    refine ⟨_, rfl, g, _, rfl, .inl (.inl (.inl G.top)), _, rfl, 1, rfl, g, _, _, _, rfl, rfl, .inl (.inl G.top), ea, r, _, rfl, .inl (.inl (.inl hr')), ?_⟩
    rw [rl, ll]
    refine ⟨_, rfl, n, rfl, by omega, by omega, fun D nD => ?_⟩
    rw [Int.toNat_natCast]
    refine lc2_out walk_range (fun i H' => Same H H' ∧ ∃ xs, H' D = some (.lst xs) ∧ Paired (DuoAt H') xs (prAll n m i)) ⟨same_new nD, [], upd_same, .nil⟩ (fun _ _ _ _ => trivial) ?_ ?_
    · rintro i x H1 _ hi ⟨s1, xs, el, hP⟩ ⟨rfl, ex⟩
      have ex : x = .int (i : Int) := by
        rw [ex]
        show V.int (0 + (i : Int)) = V.int (i : Int)
        rw [Int.zero_add]
      subst ex
      have mn : (if (n : Int) < (i : Int) + (m : Int) then (n : Int) else (i : Int) + (m : Int)) = ((min (i + m) n : Nat) : Int) := by
        split <;> omega
      refine ⟨rfl, yes_if ⟨_, rfl, _, _, rfl, rfl, _, rfl, _, rfl, _, _, rfl, rfl, _, rfl, _, _, rfl, _, _, rfl, ⟨by omega, by omega, by rw [mn]; omega, by rw [mn]; omega⟩, ?_⟩⟩
      rw [mn, show (((min (i + m) n : Nat) : Int) - ((i : Int) + 1)).toNat = min (i + m) n - (i + 1) by omega]
      refine lc2_in walk_range (fun j H' => Same H H' ∧ ∃ xs, H' D = some (.lst xs) ∧ Paired (DuoAt H') xs (prAll n m i ++ prRow i j)) ⟨s1, xs, el, by rw [show prRow i 0 = [] from rfl, List.append_nil]; exact hP⟩ (fun _ _ _ _ => trivial) ?_ ?_
      · rintro j x H2 _ hj ⟨s2, ys, el2, hP2⟩ ⟨rfl, rfl⟩
        have len := hP2.length
        rw [List.length_append, prRow_len] at len
        have l1 := prAll_len (w := m) n30 i
        refine ⟨rfl, yes_if ⟨_, rfl, _, rfl, by show 2 ≤ sizeLine; decide, fun T nT => ⟨ys, (same_new nT) _ _ el2, small1000 (by omega), push_same s2 nD nT, _, upd_same, ?_⟩⟩⟩
        rw [prRow_succ, ← List.append_assoc]
        exact DuoAt.push (p := ((i : Int), (i : Int) + 1 + (j : Int))) el2 hP2 nT
      · rintro H2 ⟨s2, ys, el2, hP2⟩
        rw [← prAll_succ] at hP2
        exact ⟨s2, ys, el2, hP2⟩
    · rintro H1 ⟨s1, xs, el, hP⟩
      exact q H1 D xs s1 nD el hP
end
end K21

/-! a lambda that is made, handed on and called with one argument; a law's end with tables of code objects -/
namespace Fa
open PySem PySem.Spec PyProof.Rows L2 LamX
/-- the function object at f -/
def FunO (f : Addr) (o : Obj) : HO := .ext fun h => h.get? f = some o
theorem funO_ok {P : Program} {w : World} {H : Hp} {h : Heap} {f : Addr} {o : Obj} (e : h.get? f = some o) : ObjOk P w H h f (FunO f o) := ⟨e, ⟨o, e⟩, fun _ _ a k => k o a⟩
theorem funO_ne {f : Addr} {o : Obj} (ps : Array Value) : FunO f o ≠ .tbl ps := fun z => by
  unfold FunO at z
  cases z
abbrev lamO (q : Str) (params : Arguments) (body : Expr) (scope : Scope) (cl : List (Str × Addr)) (pm : Value) (c' : Addr) (ctv : Value) : Obj := PySem.W.kla_obj "<lambda>" q params body scope cl pm c' ctv
section
variable {X : Cx} {pins : List (Addr × Obj)} {σ : L2.St} {H : Hp} {s : Shared}
/-- the expression makes a new function object, whose code object bears the name q -/
theorem lam_new {T : List (Addr × Str)} {c P : Addr} {params : Arguments} {body : Expr} {scope : Scope} {pos : Pos} {E : Value → Shared → Prop} {Q : Value → Shared → Prop} (I : Inv X pins σ H s) (TB : TabB X.base X.mg c P) (hcode : X.env.code = .ref c)
    (hm : (P, X.env.qual ++ "<lambda>") ∈ T) (hu : ∀ p ∈ T, p.1 = P → p.2 = X.env.qual ++ "<lambda>") (hT : Tabs T H) (hdef : defaultsOf params X.env = ([], [])) (hfree : ∀ y ∈ scope.names, y.2 = .free → ∃ c, X.env.cells.lookup y.1 = some c)
    (fin : ∀ (f c' : Addr) (pm ctv : Value) (H1 : Hp) (s' : Shared), Inv X pins σ H1 s' → ExtN H H1 → Tabs T H1 → H f = none →
      H1 f = some (FunO f (lamO (X.env.qual ++ "<lambda>") params body scope (cloFrom X.env.cells scope.names []) pm c' ctv)) → H1 c' = some (CodeO c' (X.env.qual ++ "<lambda>")) → Q (.ref f) s') :
    wpAny (model X.prog X.w) X.A (eval (.Lambda params body scope pos) X.env) Q E s := by
  obtain ⟨ps, eP, tri, known⟩ := hT _ hm
  have main : s.heap.Ns mainGlobals X.mg := I.ok.mod.glob.keeps I.bk
  have hd := TB.code.keeps I.bk
  have blt : s.heap.BuiltinsAt X.mg P := TB.bm.keeps I.bk
  have oP : s.heap.get? P = some { cls := .none, data := .fields ps } := I.hok P _ eP
  refine PySem.W.kla_eval hdef ?_
  -- the function object is tracked
  have track : ∀ (o : Obj) (f c' : Addr) (pm ctv : Value) (H1 : Hp) (s1 : Shared), Inv X pins σ H1 s1 → ExtN H H1 → Tabs T H1 → s.heap.objs.size ≤ f → H1 f = none → s1.heap.get? f = some o → o = lamO (X.env.qual ++ "<lambda>") params body scope (cloFrom X.env.cells scope.names []) pm c' ctv →
      H1 c' = some (CodeO c' (X.env.qual ++ "<lambda>")) → Q (.ref f) s1 := by
    intro o f c' pm ctv H1 s1 I1 x1 t1 new free at_ eo ec
    subst eo
    have J := I1.take (h' := s1.heap) (t' := s1.toks) (fun b ob _ e => e) (I.fpOk new free) (funO_ok at_)
    refine fin f c' pm ctv _ s1 J (fun b o e n => ?_) (t1.ext fun b o e => ?_) ?_ upd_same ?_
    · have := x1 b o e n
      rw [upd_ne (ne_of_none this free)]
      exact this
    · rw [upd_ne (ne_of_none e free)]
      exact e
    · exact I.hok.fresh new
    · rw [upd_ne (ne_of_none ec free)]
      exact ec
  cases look : codeAmong pos ps.toList with
  | some cv =>
    obtain ⟨c', e, ec⟩ := known pos cv look
    subst e
    refine PySem.W.kla_makeFunctionHit (mg := X.mg) (c := c) (P := P) (ps := ps) (closure_ok hfree) I.ok.glob main hcode hd oP tri look blt fun ctv h' tk keep size => ?_
    exact track _ _ c' _ ctv H _ (I.kept (t' := tk) fun b o e => Heap.get?_push_of_some _ (keep b o e)) (ExtN.refl H) hT size (I.hok.fresh size) (Heap.get?_push_size _ rfl) rfl ec
  | none =>
    refine PySem.W.kla_makeFunction (mg := X.mg) (c := c) (P := P) (ps := ps) (closure_ok hfree) I.ok.glob main hcode hd oP tri look TB.gP blt fun c' ctv h' tk keep ge lt rec' tab => ?_
    obtain ⟨c2, oc, vs, t, e2, hoc, hdat, hv⟩ := rec'
    cases e2
    have size : s.heap.objs.size ≤ h'.objs.size := Nat.le_trans ge (Nat.le_of_lt lt)
    have nC : H c' = none := I.hok.fresh ge
    have J := inv_table (t' := tk) (more := #[rawInt pos.line, rawInt pos.col, .ref c']) (h' := h'.push (lamO (X.env.qual ++ "<lambda>") params body scope (cloFrom X.env.cells scope.names []) ((X.mg "__name__").getD .none) c' ctv)) I eP
      (fun b o hb e => Heap.get?_push_of_some _ (keep b o hb e)) (Heap.get?_push_of_some _ tab) ge ⟨oc, vs, t, Heap.get?_push_of_some _ hoc, hdat, hv⟩
    have x1 : ExtN H (upd (upd H P (.tbl (ps ++ #[rawInt pos.line, rawInt pos.col, .ref c']))) c' (CodeO c' (X.env.qual ++ "<lambda>"))) := fun b o e n => by
      rw [upd_ne (ne_of_none e nC), upd_ne (fun z => n ps (Option.some.inj (e.symm.trans (by rw [z]; exact eP))))]
      exact e
    have nf1 : h'.objs.size ≠ c' := Nat.ne_of_gt lt
    have nf2 : h'.objs.size ≠ P := Nat.ne_of_gt (Nat.lt_of_lt_of_le (Heap.lt_size oP) size)
    refine track _ _ c' _ ctv _ _ J x1 (fun p hp => ?_) size ?_ (Heap.get?_push_size _ rfl) rfl upd_same
    · by_cases z : p.1 = P
      · rw [hu p hp z, z]
        refine ⟨_, by rw [upd_ne (ne_of_none eP nC), upd_same], ?_, fun p' cv hcv => ?_⟩
        · rw [Array.toList_append]
          exact PySem.TriplesOk_snoc _ _ _ _ tri
        · rw [Array.toList_append] at hcv
          rcases among_app _ tri hcv with z | z
          · obtain ⟨c0, e1, e2⟩ := known p' cv z
            exact ⟨c0, e1, x1 _ _ e2 codeO_ne⟩
          · exact ⟨c', z, upd_same⟩
      · obtain ⟨ps', a1, a2, a3⟩ := hT p hp
        refine ⟨ps', by rw [upd_ne (ne_of_none a1 nC), upd_ne z]; exact a1, a2, fun p' cv hcv => ?_⟩
        obtain ⟨c0, e1, e2⟩ := a3 p' cv hcv
        exact ⟨c0, e1, x1 _ _ e2 codeO_ne⟩
    · rw [upd_ne nf1, upd_ne nf2]
      exact I.hok.fresh size
end
/-! ### what is asked of a lambda of one tuple of ints: g says what it answers -/
section
variable (P : Program) (w : World) (K : PySem.W.Frag) (mg : Str → Option Value) (base : Heap)
/-- the lambda's promise, as long as its objects are tracked -/
def spLam (f : Addr) (o : Obj) (c' : Addr) (q : Str) (g : List Int → Bool) : Sp := fun vs H Q _ => ∃ (t : Addr) (ds : List Int), vs = [.ref t] ∧ H f = some (FunO f o) ∧ H c' = some (CodeO c' q) ∧ SqT K H t (ds.map V.int) ∧ ∀ H', Same H H' → Q (.bl (g ds)) H'
structure LamF (f : Addr) (o : Obj) (c' : Addr) (q x : Str) (fd : FuncData) (g : List Int → Bool) : Prop where
  dat : o.data = .func fd
  bnd : Binds K fd [x] []
  ok : FnOk P w K mg base CX0 2 f fd [x] (spLam K f o c' q g)
structure Lam (f : Addr) (g : List Int → Bool) (H : Hp) : Prop where
  ex : ∃ (o : Obj) (c' : Addr) (q x : Str) (fd : FuncData), LamF P w K mg base f o c' q x fd g ∧ H f = some (FunO f o) ∧ H c' = some (CodeO c' q)
end
section
variable {P : Program} {w : World} {K : PySem.W.Frag} {mg : Str → Option Value} {base : Heap} {f : Addr} {g : List Int → Bool} {H H' : Hp}
theorem Lam.extN (l : Lam P w K mg base f g H) (x : ExtN H H') : Lam P w K mg base f g H' := by
  obtain ⟨o, c', q, y, fd, F, h1, h2⟩ := l.ex
  exact ⟨o, c', q, y, fd, F, x _ _ h1 funO_ne, x _ _ h2 codeO_ne⟩
theorem Lam.same (l : Lam P w K mg base f g H) (x : Same H H') : Lam P w K mg base f g H' := l.extN (ExtN.of x)
end
/-- name(e), the name a slot that holds such a lambda -/
def tLamCall (P : Program) (w : World) (K : PySem.W.Frag) (mg : Str → Option Value) (base : Heap) (i : Nat) (t : TA) : TE := fun σ H Q => ∃ f g, σ[i]? = some (some (.ref f)) ∧ Lam P w K mg base f g H ∧ t σ H fun vs H1 => ∃ a ds, vs = [.ref a] ∧ Lam P w K mg base f g H1 ∧ SqT K H1 a (ds.map V.int) ∧ ∀ H', Same H1 H' → Q (.bl (g ds)) H'
theorem pe_lamc {X : Cx} {x : Str} {e : Expr} {i : Nat} {p pos : Pos} {t : TA} (P : Program) (w : World) (K : PySem.W.Frag) (mg : Str → Option Value) (base : Heap) (hr : Room 2 X.A) (hN : X.N[i]? = some x) (hv : Vis X.env.scope x) (ha : PA X [e] t)
    (e1 : X.prog = P := by rfl) (e2 : X.w = w := by rfl) (e3 : X.K = K := by rfl) (e4 : X.mg = mg := by rfl) (e5 : X.base = base := by rfl) (hdb : (x == ("__debug__" : Str)) = false := by decide) (hcd : (x == ("__classdict__" : Str)) = false := by decide)
    (he : starEach [e] X.env = (false, eval e X.env) :: starEach [] X.env := by rfl) (hpl : (backTo pos (starEach [] X.env)).any (·.1) = false := by rfl) : PE X (.Call (.Name x p) [e] [] pos) (tLamCall P w K mg base i t) := by
  subst e1 e2 e3 e4 e5
  refine ⟨fun pins s σ H Q I h => ?_⟩
  obtain ⟨f, g, hs, L, ht⟩ := h
  refine wpAny_Call_Name_kw (thn ((pe_var (pos := p) hN hv hdb hcd).run pins s σ H (fun v H1 => v = .ref f ∧ H1 = H) I ⟨.ref f, hs, rfl, rfl⟩) fun u s1 ⟨v, H1, I1, r1, ev, eH⟩ => ?_)
  subst ev eH
  cases r1
  have fnAt : ∀ {H2 : Hp} {s2 : Shared}, Inv X pins σ H2 s2 → Lam X.prog X.w X.K X.mg X.base f g H2 → PySem.W.FnAt f s2.heap := fun {H2 s2} I2 L2 => by
    obtain ⟨o, c', q, _, fd, F, h1, h2⟩ := L2.ex
    have e : s2.heap.get? f = some o := (I2.hok f _ h1).1
    obtain ⟨oc, od, dt, sl⟩ := o
    have dt' : dt = .func fd := F.dat
    subst dt'
    exact ⟨oc, od, fd, sl, e⟩
  refine PySem.W.callWith_F (fnAt I1 L) (thn (ha.run pos pins s1 σ _ _ I1 ht) fun us s2 ⟨vs, H2, I2, r, a, ds, ev, L2, sq, q⟩ => ⟨fnAt I2 L2, ?_⟩) he hpl
  obtain ⟨o, c', qn, _, fd, F, h1, h2⟩ := L2.ex
  exact run_fn F.ok hr F.bnd .nil pass0 I2 r ⟨a, ds, by rw [ev]; rfl, h1, h2, sq, q⟩
/-! ### lambdas that answer a written True or False -/
section
variable {P : Program} {w : World} {K : PySem.W.Frag} {mg : Str → Option Value} {base : Heap}
/-- a lambda of one parameter: names that are cells there are none -/
def lamC (scope : Scope) (x : Str) : Bool := decide (scope.kind = .function) && (!scope.isCoroutine && (!scope.isGenerator && ((scope.names.all fun y => !decide (y.2 = .cell)) && decide (scope.names.lookup x = some .local))))
theorem lam_const {f c' : Addr} {q x : Str} {params : Arguments} {b : Bool} {j : Nat} {cp : Pos} {scope : Scope} {pm ctv : Value} {cl : List (Str × Addr)} (sc : lamC scope x = true)
    (bind : ∀ (pm ctv : Value) (cl : List (Str × Addr)) (q : Str) (c' : Addr) (u : Value), bindArgs (PySem.W.kla_fn "<lambda>" q params (.Constant (.bool b) j cp) scope cl pm (.ref c') ctv) ⟨[u], []⟩ = pure [(x, u)]) :
    LamF P w K mg base f (lamO q params (.Constant (.bool b) j cp) scope cl pm c' ctv) c' q x (PySem.W.kla_fn "<lambda>" q params (.Constant (.bool b) j cp) scope cl pm (.ref c') ctv) fun _ => b := by
  obtain ⟨kind, sc⟩ := He.ba sc
  obtain ⟨co, sc⟩ := He.ba sc
  obtain ⟨gen, sc⟩ := He.ba sc
  obtain ⟨own, par⟩ := He.ba sc
  refine ⟨rfl, fun s us _ hl => ?_, fun vs H Q E h => ?_, fun A outer s H args us vs Q E hr e0 hb r h => ?_⟩
  · match us, hl with
    | [u], _ => exact .of_eq (bind _ _ _ _ _ u)
  · obtain ⟨t, _, e, _⟩ := h
    rw [e]
    rfl
  · obtain ⟨t, ds, ev, h1, h2, sq, q⟩ := h
    subst ev
    have at_ : s.heap.get? f = some _ := (e0.hok f _ h1).1
    obtain ⟨⟨oc, ws, tk, hoc, hdc, hvc⟩, _, _⟩ := e0.hok c' _ h2
    have lim : s.heap.NoLimit := e0.mod.nolimit.keeps fun b o e => (e0.bs b o e).1
    refine PySem.W.kla_callFunE hr.depth at_ rfl (Bool.not_eq_true' _ ▸ co) (Bool.not_eq_true' _ ▸ gen) rfl ⟨c', oc, ws, tk, rfl, hoc, hdc, hvc⟩ ?_
    refine hb _ _ _ _ (wpAny_newFunctionEnv (fun y hy e => ?_) (fun y hy => ?_) (fun h1 ns same => ⟨lim.fresh _ same, PySem.W.kla_codeExpr (Constant_bool ?_)⟩) (of_decide_eq_true kind))
    · have := List.all_eq_true.mp own y hy
      rw [e] at this
      exact absurd this (by decide)
    · have := (List.of_mem_zip hy).1
      rw [List.mem_singleton.mp this]
      exact of_decide_eq_true par
    · have kp : ∀ b o, s.heap.get? b = some o → h1.get? b = some o := fun b o e => same.extBut b o (Nat.ne_of_lt (Heap.lt_size e)) (Heap.get?_push_of_some _ e)
      exact ⟨.bl b, H, rfl, e0.bare, Un.kept kp, e0.hok.kept kp, rfl, q H (Same.refl H)⟩
end
/-- the lambda as an argument -/
def tLamN (P : Program) (w : World) (K : PySem.W.Frag) (mg : Str → Option Value) (base : Heap) (T : List (Addr × Str)) (g : List Int → Bool) : TE := fun _ H Q => Tabs T H ∧ ∀ f H1, ExtN H H1 → Tabs T H1 → H f = none → Lam P w K mg base f g H1 → Q (.ref f) H1
theorem pe_lamF {X : Cx} {T : List (Addr × Str)} {c P : Addr} {x : Str} {params : Arguments} {b : Bool} {j : Nat} {cp : Pos} {scope : Scope} {pos : Pos} (TB : TabB X.base X.mg c P) (hcode : X.env.code = .ref c) (hm : (P, X.env.qual ++ "<lambda>") ∈ T) (hu : ∀ p ∈ T, p.1 = P → p.2 = X.env.qual ++ "<lambda>")
    (hdef : defaultsOf params X.env = ([], [])) (free : (scope.names.all fun y => !decide (y.2 = .free)) = true) (sc : lamC scope x = true)
    (bind : ∀ (pm ctv : Value) (cl : List (Str × Addr)) (q : Str) (c' : Addr) (u : Value), bindArgs (PySem.W.kla_fn "<lambda>" q params (.Constant (.bool b) j cp) scope cl pm (.ref c') ctv) ⟨[u], []⟩ = pure [(x, u)]) :
    PE X (.Lambda params (.Constant (.bool b) j cp) scope pos) (tLamN X.prog X.w X.K X.mg X.base T fun _ => b) := by
  refine ⟨fun pins s σ H Q I h => ?_⟩
  obtain ⟨hT, h⟩ := h
  refine lam_new I TB hcode hm hu hT hdef (fun y hy e => ?_) fun f c' pm ctv H1 s' I1 x1 t1 n1 e1 e2 => ?_
  · have := List.all_eq_true.mp free y hy
    rw [e] at this
    exact absurd this (by decide)
  · exact ⟨.ref f, H1, I1, rfl, h f H1 x1 t1 n1 ⟨_, c', _, x, _, lam_const sc bind, e1, e2⟩⟩
/-! ### a def whose code object is told -/
theorem Fun.okC {P : Program} {w : World} {K : PySem.W.Frag} {mg : Str → Option Value} {base : Heap} {x qual : Str} {st : Stmt} {f c : Addr} {fd : FuncData} {N ps : List Str} {k : Nat} {sp : Sp} (F : Fun K x qual st f fd) (code : fd.code = .ref c) (S : FnScope N ps (defScope st))
    (len : ∀ vs H Q E, sp vs H Q E → vs.length = ps.length)
    (hbody : ∀ (A : Around) (outer : List Env) (s : Shared) (H : Hp) (vs : List V) (Q : VK) (E : XK), Room k (A.deeper (envOfC qual (defScope st) s.heap.objs.size f (.ref c))) → sp vs H Q E →
      ∃ t, PSs (cxOf CX0 P w K mg base N qual (defScope st) f (.ref c) A outer s H E).nox (defBody st) t ∧ t { nx := fun _ H' => Q .non H', rt := Q } (start N vs) H) : FnOk P w K mg base CX0 (k + 1) f fd ps sp := by
  obtain ⟨oc, od, kV, doc, pm, an, cdv, ct, osl, rfl, lk, hcd⟩ := F.ex
  cases (show cdv = .ref c from code)
  refine fn_of lk hcd S len fun A outer s H vs Q E hr hsp => ?_
  obtain ⟨t, h, q⟩ := hbody A outer s H vs Q E hr hsp
  exact ⟨t, h.nox, q⟩
end Fa

/-! a law's end, where tables of code objects are known (lambdas are made on the way) -/
namespace Fa
open PySem PySem.Spec PyProof.Rows L2 LamX
section
variable {P : Program} {w : World} {K : PySem.W.Frag} {mg mb : Str → Option Value} {k : Nat} {fa a : Addr} {fd : FuncData} {x : Str} {sp : Sp} {st : Shared} {vs : List Value} {ns : List Int} {cs : List (Addr × Addr)}
/-- the tables stand empty, outside of what is written -/
structure Empty (K : PySem.W.Frag) (h : Heap) (cs : List (Addr × Addr)) : Prop where
  tab : ∀ p ∈ cs, h.get? p.2 = some { cls := .none, data := .fields #[] }
  out : ∀ p ∈ cs, K.lookup p.2 = none
  hd : ∀ p ∈ cs, PySem.W.CodeHd h p.1 p.2
/-- the tables' places -/
abbrev plc (cs : List (Addr × Addr)) : List Addr := cs.map (·.2)
def Begun (M : Hp) (cs : List (Addr × Addr)) : Prop := ∀ p ∈ cs, M p.2 = some (.tbl #[])
theorem law_runT {M : Hp} (kin : K.In st.heap) (main : st.heap.Ns mainGlobals mg) (hb : st.heap.Ns builtinsNs mb) (boot : ∀ y : Str, y ≠ "__name__" → mb y = bootBuiltins y) (free : st.heap.NoLimit) (gens : st.gens = #[])
    (bmain : ∃ (bm : Addr) (ob : Obj), mg "__builtins__" = some (.ref bm) ∧ bm ≠ builtinsNs ∧ st.heap.get? bm = some ob ∧ ob.cls = .type "module" ∧ ob.dict = some builtinsNs ∧ ob.data = .plain)
    (em : Empty K st.heap cs) (at' : st.heap.get? a = some { cls := .type "list", data := .seq vs.toArray }) (room : Room k callerA)
    (F : ∀ base : Heap, K.In base → base.Ns mainGlobals mg → (∀ p ∈ cs, TabB base mg p.1 p.2) → FnG P w K mg base k fa fd [x] sp)
    (bnd : ∀ (s : Shared) (u : Value), BindsTo s fd ⟨[u], []⟩ [(x, u)]) (beg : Begun M cs) (only : ∀ b, M b = none ∨ b ∈ plc cs ∨ ∃ o xs, M b = some (.frz o (.lst xs)))
    (q : sp [.ref a] M (fun v _ => v = .bl true) E0) (hok : HOk P w M st.heap) (dom : ∀ b, M b ≠ none → b = a ∨ b ∈ plc cs) (notK : M a ≠ none → K.lookup a = none) :
    codeAny (model P w) callerA (.call (.ref fa) ⟨[.ref a], []⟩) (Well st) st := by
  have tabAt : ∀ b, b ∈ plc cs → st.heap.get? b = some { cls := .none, data := .fields #[] } := fun b hb => by
    obtain ⟨p, hp, rfl⟩ := List.mem_map.mp hb
    exact em.tab p hp
  -- what is neither the script nor a table is not tracked
  have plain : ∀ {b : Addr} {o : Obj}, st.heap.get? b = some o → (∀ l n, o.data ≠ .seq l n) → o.data ≠ .fields #[] → M b = none := fun {b o} e n1 n2 => by
    cases c : M b with
    | none => rfl
    | some u =>
      rcases dom b (by rw [c]; exact Option.some_ne_none _) with z | z
      · subst z
        rw [at'] at e
        cases e
        exact absurd rfl (n1 _ _)
      · rw [tabAt b z] at e
        cases e
        exact absurd rfl n2
  have dictly : ∀ {b : Addr} {o : Obj} {es : Array DictEntry} {ep : Nat}, st.heap.get? b = some o → o.data = .dict es ep → M b = none := fun {b o es ep} e d => plain e (fun l n z => by rw [d] at z; cases z) (fun z => by rw [d] at z; cases z)
  have toN : ∀ {b : Addr} {m : Str → Option Value}, st.heap.Ns b m → (hidT st.heap M).Ns b m := by
    rintro b m ⟨o, es, ep, e, d, r⟩
    exact ⟨o, es, ep, hidT_get e (dictly e d), d, r⟩
  have kin2 : K.In (hidT st.heap M) := fun b o e => by
    refine hidT_get (kin b o e) ?_
    cases c : M b with
    | none => rfl
    | some u =>
      rcases dom b (by rw [c]; exact Option.some_ne_none _) with z | z
      · subst z
        rw [notK (by rw [c]; exact Option.some_ne_none _)] at e
        cases e
      · obtain ⟨p, hp, rfl⟩ := List.mem_map.mp z
        rw [em.out p hp] at e
        cases e
  obtain ⟨mc, f1, f2⟩ := free
  have md : Mod K mg (hidT st.heap M) := ⟨kin2, toN main, ⟨mb, toN hb, boot⟩, ⟨mc, toN f1, f2⟩⟩
  have tb : ∀ p ∈ cs, TabB (hidT st.heap M) mg p.1 p.2 := fun p hp => by
    have tp := em.tab p hp
    refine ⟨?_, ?_, fun z => ?_⟩
    · obtain ⟨o, us, file, tf, flags, tg, inF, text, tt, e1, r1, r2, r3, r⟩ := em.hd p hp
      refine ⟨o, us, file, tf, flags, tg, inF, text, tt, hidT_get e1 (plain e1 (fun l n z => ?_) fun z => ?_), r1, r2, r3, r⟩
      · rw [r2] at z
        cases z
      · rw [r2] at z
        cases z
        simp at r3
    · obtain ⟨bm, ob, b1, b2, b3, b4, b5, b6⟩ := bmain
      refine ⟨bm, ob, b1, b2, fun z => ?_, fun z => ?_, hidT_get b3 (plain b3 (fun l n z => by rw [b6] at z; cases z) (fun z => by rw [b6] at z; cases z)), b4, b5, b6⟩
      · obtain ⟨o, es, ep, e, d, _⟩ := main
        rw [z, e] at b3
        cases b3
        rw [d] at b6
        cases b6
      · rw [z, tp] at b3
        cases b3
        cases b6
    · obtain ⟨o, es, ep, e, d, _⟩ := main
      rw [z, tp] at e
      cases e
      cases d
  have env : Env0 P w K mg (hidT st.heap M) callerA [] st M :=
    ⟨rfl, md, fun b o e => of_hidT e, Nat.le_of_eq (hidT_size _ _), trivial, fun b z => (List.not_mem_nil z).elim, hok, .of_eq gens⟩
  have go := (F _ kin2 (toN main) tb).runs callerA [] st M ⟨[.ref a], []⟩ [.ref a] [.ref a] _ _ room rfl env (bnd st (.ref a)) (.cons rfl .nil) q
  refine codeAny_mono go fun r s2 z => ?_
  match r, z with
  | .error _, z => exact z.elim
  | .ok .next, z => exact z.elim
  | .ok .brk, z => exact z.elim
  | .ok .cont, z => exact z.elim
  | .ok (.ret u), ⟨v, M2, os, bare, un, hok2, rv, eq⟩ =>
    cases (show v = .bl true from eq)
    cases (show u = Value.bool true from rv)
    have stay : ∀ b o, b ∉ plc cs → st.heap.get? b = some o → s2.heap.get? b = some o := fun b o nb e => by
      cases c : M b with
      | none => exact un.keep b o e c (fun z => (List.not_mem_nil z).elim) (by simp)
      | some u =>
        rcases only b with z | z | ⟨ob, xs, z⟩
        · rw [z] at c
          cases c
        · exact absurd z nb
        · have old := (hok b _ z).1
          have new := (hok2 b _ (un.frzs b ob _ z)).1
          rw [e] at old
          cases old
          exact new
    have grown : ∀ p ∈ cs, ∃ more : Array Value, s2.heap.get? p.2 = some { cls := .none, data := .fields more } := fun p hp => by
      obtain ⟨more, z⟩ := un.tbls p.2 #[] (beg p hp)
      exact ⟨_, hok2 p.2 _ z⟩
    refine ⟨rfl, ⟨fun b o e => ?_, fun b o e => ?_⟩, os, bare⟩
    · by_cases z : b ∈ plc cs
      · obtain ⟨p, hp, rfl⟩ := List.mem_map.mp z
        obtain ⟨more, em2⟩ := grown p hp
        rw [em.tab p hp] at e
        cases e
        exact .inr (.inl ⟨((em.hd p hp).tab (em.tab p hp)).isCodeTable, rfl, #[], more, rfl, by rw [Array.empty_append]; exact em2⟩)
      · exact .inl (stay b o z e)
    · by_cases z : b ∈ plc cs
      · obtain ⟨p, hp, rfl⟩ := List.mem_map.mp z
        obtain ⟨more, em2⟩ := grown p hp
        exact ⟨_, em2⟩
      · exact ⟨o, stay b o z e⟩
/-- where all starts: the script is locked (or written), the tables are empty -/
theorem law_callT (kin : K.In st.heap) (main : st.heap.Ns mainGlobals mg) (hb : st.heap.Ns builtinsNs mb) (boot : ∀ y : Str, y ≠ "__name__" → mb y = bootBuiltins y) (free : st.heap.NoLimit) (gens : st.gens = #[])
    (bmain : ∃ (bm : Addr) (ob : Obj), mg "__builtins__" = some (.ref bm) ∧ bm ≠ builtinsNs ∧ st.heap.get? bm = some ob ∧ ob.cls = .type "module" ∧ ob.dict = some builtinsNs ∧ ob.data = .plain)
    (em : Empty K st.heap cs) (at' : st.heap.get? a = some { cls := .type "list", data := .seq vs.toArray }) (isI : IntsAre vs ns) (size : ns.length ≤ sizeLine) (room : Room k callerA)
    (F : ∀ base : Heap, K.In base → base.Ns mainGlobals mg → (∀ p ∈ cs, TabB base mg p.1 p.2) → FnG P w K mg base k fa fd [x] sp)
    (bnd : ∀ (s : Shared) (u : Value), BindsTo s fd ⟨[u], []⟩ [(x, u)]) (q : ∀ M : Hp, Begun M cs → SqL K M a (ns.map V.int) → sp [.ref a] M (fun v _ => v = .bl true) E0) :
    codeAny (model P w) callerA (.call (.ref fa) ⟨[.ref a], []⟩) (Well st) st := by
  have rel := vals_ints isI
  have tabAt : ∀ b, b ∈ plc cs → st.heap.get? b = some { cls := .none, data := .fields #[] } := fun b hb => by
    obtain ⟨p, hp, rfl⟩ := List.mem_map.mp hb
    exact em.tab p hp
  have apart : a ∉ plc cs := fun z => by
    have e := tabAt a z
    rw [at'] at e
    have e := congrArg Obj.data (Option.some.inj e)
    cases e
  have mem : ∀ p ∈ cs, p.2 ∈ plc cs := fun p hp => List.mem_map.mpr ⟨p, hp, rfl⟩
  let ob : Obj := { cls := .type "list", data := .seq vs.toArray }
  by_cases c : ∃ o, K.lookup a = some o
  · obtain ⟨o, c⟩ := c
    have e := kin a o c
    rw [at'] at e
    cases e
    let M : Hp := fun b => if b ∈ plc cs then some (.tbl #[]) else none
    have inT : ∀ b, b ∈ plc cs → M b = some (.tbl #[]) := fun b z => if_pos z
    have offT : ∀ b, b ∉ plc cs → M b = none := fun b z => if_neg z
    have beg : Begun M cs := fun p hp => inT _ (mem p hp)
    refine law_runT (M := M) kin main hb boot free gens bmain em at' room F bnd beg (fun b => ?_) (q M beg (.inr ⟨_, vs.toArray, _, c, rfl, rfl, rfl, by rw [List.size_toArray, isI.length]; exact size, by simpa using rel⟩)) (fun b u z => ?_) (fun b z => ?_) fun z => absurd (offT a apart) z
    · by_cases z : b ∈ plc cs
      · exact .inr (.inl z)
      · exact .inl (offT b z)
    · by_cases y : b ∈ plc cs
      · rw [inT b y] at z
        cases z
        exact tabAt b y
      · rw [offT b y] at z
        cases z
    · by_cases y : b ∈ plc cs
      · exact .inr y
      · exact absurd (offT b y) z
  · have noK : K.lookup a = none := by
      cases d : K.lookup a with
      | none => rfl
      | some o => exact absurd ⟨o, d⟩ c
    let M : Hp := fun b => if b = a then some (.frz ob (.lst (ns.map V.int))) else if b ∈ plc cs then some (.tbl #[]) else none
    have Ma : M a = some (.frz ob (.lst (ns.map V.int))) := if_pos rfl
    have inT : ∀ b, b ∈ plc cs → M b = some (.tbl #[]) := fun b z => (if_neg (fun y => apart (by rw [← y]; exact z))).trans (if_pos z)
    have offT : ∀ b, b ≠ a → b ∉ plc cs → M b = none := fun b y z => (if_neg y).trans (if_neg z)
    have beg : Begun M cs := fun p hp => inT _ (mem p hp)
    refine law_runT (M := M) kin main hb boot free gens bmain em at' room F bnd beg (fun b => ?_) (q M beg (.inl (.inr ⟨ob, Ma⟩))) (fun b u z => ?_) (fun b z => ?_) fun _ => noK
    · by_cases y : b = a
      · subst y
        exact .inr (.inr ⟨_, _, Ma⟩)
      · by_cases z : b ∈ plc cs
        · exact .inr (.inl z)
        · exact .inl (offT b y z)
    · by_cases y : b = a
      · subst y
        rw [Ma] at z
        cases z
        exact ⟨at', by rw [List.length_map]; exact size, vs, _, rel, at'⟩
      · by_cases y2 : b ∈ plc cs
        · rw [inT b y2] at z
          cases z
          exact tabAt b y2
        · rw [offT b y y2] at z
          cases z
    · by_cases y : b = a
      · exact .inl y
      · by_cases y2 : b ∈ plc cs
        · exact .inr y2
        · exact absurd (offT b y y2) z
end
theorem walkT {l : PySem.W.OpenLaw} {n k : Nat} {q : Program} {loose : List Str} {XP : (Str → Option Value) → Heap → Prop} {YP : World → Heap → Prop} {d : DefRec} {x : Str}
    (most : l.most = some n) (small : n ≤ sizeLine) (plain : d.params.defaults = []) (room : Room k callerA)
    (F : ∀ (w : World) (mg : Str → Option Value) (fa : Addr) (h : Heap), YP w h → h.Ns mainGlobals mg → mg d.name = some (.ref fa) →
      ∃ (K : PySem.W.Frag) (fd : FuncData) (sp : Sp) (cs : List (Addr × Addr)), K.In h ∧ Empty K h cs ∧ (∀ (s : Shared) (u : Value), BindsTo s fd ⟨[u], []⟩ [(x, u)]) ∧
        (∀ (M : Hp) (a : Addr) (ns : List Int), ns.length ≤ n → (∀ z ∈ ns, Builtin.Int.intBits z ≤ 1048576) → Begun M cs → SqL K M a (ns.map V.int) → sp [.ref a] M (fun v _ => v = .bl true) E0) ∧
        ∀ base : Heap, K.In base → base.Ns mainGlobals mg → (∀ p ∈ cs, TabB base mg p.1 p.2) → FnG l.prog w K mg base k fa fd [x] sp) :
    PySem.W.WalkO q loose XP YP l.row.toRowW d [] (fun f vs => PySem.call f vs) := by
  refine Att.attach_callB most plain ?_
  intro w s0 s1 mg mb fa o pm cd doc a vs ns G Y ho hd hcd hmg at0 isI len bits gens
  obtain ⟨K, fd, sp, cs, kin, em, bnd, ask, go⟩ := F w mg fa _ Y G.T.g hmg
  exact law_callT kin G.T.g G.T.b G.T.builtins G.T.nolimit gens G.T.bmain em at0 isI (Nat.le_trans len small) room go bnd fun M h1 h2 => ask M a ns len bits h1 h2
end Fa

/-! ways and parts in a heap -/
namespace Fa
open PySem PySem.Spec PyProof.Rows L2
def WayAt (H : Hp) (x : V) (q : Way) : Prop := ∃ t, x = .ref t ∧ H t = some (.tup [laV q.1, .int q.2])
def WaysAt (H : Hp) (l : Addr) (L : List Way) : Prop := ∃ xs : List V, H l = some (.lst xs) ∧ Paired (WayAt H) xs L
def PartAt (H : Hp) (x : V) (q : Part) : Prop := ∃ t b, x = .ref t ∧ H t = some (.tup [.ref b, laV q.2.1, .int q.2.2]) ∧ H b = some (.tup (q.1.map V.int))
def PartsAt (H : Hp) (l : Addr) (L : List Part) : Prop := ∃ xs : List V, H l = some (.lst xs) ∧ Paired (PartAt H) xs L
/-- tuples stand -/
def Tup' (H H' : Hp) : Prop := ∀ b us, H b = some (.tup us) → H' b = some (.tup us)
theorem Tup'.refl (H : Hp) : Tup' H H := fun _ _ h => h
theorem Tup'.trans {H H1 H2 : Hp} (a : Tup' H H1) (b : Tup' H1 H2) : Tup' H H2 := fun c us h => b c us (a c us h)
theorem tup_same {H H' : Hp} (s : Same H H') : Tup' H H' := fun _ _ h => s _ _ h
theorem tup_lst {H : Hp} {l : Addr} {xs ys : List V} (h : H l = some (.lst xs)) : Tup' H (upd H l (.lst ys)) := fun b us e => by
  rw [upd_ne (ne_of e h (fun z => by cases z))]
  exact e
theorem tup_new {H : Hp} {l : Addr} {o : HO} (h : H l = none) : Tup' H (upd H l o) := fun b us e => by
  rw [upd_ne (ne_of_none e h)]
  exact e
theorem WayAt.keep {H H' : Hp} {x : V} {p : Way} (h : WayAt H x p) (k : Tup' H H') : WayAt H' x p := by
  obtain ⟨t, e, h1⟩ := h
  exact ⟨t, e, k _ _ h1⟩
theorem PartAt.keep {H H' : Hp} {x : V} {p : Part} (h : PartAt H x p) (k : Tup' H H') : PartAt H' x p := by
  obtain ⟨t, b, e, h1, h2⟩ := h
  exact ⟨t, b, e, k _ _ h1, k _ _ h2⟩
theorem fms_keep {H H' : Hp} {xs : List V} {F : Fm} (h : Paired (FmAt H) xs F) (k : Tup' H H') : Paired (FmAt H') xs F := Paired.mapP h fun _ _ z => z.keep k
theorem ways_keep {H H' : Hp} {xs : List V} {F : List Way} (h : Paired (WayAt H) xs F) (k : Tup' H H') : Paired (WayAt H') xs F := Paired.mapP h fun _ _ z => z.keep k
theorem parts_keep {H H' : Hp} {xs : List V} {F : List Part} (h : Paired (PartAt H) xs F) (k : Tup' H H') : Paired (PartAt H') xs F := Paired.mapP h fun _ _ z => z.keep k
theorem tris_keep {H H' : Hp} {xs : List V} {F : List Tri} (h : Paired (TriAt H) xs F) (k : Tup' H H') : Paired (TriAt H') xs F := Paired.mapP h fun _ _ z => z.keep k
/-- all but two new lists stand -/
def Kp2 (H0 H : Hp) (p q : Addr) (H' : Hp) : Prop := Same H0 H' ∧ ∀ b o, b ≠ p → b ≠ q → H b = some o → H' b = some o
theorem serve_nil (st : Fm) {l : Int} (h : l ≤ 0) : serve st l = ([], st) := by
  cases st with
  | nil => rfl
  | cons p st =>
    obtain ⟨a, b⟩ := p
    unfold serve
    rw [if_pos h]
theorem serve_part {p : List Int} {m l : Int} {st : Fm} (h0 : 0 < l) (h : l < m) : serve ((p, m) :: st) l = ([(p, l)], (p, m - l) :: st) := by
  show (if l ≤ 0 then _ else if l < m then _ else _) = _
  rw [if_neg (by omega), if_pos h]
theorem serve_whole {p : List Int} {m l : Int} {st : Fm} (h0 : 0 < l) (h : ¬ l < m) : serve ((p, m) :: st) l = ((p, m) :: (serve st (l - m)).1, (serve st (l - m)).2) := by
  show (if l ≤ 0 then _ else if l < m then _ else _) = _
  rw [if_neg (by omega), if_neg h]
theorem rev_last {xs : List V} {H : Hp} {p : List Int × Int} {st : Fm} (h : Paired (FmAt H) xs (p :: st).reverse) : ∃ ys y, xs = ys ++ [y] ∧ Paired (FmAt H) ys st.reverse ∧ FmAt H y p := by
  rw [List.reverse_cons] at h
  have l := h.length
  rw [List.length_append] at l
  have ne : xs ≠ [] := fun z => by
    rw [z] at l
    simp at l
  refine ⟨xs.dropLast, xs.getLast ne, (List.dropLast_concat_getLast ne).symm, ?_⟩
  rw [← List.dropLast_concat_getLast ne] at h
  generalize xs.dropLast = ys at h ⊢
  generalize xs.getLast ne = y at h ⊢
  clear l ne
  generalize st.reverse = zs at h ⊢
  induction ys generalizing zs with
  | nil =>
    cases zs with
    | nil =>
      cases h with
      | cons a b => exact ⟨.nil, a⟩
    | cons z zs =>
      cases h with
      | cons a b =>
        have := b.length
        simp at this
  | cons x ys ih =>
    cases zs with
    | nil =>
      cases h with
      | cons a b =>
        have := b.length
        simp at this
    | cons z zs =>
      cases h with
      | cons a b =>
        obtain ⟨h1, h2⟩ := ih zs b
        exact ⟨.cons a h1, h2⟩
end Fa

/-! a list of lists of groups -/
namespace Fa
open PySem PySem.Spec PyProof.Rows L2
structure ArrAt (H : Hp) (a : Addr) (rows : List Addr) (n : Nat) (arr : Nat → Fm) : Prop where
  top : H a = some (.lst (rows.map V.ref))
  cnt : rows.length = n
  nd : rows.Nodup
  out : a ∉ rows
  row : ∀ x r, rows[x]? = some r → ∃ us, H r = some (.lst us) ∧ Paired (FmAt H) us (arr x)
section
variable {H H' : Hp} {a : Addr} {rows : List Addr} {n : Nat} {arr : Nat → Fm}
theorem ArrAt.keep (h : ArrAt H a rows n arr) (kl : ∀ b us, (b = a ∨ b ∈ rows) → H b = some (.lst us) → H' b = some (.lst us)) (kt : Tup' H H') : ArrAt H' a rows n arr :=
  ⟨kl _ _ (.inl rfl) h.top, h.cnt, h.nd, h.out, fun x r e => by
    obtain ⟨us, eu, hP⟩ := h.row x r e
    exact ⟨us, kl _ _ (.inr (List.mem_of_getElem? e)) eu, fms_keep hP kt⟩⟩
theorem ArrAt.same (h : ArrAt H a rows n arr) (s : Same H H') : ArrAt H' a rows n arr := h.keep (fun b us _ e => s _ _ e) (tup_same s)
theorem ArrAt.ext {arr' : Nat → Fm} (h : ArrAt H a rows n arr) (e : ∀ x, x < n → arr x = arr' x) : ArrAt H a rows n arr' :=
  ⟨h.top, h.cnt, h.nd, h.out, fun x r er => by
    obtain ⟨us, eu, hP⟩ := h.row x r er
    have : x < n := by rw [← h.cnt]; exact (List.getElem?_eq_some_iff.mp er).1
    rw [e x this] at hP
    exact ⟨us, eu, hP⟩⟩
theorem ArrAt.get (h : ArrAt H a rows n arr) {x : Nat} (hx : x < n) : ∃ r us, rows[x]? = some r ∧ r ∈ rows ∧ H r = some (.lst us) ∧ Paired (FmAt H) us (arr x) := by
  have lt : x < rows.length := by rw [h.cnt]; exact hx
  have e : rows[x]? = some rows[x] := List.getElem?_eq_getElem lt
  obtain ⟨us, eu, hP⟩ := h.row x _ e
  exact ⟨_, us, e, List.mem_of_getElem? e, eu, hP⟩
/-- one more at the end of one list -/
theorem ArrAt.push (h : ArrAt H a rows n arr) {x : Nat} {r T b : Addr} {us : List V} {p : List Int × Int} (er : rows[x]? = some r) (eu : H r = some (.lst us)) (hT : H T = some (.tup [.ref b, .int p.2])) (hb : H b = some (.tup (p.1.map V.int))) :
    ArrAt (upd H r (.lst (us ++ [.ref T]))) a rows n (fun y => arr y ++ if y = x then [p] else []) := by
  have kt : Tup' H (upd H r (.lst (us ++ [.ref T]))) := tup_lst eu
  have ar : a ≠ r := fun z => h.out (by rw [z]; exact List.mem_of_getElem? er)
  refine ⟨by rw [upd_ne ar]; exact h.top, h.cnt, h.nd, h.out, fun y r' e => ?_⟩
  obtain ⟨vs, ev, hP⟩ := h.row y r' e
  by_cases z : r' = r
  · subst z
    have exy : y = x := by
      obtain ⟨i1, e1⟩ := List.getElem?_eq_some_iff.mp e
      obtain ⟨i2, e2⟩ := List.getElem?_eq_some_iff.mp er
      exact (List.getElem_inj h.nd).mp (e1.trans e2.symm)
    rw [eu] at ev
    cases ev
    rw [if_pos exy]
    exact ⟨_, upd_same, paired_snoc (fms_keep hP kt) ⟨T, b, rfl, kt _ _ hT, kt _ _ hb⟩⟩
  · have nxy : y ≠ x := fun w => z (by
      rw [w, er] at e
      exact (Option.some.inj e).symm)
    rw [if_neg nxy, List.append_nil]
    exact ⟨vs, by rw [upd_ne z]; exact ev, fms_keep hP kt⟩
theorem arr_of_grid (h : GridAt H a rows n fun _ => []) : ArrAt H a rows n fun _ => [] :=
  ⟨h.top, h.cnt, h.nd, h.out, fun x r e => ⟨[], h.row x r e, .nil⟩⟩
end
theorem paired_append {α β : Type} {F : α → β → Prop} : ∀ {l : List α} {m : List β} {l' : List α} {m' : List β}, Paired F l m → Paired F l' m' → Paired F (l ++ l') (m ++ m')
  | _, _, _, _, .nil, h => h
  | _, _, _, _, .cons a b, h => .cons a (paired_append b h)
theorem sa_term {g : Nat → Int} : ∀ {m x : Nat}, (∀ i, i < m → 0 ≤ g i) → x < m → g x ≤ sa g m
  | m + 1, x, h, hx => by
    have h0 := sa_nonneg (g := g) (n := m) fun i hi => h i (by omega)
    have hm := h m (by omega)
    show g x ≤ sa g m + g m
    by_cases z : x = m
    · subst z
      omega
    · have := sa_term (g := g) (m := m) (x := x) (fun i hi => h i (by omega)) (by omega)
      omega
theorem catA_new {K : PySem.W.Frag} {H : Hp} {a b : Addr} {xs ys : List V} {Q : VK} (ha : H a = some (.tup xs)) (hb : H b = some (.tup ys)) (ny : ys ≠ []) (l : xs.length + ys.length ≤ sizeLine) (q : ∀ H' t, Same H H' → H' t = some (.tup (xs ++ ys)) → Q (.ref t) H') : rCatA K (.ref a) (.ref b) H Q := by
  refine ⟨a, b, xs, ys, rfl, rfl, .inl (.inl ha), .inl (.inl hb), l, fun e => ?_, fun _ e => absurd e ny, fun _ _ p np => q _ p (same_new np) upd_same⟩
  subst e
  exact q H b (Same.refl H) hb
theorem stA_take {D : List Part} {i j : Nat} {q : Part} (s : Option Int) (h : D[j]? = some q) : stA (D.take (j + 1)) i s = stA (D.take j) i s ++ if q.2.1 = s then [(q.1 ++ [(i : Int)], q.2.2)] else [] := by
  unfold stA
  rw [List.take_add_one, h, List.filter_append, List.map_append]
  congr 1
  show (List.filter _ [q]).map _ = _
  rw [List.filter_cons, List.filter_nil]
  by_cases z : q.2.1 = s
  · rw [if_pos z, if_pos (decide_eq_true z)]
    rfl
  · rw [if_neg z, if_neg (by rw [decide_eq_false z]; exact Bool.false_ne_true)]
    rfl
theorem Off.same' {l : List Addr} {H H' : Hp} (o : Off l H H') {b : Addr} {u : HO} (nb : b ∉ l) (e : H b = some u) : H' b = some u := o b u nb e
theorem off_lst {l : List Addr} {H0 H : Hp} {p : Addr} {o : HO} (a : Off l H0 H) (h : p ∈ l) : Off l H0 (upd H p o) := a.mut h
theorem off_new' {l : List Addr} {H0 H : Hp} {p : Addr} {o : HO} (a : Off l H0 H) (h : H p = none) : Off l H0 (upd H p o) := fun b u n e => same_new h _ _ (a b u n e)
end Fa

/-! lists of lists of ways; groups in an order -/
namespace Fa
open PySem PySem.Spec PyProof.Rows L2
/-- a list of the ways of each day below n; the lists of ways stand apart from it -/
def WWAt (H : Hp) (l : Addr) (n : Nat) (W : Nat → List Way) : Prop := ∃ rows : List Addr, H l = some (.lst (rows.map V.ref)) ∧ rows.length = n ∧ ∀ i r, rows[i]? = some r → r ≠ l ∧ WaysAt H r (W i)
theorem WaysAt.keep {H H' : Hp} {l : Addr} {L : List Way} (h : WaysAt H l L) (e : ∀ xs, H l = some (.lst xs) → H' l = some (.lst xs)) (k : Tup' H H') : WaysAt H' l L := by
  obtain ⟨xs, e1, p⟩ := h
  exact ⟨xs, e xs e1, ways_keep p k⟩
theorem WaysAt.same {H H' : Hp} {l : Addr} {L : List Way} (h : WaysAt H l L) (s : Same H H') : WaysAt H' l L := h.keep (fun _ e => s _ _ e) (tup_same s)
theorem WWAt.same {H H' : Hp} {l : Addr} {n : Nat} {W : Nat → List Way} (h : WWAt H l n W) (s : Same H H') : WWAt H' l n W := by
  obtain ⟨rows, e, c, r⟩ := h
  exact ⟨rows, s _ _ e, c, fun i x ex => ⟨(r i x ex).1, (r i x ex).2.same s⟩⟩
theorem WWAt.ext {H : Hp} {l : Addr} {n : Nat} {W W' : Nat → List Way} (h : WWAt H l n W) (e : ∀ i, i < n → W i = W' i) : WWAt H l n W' := by
  obtain ⟨rows, e1, c, r⟩ := h
  refine ⟨rows, e1, c, fun i x ex => ?_⟩
  have : i < n := by
    have := (List.getElem?_eq_some_iff.mp ex).1
    omega
  rw [← e i this]
  exact r i x ex
/-- groups by whether they go first: those that do stand last -/
def byG (g : List Int → Bool) (i : Nat) (G : Fm) : Fm := (G.filter fun p => !g (p.1 ++ [(i : Int)])) ++ G.filter fun p => g (p.1 ++ [(i : Int)])
theorem byG_perm (g : List Int → Bool) (i : Nat) (G : Fm) : (byG g i G).Perm G := by
  show (List.filter (fun p => !(fun p : List Int × Int => g (p.1 ++ [(i : Int)])) p) G ++ List.filter (fun p : List Int × Int => g (p.1 ++ [(i : Int)])) G).Perm G
  generalize (fun p : List Int × Int => g (p.1 ++ [(i : Int)])) = h
  induction G with
  | nil => exact List.Perm.refl _
  | cons p G ih =>
    by_cases z : h p = true
    · have z2 : (!h p) = false := by rw [z]; rfl
      rw [List.filter_cons, List.filter_cons, if_pos z, if_neg (by rw [z2]; exact Bool.false_ne_true)]
      exact List.perm_middle.trans (ih.cons p)
    · have z2 : (!h p) = true := by rw [Bool.eq_false_iff.mpr z]; rfl
      rw [List.filter_cons, List.filter_cons, if_neg z, if_pos z2]
      exact ih.cons p
theorem byG_none (i : Nat) (G : Fm) : byG (fun _ => false) i G = G := by
  have e1 : G.filter (fun p : List Int × Int => !(fun _ : List Int => false) (p.1 ++ [(i : Int)])) = G := List.filter_eq_self.mpr fun _ _ => rfl
  have e2 : G.filter (fun p : List Int × Int => (fun _ : List Int => false) (p.1 ++ [(i : Int)])) = [] := List.filter_eq_nil_iff.mpr fun _ _ => Bool.false_ne_true
  unfold byG
  rw [e1, e2, List.append_nil]
/-- a day is put at the end of each group -/
def ex (i : Nat) (p : List Int × Int) : List Int × Int := (p.1 ++ [(i : Int)], p.2)
def exP (i : Nat) (q : Part) : Part := (q.1 ++ [(i : Int)], q.2)
theorem serve_ex (i : Nat) : ∀ (st : Fm) (l : Int), serve (st.map (ex i)) l = (((serve st l).1).map (ex i), ((serve st l).2).map (ex i))
  | [], l => rfl
  | (p, m) :: st, l => by
    show serve ((p ++ [(i : Int)], m) :: st.map (ex i)) l = _
    by_cases h0 : 0 < l
    · by_cases h : l < m
      · rw [serve_part h0 h, serve_part h0 h]
        rfl
      · rw [serve_whole h0 h, serve_whole h0 h, serve_ex i st]
        rfl
    · rw [serve_nil _ (by omega), serve_nil _ (by omega)]
      rfl
theorem deal_ex (i : Nat) : ∀ (ws : List Way) (st : Fm), deal (st.map (ex i)) ws = (deal st ws).map (exP i)
  | [], st => rfl
  | (s, l) :: ws, st => by
    unfold deal
    rw [serve_ex, List.map_append, deal_ex i ws, List.map_map, List.map_map]
    rfl
theorem filter_ex (i : Nat) (G : Fm) : (G.map (ex i)).filter (fun p : List Int × Int => decide (p.2 > 0)) = (G.filter fun p : List Int × Int => decide (p.2 > 0)).map (ex i) := by
  rw [List.filter_map]
  rfl
/-! ### across the making of a lambda: all but tables stay -/
open LamX in
/-- nothing but a table stands at a -/
def Nt (H : Hp) (a : Addr) : Prop := ∀ o, H a = some o → ∃ ps, o = .tbl ps
theorem nt_of {H H' : Hp} {a : Addr} (x : LamX.ExtN H H') (n : H' a = none) : Nt H a := fun o e => by
  by_cases c : ∃ ps, o = .tbl ps
  · exact c
  · have := x _ _ e fun ps y => c ⟨ps, y⟩
    rw [n] at this
    cases this
theorem Nt.ne {H : Hp} {a b : Addr} {o : HO} (n : Nt H a) (e : H b = some o) (h : ∀ ps, o ≠ .tbl ps) : a ≠ b := fun z => by
  subst z
  obtain ⟨ps, y⟩ := n o e
  exact h ps y
section
variable {H H' : Hp}
theorem xl (x : LamX.ExtN H H') {b : Addr} {xs : List V} (e : H b = some (.lst xs)) : H' b = some (.lst xs) := x _ _ e fun _ z => by cases z
theorem xt (x : LamX.ExtN H H') {b : Addr} {xs : List V} (e : H b = some (.tup xs)) : H' b = some (.tup xs) := x _ _ e fun _ z => by cases z
theorem tup_x (x : LamX.ExtN H H') : Tup' H H' := fun _ _ e => xt x e
theorem GridAt.extN {g : Addr} {rows : List Addr} {n : Nat} {f : Nat → List Int} (h : GridAt H g rows n f) (x : LamX.ExtN H H') : GridAt H' g rows n f := h.keep fun _ _ e => xl x e
theorem ShAt.extN {g : Addr} {n w : Nat} {f : Nat → List Int} (h : ShAt H g n w f) (x : LamX.ExtN H H') : ShAt H' g n w f := by
  obtain ⟨⟨rows, G⟩, z⟩ := h
  exact ⟨⟨rows, G.extN x⟩, z⟩
theorem FamAt.extN {a : Addr} {fam : Fm} (h : FamAt H a fam) (x : LamX.ExtN H H') : FamAt H' a fam := h.keep (fun _ e => xl x e) fun _ _ e => xt x e
theorem TrisAt.extN {l : Addr} {L : List Tri} (h : TrisAt H l L) (x : LamX.ExtN H H') : TrisAt H' l L := by
  obtain ⟨xs, e, p⟩ := h
  exact ⟨xs, xl x e, tris_keep p (tup_x x)⟩
theorem WaysAt.extN {l : Addr} {L : List Way} (h : WaysAt H l L) (x : LamX.ExtN H H') : WaysAt H' l L := h.keep (fun _ e => xl x e) (tup_x x)
theorem WWAt.extN {l : Addr} {n : Nat} {W : Nat → List Way} (h : WWAt H l n W) (x : LamX.ExtN H H') : WWAt H' l n W := by
  obtain ⟨rows, e, c, r⟩ := h
  exact ⟨rows, xl x e, c, fun i y ey => ⟨(r i y ey).1, (r i y ey).2.extN x⟩⟩
theorem SqL.extN {K : PySem.W.Frag} {a : Addr} {xs : List V} (h : SqL K H a xs) (x : LamX.ExtN H H') : SqL K H' a xs := by
  rcases h with (h | ⟨o, h⟩) | h
  · exact .inl (.inl (xl x h))
  · exact .inl (.inr ⟨o, x _ _ h fun _ z => by cases z⟩)
  · exact .inr h
theorem SqT.extN {K : PySem.W.Frag} {a : Addr} {xs : List V} (h : SqT K H a xs) (x : LamX.ExtN H H') : SqT K H' a xs := by
  rcases h with (h | ⟨o, h⟩) | h
  · exact .inl (.inl (xt x h))
  · exact .inl (.inr ⟨o, x _ _ h fun _ z => by cases z⟩)
  · exact .inr h
theorem xs (s : Same H H') : LamX.ExtN H H' := LamX.ExtN.of s
end
end Fa

namespace K21
open PySem PySem.Spec PyProof.Rows L2 Fa
/-- visits of a day -/
def r0 (f : Nat → List Int) (i : Nat) : Int := uu f (i : Int) (i : Int)
/-- the ways of a day by links -/
def wv (f : Nat → List Int) (L : List Tri) (i : Nat) : List Way := ways L i ++ [((none : Option Int), goneN (r0 f) L i)]
/-- a family that is routed by a sheet's gaps and joins, the groups of a day and its ways in some order -/
def Routed (f : Nat → List Int) (n w : Nat) (J : List Tri) (fam : Fm) : Prop := ∃ o v, Ord n (r0 f) (gAll f n w n ++ J) o v ∧ fam.Perm (route (r0 f) (gAll f n w n ++ J) o v n).2
theorem ord_wv (f : Nat → List Int) (n : Nat) (L : List Tri) (g : List Int → Bool) : Ord n (r0 f) L (byG g) (wv f L) := ⟨byG_perm g, fun _ _ => List.Perm.refl _⟩
theorem routed_is (f : Nat → List Int) (n w : Nat) (J : List Tri) : ∃ fam, Routed f n w J fam := ⟨_, _, _, ord_wv f n _ fun _ => false, List.Perm.refl _⟩
end K21

namespace K21
open PySem PySem.Spec PyProof.Rows L2 Fa
abbrev s_numbers_in : Stmt := topS 36
abbrev N_numbers_in : List Str := ["sheet", "numbers", "day", "first", "second"]
theorem sc_numbers_in : FnScope N_numbers_in ["sheet"] (defScope s_numbers_in) := ⟨rfl, rfl, rfl, by decide +kernel, rfl, by decide +kernel, by decide +kernel⟩
abbrev s_conflicts_in : Stmt := topS 38
abbrev N_conflicts_in : List Str := ["sheet", "numbers", "found", "word", "first", "second", "number"]
theorem sc_conflicts_in : FnScope N_conflicts_in ["sheet"] (defScope s_conflicts_in) := ⟨rfl, rfl, rfl, by decide +kernel, rfl, by decide +kernel, by decide +kernel⟩
abbrev s_check_possible : Stmt := topS 37
abbrev N_check_possible : List Str := ["sheet", "conflicts", "word", "first", "second"]
theorem sc_check_possible : FnScope N_check_possible ["sheet"] (defScope s_check_possible) := ⟨rfl, rfl, rfl, by decide +kernel, rfl, by decide +kernel, by decide +kernel⟩

/-- no number below 0 -/
structure NN (f : Nat → List Int) (n w : Nat) : Prop where
  g0 : ∀ a b : Int, 0 ≤ a → a < b → b < n → b - a < w → 0 ≤ gp f a b
  a0 : ∀ a : Int, 0 ≤ a → a < n → 0 ≤ aw f n w a
  f0 : ∀ b : Int, 0 ≤ b → b < n → 0 ≤ fr f w b
theorem gAll_mem {f : Nat → List Int} {n w i : Nat} {p : Tri} (h : p ∈ gAll f n w i) (hi : i ≤ n) : 0 ≤ p.1 ∧ p.1 < p.2.1 ∧ p.2.1 < n ∧ p.2.1 - p.1 < w ∧ p.2.2 = gp f p.1 p.2.1 := by
  obtain ⟨a, ha, h2⟩ := List.mem_flatMap.mp h
  have ha := List.mem_range.mp ha
  obtain ⟨j, hj, rfl⟩ := List.mem_map.mp (List.mem_filter.mp h2).1
  have hj := List.mem_range.mp hj
  refine ⟨?_, ?_, ?_, ?_, rfl⟩
  · show (0 : Int) ≤ (a : Int)
    omega
  · show (a : Int) < (a : Int) + 1 + (j : Int)
    omega
  · show (a : Int) + 1 + (j : Int) < n
    omega
  · show (a : Int) + 1 + (j : Int) - (a : Int) < w
    omega
/-- the numbers of a family's sheet -/
theorem uu_unl {fam : Fm} {n w : Nat} {a b : Int} (t : Told n w a b) : uu (fun s => shRow fam s w) a b = unl fam a b := by
  unfold uu
  by_cases ab : a ≤ b
  · obtain ⟨t1, t2, t3⟩ := t ab
    rw [if_pos ab, List.getD_eq_getElem?_getD, shRow_at (fam := fam) (d := b.toNat) (w := w) (k := (b - a).toNat) (by omega)]
    show unl fam _ _ = _
    rw [show ((b.toNat : Int) - ((b - a).toNat : Int)) = a by omega, show (b.toNat : Int) = b by omega]
  · rw [if_neg ab, unl_none fam (by omega)]
theorem nn_fam {fam : Fm} {n w : Nat} (h : ∀ p ∈ fam, 0 ≤ p.2) (w1 : 1 ≤ w) : NN (fun s => shRow fam s w) n w := by
  refine ⟨fun a b a0 ab bn bw => ?_, fun a a0 an => ?_, fun b b0 bn => ?_⟩
  · unfold gp
    rw [uu_unl (n := n) fun _ => ⟨by omega, by omega, by omega⟩, uu_unl (n := n) fun _ => ⟨by omega, by omega, by omega⟩, uu_unl (n := n) fun _ => ⟨by omega, by omega, by omega⟩, uu_unl (n := n) fun _ => ⟨by omega, by omega, by omega⟩]
    exact unl_gap h ab
  · unfold aw
    have e1 : eA n w a < n ∧ eA n w a - a < w := by
      unfold eA
      split <;> omega
    rw [uu_unl (n := n) fun _ => ⟨by omega, by omega, by omega⟩, uu_unl (n := n) fun _ => ⟨by omega, by omega, by omega⟩]
    have := unl_mono h (b := a + 1) (b' := a) (e := eA n w a) (e' := eA n w a) (by omega) (by omega)
    omega
  · unfold fr
    have e1 : 0 ≤ sF w b ∧ b - sF w b < w := by
      unfold sF
      split <;> omega
    rw [uu_unl (n := n) fun _ => ⟨by omega, by omega, by omega⟩, uu_unl (n := n) fun _ => ⟨by omega, by omega, by omega⟩]
    have := unl_mono h (b := sF w b) (b' := sF w b) (e := b - 1) (e' := b) (by omega) (by omega)
    omega
/-- all numbers of R1 and R2, by their tuples -/
abbrev kB (x : Str) (a b : Int) : List Key := [.inr x, .inl a, .inl b]
def ngaps (f : Nat → List Int) (n w : Nat) : List (List Key × V) := (prAll n w n).map fun p => (kB "gap" p.1 p.2, .int (gp f p.1 p.2))
def ndays (f : Nat → List Int) (n w m : Nat) : List (List Key × V) := (List.range m).flatMap fun d : Nat => [(kB "away" d (eA n w d), .int (aw f n w d)), (kB "fresh" (sF w d) d, .int (fr f w d))]
def numK (f : Nat → List Int) (n w : Nat) : List (List Key × V) := ngaps f n w ++ ndays f n w n
theorem ndays_succ (f : Nat → List Int) (n w m : Nat) : ndays f n w (m + 1) = ndays f n w m ++ [(kB "away" m (eA n w m), .int (aw f n w m)), (kB "fresh" (sF w m) m, .int (fr f w m))] := by
  unfold ndays
  rw [List.range_succ, List.flatMap_append]
  simp
theorem ndays_len (f : Nat → List Int) (n w : Nat) : ∀ m, (ndays f n w m).length = 2 * m
  | 0 => rfl
  | m + 1 => by
    rw [ndays_succ, List.length_append, ndays_len f n w m]
    show 2 * m + 2 = _
    omega
theorem kB_inj {x y : Str} {a b c d : Int} (h : kB x a b = kB y c d) : x = y ∧ a = c ∧ b = d := by
  have h1 := List.cons.inj h
  have h2 := List.cons.inj h1.2
  exact ⟨Sum.inr.inj h1.1, Sum.inl.inj h2.1, Sum.inl.inj (List.cons.inj h2.2).1⟩
theorem nodup_map_inj {α β : Type} {g : α → β} {l : List α} (h : ∀ x ∈ l, ∀ y ∈ l, g x = g y → x = y) (nd : l.Nodup) : (l.map g).Nodup := by
  refine List.pairwise_map.mpr (nd.imp_of_mem fun {a b} ha hb ne e => ne (h a ha b hb e))
theorem prRow_nd (a m : Nat) : (prRow a m).Nodup := by
  unfold prRow
  refine nodup_map_inj (fun i _ j _ e => ?_) List.nodup_range
  have := (Prod.ext_iff.mp e).2
  have : (a : Int) + 1 + (i : Int) = (a : Int) + 1 + (j : Int) := this
  omega
theorem prAll_nd (n w : Nat) : ∀ i, (prAll n w i).Nodup
  | 0 => List.nodup_nil
  | i + 1 => by
    rw [prAll_succ, List.nodup_append]
    refine ⟨prAll_nd n w i, prRow_nd _ _, fun p hp q hq e => ?_⟩
    subst e
    obtain ⟨a, ha, h2⟩ := List.mem_flatMap.mp hp
    have ha := List.mem_range.mp ha
    obtain ⟨j, _, rfl⟩ := List.mem_map.mp h2
    obtain ⟨j', _, e⟩ := List.mem_map.mp hq
    have : (i : Int) = (a : Int) := (Prod.ext_iff.mp e).1
    omega
theorem ngaps_nd (f : Nat → List Int) (n w : Nat) : ((ngaps f n w).map (·.1)).Nodup := by
  unfold ngaps
  rw [List.map_map]
  refine nodup_map_inj (fun p _ q _ e => ?_) (prAll_nd n w n)
  obtain ⟨_, e1, e2⟩ := kB_inj e
  exact Prod.ext e1 e2
theorem ndays_key {f : Nat → List Int} {n w m : Nat} {k : List Key} (h : k ∈ (ndays f n w m).map (·.1)) : ∃ d : Nat, d < m ∧ (k = kB "away" d (eA n w d) ∨ k = kB "fresh" (sF w d) d) := by
  obtain ⟨p, hp, rfl⟩ := List.mem_map.mp h
  obtain ⟨d, hd, h2⟩ := List.mem_flatMap.mp hp
  refine ⟨d, List.mem_range.mp hd, ?_⟩
  simp only [List.mem_cons, List.not_mem_nil, or_false] at h2
  rcases h2 with rfl | rfl
  · exact .inl rfl
  · exact .inr rfl
theorem ndays_nd (f : Nat → List Int) (n w : Nat) : ∀ m, ((ndays f n w m).map (·.1)).Nodup
  | 0 => List.nodup_nil
  | m + 1 => by
    rw [ndays_succ, List.map_append, List.nodup_append]
    refine ⟨ndays_nd f n w m, ?_, fun k hk k' hk' e => ?_⟩
    · refine List.pairwise_cons.mpr ⟨fun k hk e => ?_, List.pairwise_singleton _ _⟩
      rw [List.mem_singleton.mp hk] at e
      exact absurd (kB_inj e).1 (by decide)
    · subst e
      obtain ⟨d, hd, hk⟩ := ndays_key hk
      have hk' : k ∈ [kB "away" m (eA n w m), kB "fresh" (sF w m) m] := hk'
      simp only [List.mem_cons, List.not_mem_nil, or_false] at hk'
      rcases hk with rfl | rfl <;> rcases hk' with e | e
      · have := (kB_inj e).2.1
        omega
      · exact absurd (kB_inj e).1 (by decide)
      · exact absurd (kB_inj e).1 (by decide)
      · have := (kB_inj e).2.2
        omega
theorem numK_nd (f : Nat → List Int) (n w : Nat) : ((numK f n w).map (·.1)).Nodup := by
  unfold numK
  rw [List.map_append, List.nodup_append]
  refine ⟨ngaps_nd f n w, ndays_nd f n w n, fun k hk k' hk' e => ?_⟩
  subst e
  obtain ⟨p, hp, rfl⟩ := List.mem_map.mp hk
  obtain ⟨q, _, rfl⟩ := List.mem_map.mp hp
  obtain ⟨d, _, h⟩ := ndays_key hk'
  rcases h with e | e <;> exact absurd (kB_inj e).1 (by decide)
theorem numK_len {f : Nat → List Int} {n w : Nat} (hn : n ≤ 30) : (numK f n w).length ≤ 960 := by
  unfold numK ngaps
  rw [List.length_append, List.length_map, ndays_len]
  have := prAll_len (w := w) hn n
  have : 30 * n ≤ 900 := by omega
  omega
theorem ndays_split (f : Nat → List Int) {n w i : Nat} : ∀ {m : Nat}, i ≤ m → ∃ r, ndays f n w m = ndays f n w i ++ r
  | 0, h => by
    have : i = 0 := by omega
    subst this
    exact ⟨[], (List.append_nil _).symm⟩
  | m + 1, h => by
    by_cases e : i = m + 1
    · subst e
      exact ⟨[], (List.append_nil _).symm⟩
    · obtain ⟨r, hr⟩ := ndays_split f (n := n) (w := w) (i := i) (m := m) (by omega)
      rw [ndays_succ, hr, List.append_assoc]
      exact ⟨_, rfl⟩
theorem numK_take (f : Nat → List Int) {n w i : Nat} (h : i ≤ n) : (numK f n w).take (ngaps f n w ++ ndays f n w i).length = ngaps f n w ++ ndays f n w i := by
  obtain ⟨r, hr⟩ := ndays_split f (n := n) (w := w) h
  unfold numK
  rw [hr, ← List.append_assoc, List.take_left]
theorem numK_at1 (f : Nat → List Int) {n w i : Nat} (h : i < n) : (numK f n w)[(ngaps f n w ++ ndays f n w i).length]? = some (kB "away" i (eA n w i), .int (aw f n w i)) := by
  obtain ⟨r, hr⟩ := ndays_split f (n := n) (w := w) (Nat.succ_le_of_lt h)
  unfold numK
  rw [hr, ndays_succ, List.append_assoc, ← List.append_assoc, List.getElem?_append_right (Nat.le_refl _), Nat.sub_self]
  rfl
theorem numK_at2 (f : Nat → List Int) {n w i : Nat} (h : i < n) : (numK f n w)[(ngaps f n w ++ ndays f n w i).length + 1]? = some (kB "fresh" (sF w i) i, .int (fr f w i)) := by
  obtain ⟨r, hr⟩ := ndays_split f (n := n) (w := w) (Nat.succ_le_of_lt h)
  unfold numK
  rw [hr, ndays_succ, List.append_assoc, ← List.append_assoc, List.getElem?_append_right (Nat.le_succ _), show (ngaps f n w ++ ndays f n w i).length + 1 - (ngaps f n w ++ ndays f n w i).length = 1 by omega]
  rfl
/-- what stands in the dict of numbers -/
def Numb (f : Nat → List Int) (n w : Nat) (x : Str) (a b z : Int) : Prop :=
  (x = "gap" ∧ 0 ≤ a ∧ a < b ∧ b < n ∧ b - a < w ∧ z = gp f a b) ∨ (x = "away" ∧ 0 ≤ a ∧ a < n ∧ b = eA n w a ∧ z = aw f n w a) ∨ (x = "fresh" ∧ 0 ≤ b ∧ b < n ∧ a = sF w b ∧ z = fr f w b)
theorem numK_mem {f : Nat → List Int} {n w : Nat} {k : List Key} {v : V} (h : (k, v) ∈ numK f n w) : ∃ x a b z, k = kB x a b ∧ v = .int z ∧ Numb f n w x a b z := by
  rcases List.mem_append.mp h with h | h
  · obtain ⟨p, hp, e⟩ := List.mem_map.mp h
    obtain ⟨h1, h2, h3, h4, _⟩ := prAll_mem hp (Nat.le_refl _)
    cases e
    exact ⟨_, _, _, _, rfl, rfl, .inl ⟨rfl, h1, h2, h3, h4, rfl⟩⟩
  · obtain ⟨d, hd, h2⟩ := List.mem_flatMap.mp h
    have hd := List.mem_range.mp hd
    simp only [List.mem_cons, List.not_mem_nil, or_false] at h2
    rcases h2 with e | e <;> cases e
    · exact ⟨_, _, _, _, rfl, rfl, .inr (.inl ⟨rfl, by omega, by omega, rfl, rfl⟩)⟩
    · exact ⟨_, _, _, _, rfl, rfl, .inr (.inr ⟨rfl, by omega, by omega, rfl, rfl⟩)⟩
theorem numb_nn {f : Nat → List Int} {n w : Nat} {x : Str} {a b z : Int} (N : NN f n w) (h : Numb f n w x a b z) : 0 ≤ z := by
  rcases h with ⟨_, h1, h2, h3, h4, rfl⟩ | ⟨_, h1, h2, _, rfl⟩ | ⟨_, h1, h2, _, rfl⟩
  · exact N.g0 a b h1 h2 h3 h4
  · exact N.a0 a h1 h2
  · exact N.f0 b h1 h2
section
variable {P : Program} {w : World} {K : PySem.W.Frag} {mg : Str → Option Value} {base : Heap}
def spNums : Sp := fun vs H Q _ => ∃ (g : Addr) (n w : Nat) (f : Nat → List Int), vs = [.ref g] ∧ ShAt H g n w f ∧ ∀ H' l, Same H H' → H l = none → H' l = some (.dT (numK f n w)) → Q (.ref l) H'
def spConf : Sp := fun vs H Q _ => ∃ (g : Addr) (n w : Nat) (f : Nat → List Int), vs = [.ref g] ∧ ShAt H g n w f ∧ NN f n w ∧ ∀ H' l, Same H H' → H l = none → H' l = some (.lst []) → Q (.ref l) H'
def spPoss : Sp := fun vs H Q _ => ∃ (g : Addr) (n w : Nat) (f : Nat → List Int), vs = [.ref g] ∧ ShAt H g n w f ∧ NN f n w ∧ ∀ H', Same H H' → Q .non H'
theorem ok_nums {f fG fP fA fF fE fS : Addr} {fd dG dP dA dF dE dS : FuncData} {k : Nat} (F : Fun K "numbers_in" "numbers_in" s_numbers_in f fd)
    (F_gap_between : Fun K "gap_between" "gap_between" s_gap_between fG dG) (G_gap_between : FnOk P w K mg base CX0 k fG dG ["sheet", "first", "second"] spGapB) (b_gap_between : Binds K dG ["sheet", "first", "second"] []) (g_gap_between : mg "gap_between" = some (.ref fG))
    (F__told_pairs : Fun K "_told_pairs" "_told_pairs" s__told_pairs fP dP) (G__told_pairs : FnOk P w K mg base CX0 k fP dP ["sheet"] spPairs) (b__told_pairs : Binds K dP ["sheet"] []) (g__told_pairs : mg "_told_pairs" = some (.ref fP))
    (F_away_from : Fun K "away_from" "away_from" s_away_from fA dA) (G_away_from : FnOk P w K mg base CX0 k fA dA ["sheet", "day"] spAwF) (b_away_from : Binds K dA ["sheet", "day"] []) (g_away_from : mg "away_from" = some (.ref fA))
    (F_fresh_on : Fun K "fresh_on" "fresh_on" s_fresh_on fF dF) (G_fresh_on : FnOk P w K mg base CX0 k fF dF ["sheet", "day"] spFrO) (b_fresh_on : Binds K dF ["sheet", "day"] []) (g_fresh_on : mg "fresh_on" = some (.ref fF))
    (F_end_of_away : Fun K "end_of_away" "end_of_away" s_end_of_away fE dE) (G_end_of_away : FnOk P w K mg base CX0 k fE dE ["sheet", "day"] spEndA) (b_end_of_away : Binds K dE ["sheet", "day"] []) (g_end_of_away : mg "end_of_away" = some (.ref fE))
    (F_start_of_fresh : Fun K "start_of_fresh" "start_of_fresh" s_start_of_fresh fS dS) (G_start_of_fresh : FnOk P w K mg base CX0 k fS dS ["sheet", "day"] spStF) (b_start_of_fresh : Binds K dS ["sheet", "day"] []) (g_start_of_fresh : mg "start_of_fresh" = some (.ref fS))
    (m_len : mg "len" = none) (m_range : mg "range" = none) : FnOk P w K mg base CX0 (k + 1) f fd ["sheet"] spNums := by
  refine F.ok sc_numbers_in (fun vs H Q E h => ?_) (fun cdv A outer s H vs Q E hr h => ?_)
  · obtain ⟨g, _, _, _, rfl, _⟩ := h
    rfl
  · obtain ⟨g, n, m, f, rfl, hS, q⟩ := h
    refine ⟨_, (pss_cons (Fa.ps_setDcT (i := 1) (own := [("first", 3), ("second", 4)]) (g := (gTup K 2 (gCons (gName 3) (gCons (gName 4) gNil)))) (tt := tYes) hr.units0 rfl sc_numbers_in.nd rfl rfl (Fa.sw_trueD rfl rfl rfl (by decide +kernel)) (Fa.listQ K (pe_call G__told_pairs (hr.mono (by omega)) (by rfl) g__told_pairs F__told_pairs.kp b__told_pairs .nil pass0 (pa_cons (pv 0) pa_nil))) (blkOk_by (N := N_numbers_in) (sc := defScope s_numbers_in) (by decide +kernel)) (fun _ _ _ _ _ => (Fa.pgTQ K rfl (pgs_cons (pg_name (i := 3) sc_numbers_in.nd rfl (by first | exact Or.inl rfl | exact Or.inr rfl)) (pgs_cons (pg_name (i := 4) sc_numbers_in.nd rfl (by first | exact Or.inl rfl | exact Or.inr rfl)) pgs_nil)))) (fun _ _ _ _ _ => pts_nil) (fun _ _ _ _ _ => (pe_tup (pa_cons pe_str (pa_cons (pv 3) (pa_cons (pv 4) pa_nil))))) (fun _ _ _ _ _ => (pe_call G_gap_between (hr.mono (by omega)) (by rfl) g_gap_between F_gap_between.kp b_gap_between .nil pass0 (pa_cons (pv 0) (pa_cons (pv 3) (pa_cons (pv 4) pa_nil))))))
  (pss_cons (ps_for PassesOwn.never rfl (pi_range1 (by rfl) m_range (pa_cons (pe_callB (Fa.lenQ K) (by rfl) m_len PySem.boot_len (pa_cons (pv 0) pa_nil)) pa_nil)) (pg_name (i := 2) sc_numbers_in.nd rfl (by first | exact Or.inl rfl | exact Or.inr rfl)) (pss_cons (ps_dput (hu_of hr) (pv 1) (pe_tup (pa_cons pe_str (pa_cons (pv 2) (pa_cons (pe_call G_end_of_away (hr.mono (by omega)) (by rfl) g_end_of_away F_end_of_away.kp b_end_of_away .nil pass0 (pa_cons (pv 0) (pa_cons (pv 2) pa_nil))) pa_nil)))) (pe_call G_away_from (hr.mono (by omega)) (by rfl) g_away_from F_away_from.kp b_away_from .nil pass0 (pa_cons (pv 0) (pa_cons (pv 2) pa_nil))) rfl)
  (pss_one (ps_dput (hu_of hr) (pv 1) (pe_tup (pa_cons pe_str (pa_cons (pe_call G_start_of_fresh (hr.mono (by omega)) (by rfl) g_start_of_fresh F_start_of_fresh.kp b_start_of_fresh .nil pass0 (pa_cons (pv 0) (pa_cons (pv 2) pa_nil))) (pa_cons (pv 2) pa_nil)))) (pe_call G_fresh_on (hr.mono (by omega)) (by rfl) g_fresh_on F_fresh_on.kp b_fresh_on .nil pass0 (pa_cons (pv 0) (pa_cons (pv 2) pa_nil))) rfl))))
  (pss_one (ps_ret (pv 1))))), ?_⟩
    obtain ⟨⟨rows, G⟩, hf⟩ := id hS
    have n1 := hf.n1
    have n30 := hf.n30
    have rl : (rows.map V.ref).length = n := by rw [List.length_map, G.cnt]
    have nl := numK_len (f := f) (w := m) n30
    have gl : (ngaps f n m).length = (prAll n m n).length := List.length_map ..
    have lmt := prAll_len (w := m) n30 n
    have l900 : 30 * n ≤ 900 := by omega
    refine ⟨_, rfl, g, n, m, f, rfl, hS, fun H1 l xs s1 nL el hP => ⟨l, rfl, ⟨xs, .inl (.inl el)⟩, fun D nD => ?_⟩⟩
    have len := hP.length
    refine dcT_it (walk_list (xs := xs)) (fun j H2 => Same H1 H2 ∧ H2 D = some (.dT ((ngaps f n m).take j))) ⟨same_new nD, upd_same⟩ ?_ ?_ ?_
    · rintro j H2 _ ⟨s2, _⟩
      exact .inl (.inl (s2 _ _ el))
    · rintro j u _ H2 hj ⟨s2, eD⟩ ⟨rfl, eu⟩
      obtain ⟨p, ep, t, rfl, ht⟩ := paired_at hP eu
      have mem := prAll_mem (List.mem_of_getElem? ep) (Nat.le_refl _)
      have s3 : ∀ T o, H2 T = none → Same H2 (upd H2 T o) := fun T o nT => same_new nT
      refine ⟨t, _, rfl, .inl (.inl (s2 _ _ ht)), rfl, _, _, rfl, _, _, rfl, rfl, rfl, yes_if ⟨_, rfl, _, rfl, by show 3 ≤ sizeLine; decide, fun T nT => ?_⟩⟩
      refine ⟨_, rfl, _, rfl, _, rfl, g, n, m, f, p.1, p.2, rfl, hS.same ((s1.trans s2).trans (same_new nT)), mem.1, mem.2.1, mem.2.2.1, mem.2.2.2.1, T, _, kB "gap" p.1 p.2, rfl, upd_same, (same_new nT) _ _ eD, ?_, ?_⟩
      · rw [List.length_take]
        exact small1000 (by omega)
      · have eg : (ngaps f n m)[j]? = some (kB "gap" p.1 p.2, .int (gp f p.1 p.2)) := by
          unfold ngaps
          rw [List.getElem?_map, ep]
          rfl
        rw [putK_take (p := (kB "gap" p.1 p.2, V.int (gp f p.1 p.2))) (ngaps_nd f n m) eg]
        refine ⟨fun b o y => ?_, upd_same⟩
        rw [upd_ne (ne_of_none y nD)]
        exact same_new nT _ _ (s2 _ _ y)
    · rintro H2 ⟨s2, eD⟩
      rw [show xs.length = (ngaps f n m).length by rw [gl]; exact len, List.take_length] at eD
      have s02 : Same H H2 := s1.trans s2
      refine ⟨_, rfl, g, _, rfl, .inl (.inl (.inl (s02 _ _ G.top))), _, rfl, by rw [rl]; omega, by rw [rl]; omega, ?_⟩
      rw [rl, Int.toNat_natCast]
      have nD0 : H D = none := s1.free nD
      refine for_range (lo := 0) (fun i σ H' => Same H H' ∧ H' D = some (.dT (ngaps f n m ++ ndays f n m i)) ∧ ∃ x2, σ = [some (.ref g), some (.ref D), x2, none, none]) ?_ ?_ ?_
      · refine ⟨s02, ?_, none, rfl⟩
        show H2 D = some (.dT (ngaps f n m ++ []))
        rw [List.append_nil]
        exact eD
      · rintro i σ H3 hi ⟨s3, e3, x2, rfl⟩
        rw [Int.zero_add]
        have hS3 := hS.same s3
        have small : (ngaps f n m ++ ndays f n m i).length ≤ 958 := by
          rw [List.length_append, ndays_len, gl]
          have := prAll_len (w := m) n30 n
          have : 30 * n ≤ 900 := by omega
          omega
        have L1 : (numK f n m).take (ngaps f n m ++ ndays f n m i).length = ngaps f n m ++ ndays f n m i := numK_take f (Nat.le_of_lt hi)
        have at1 := numK_at1 f (w := m) hi
        have at2 := numK_at2 f (w := m) hi
        refine ⟨_, rfl, _, rfl, g, n, m, f, i, rfl, hS3, by omega, by omega, _, rfl, _, rfl, _, rfl, _, rfl, g, n, m, f, i, rfl, hS3, by omega, by omega, by show 3 ≤ sizeLine; decide, fun T nT => ?_⟩
        have e4 := (same_new (o := .tup [.str "away", .int i, .int (eA n m i)]) nT) _ _ e3
        refine ⟨D, _, rfl, DPut.t (k := kB "away" i (eA n m i)) e4 upd_same (small1000 (by omega)), ?_⟩
        rw [← L1, putK_take (p := (kB "away" i (eA n m i), V.int (aw f n m i))) (numK_nd f n m) at1]
        have nDT : ∀ b o, H b = some o → upd (upd H3 T (.tup [.str "away", .int i, .int (eA n m i)])) D (.dT ((numK f n m).take ((ngaps f n m ++ ndays f n m i).length + 1))) b = some o := fun b o y => by
          rw [upd_ne (ne_of_none y nD0)]
          exact same_new nT _ _ (s3 _ _ y)
        have hS4 := hS.same nDT
        refine ⟨_, rfl, _, rfl, g, n, m, f, i, rfl, hS4, by omega, by omega, _, rfl, _, rfl, _, rfl, g, n, m, f, i, rfl, hS4, by omega, by omega, _, rfl, by show 3 ≤ sizeLine; decide, fun T2 nT2 => ?_⟩
        have e5 := (same_new (o := .tup [.str "fresh", .int (sF m i), .int i]) nT2) _ _ (upd_same (H := upd H3 T (.tup [.str "away", .int i, .int (eA n m i)])) (a := D) (o := .dT ((numK f n m).take ((ngaps f n m ++ ndays f n m i).length + 1))))
        refine ⟨D, _, rfl, DPut.t (k := kB "fresh" (sF m i) i) e5 upd_same (small1000 (by rw [List.length_take]; omega)), ?_⟩
        rw [putK_take (p := (kB "fresh" (sF m i) i, V.int (fr f m i))) (numK_nd f n m) at2]
        refine ⟨fun b o y => ?_, ?_, _, rfl⟩
        · rw [upd_ne (ne_of_none y nD0)]
          exact same_new nT2 _ _ (nDT _ _ y)
        · rw [upd_same, ← numK_take f (w := m) (Nat.succ_le_of_lt hi), List.length_append, List.length_append, ndays_len, ndays_len]
          rfl
      · rintro σ H3 ⟨s3, e3, x2, rfl⟩
        exact ⟨_, rfl, q H3 D s3 nD0 e3⟩
theorem ok_conf {f fN : Addr} {fd dN : FuncData} {k : Nat} (F : Fun K "conflicts_in" "conflicts_in" s_conflicts_in f fd) (F_numbers_in : Fun K "numbers_in" "numbers_in" s_numbers_in fN dN) (G_numbers_in : FnOk P w K mg base CX0 k fN dN ["sheet"] spNums) (b_numbers_in : Binds K dN ["sheet"] []) (g_numbers_in : mg "numbers_in" = some (.ref fN))
    (m_sorted : mg "sorted" = none) : FnOk P w K mg base CX0 (k + 1) f fd ["sheet"] spConf := by
  refine F.ok sc_conflicts_in (fun vs H Q E h => ?_) (fun cdv A outer s H vs Q E hr h => ?_)
  · obtain ⟨g, _, _, _, rfl, _⟩ := h
    rfl
  · obtain ⟨g, n, m, f, rfl, hS, hN, q⟩ := h
    refine ⟨_, (pss_cons (ps_set (i := 1) sc_conflicts_in.nd rfl (by first | exact Or.inl rfl | exact Or.inr rfl) (pe_call G_numbers_in (hr.mono (by omega)) (by rfl) g_numbers_in F_numbers_in.kp b_numbers_in .nil pass0 (pa_cons (pv 0) pa_nil)))
  (pss_cons (ps_lock (ps_setLc (i := 2) (own := [("word", 3), ("first", 4), ("second", 5), ("number", 6)]) (g := (gTup K 2 (gCons (gTup K 3 (gCons (gName 3) (gCons (gName 4) (gCons (gName 5) gNil)))) (gCons (gName 6) gNil)))) rfl sc_conflicts_in.nd rfl rfl (sw_true rfl rfl rfl (by decide +kernel)) (Fa.pi_itemsT (pv 1)) (blkOk_by (N := N_conflicts_in) (sc := defScope s_conflicts_in) (by decide +kernel)) (fun _ _ _ _ _ => (Fa.pgTQ K rfl (pgs_cons (Fa.pgTQ K rfl (pgs_cons (pg_name (i := 3) sc_conflicts_in.nd rfl (by first | exact Or.inl rfl | exact Or.inr rfl)) (pgs_cons (pg_name (i := 4) sc_conflicts_in.nd rfl (by first | exact Or.inl rfl | exact Or.inr rfl)) (pgs_cons (pg_name (i := 5) sc_conflicts_in.nd rfl (by first | exact Or.inl rfl | exact Or.inr rfl)) pgs_nil)))) (pgs_cons (pg_name (i := 6) sc_conflicts_in.nd rfl (by first | exact Or.inl rfl | exact Or.inr rfl)) pgs_nil)))) (fun _ _ _ _ _ => (pts_one (pt_cmpR op_lt (pv 6) pe_int (nomark _)))) (fun _ _ _ _ _ => (pe_tup (pa_cons (pv 5) (pa_cons (pv 4) (pa_cons (pv 3) pa_nil)))))))
  (pss_one (ps_ret (pe_lc (own := [("second", 5), ("first", 4), ("word", 3)]) (g := (gTup K 3 (gCons (gName 5) (gCons (gName 4) (gCons (gName 3) gNil))))) (tt := tYes) rfl sc_conflicts_in.nd (Fa.listQ K (pe_callB (Fa.sortIQ K) (by rfl) m_sorted Fa.b_sorted (pa_cons (pv 2) pa_nil))) (blkOk_by (N := N_conflicts_in) (sc := defScope s_conflicts_in) (by decide +kernel)) (fun _ _ _ _ _ => (Fa.pgTQ K rfl (pgs_cons (pg_name (i := 5) sc_conflicts_in.nd rfl (by first | exact Or.inl rfl | exact Or.inr rfl)) (pgs_cons (pg_name (i := 4) sc_conflicts_in.nd rfl (by first | exact Or.inl rfl | exact Or.inr rfl)) (pgs_cons (pg_name (i := 3) sc_conflicts_in.nd rfl (by first | exact Or.inl rfl | exact Or.inr rfl)) pgs_nil))))) (fun _ _ _ _ _ => pts_nil) (fun _ _ _ _ _ => (pe_tup (pa_cons (pv 3) (pa_cons (pv 4) (pa_cons (pv 5) pa_nil)))))))))), ?_⟩
    refine ⟨_, rfl, g, n, m, f, rfl, hS, fun H1 l s1 nl el => ⟨l, _, el, trivial, fun od => ?_⟩⟩
    refine ⟨_, rfl, l, od, _, rfl, upd_same, fun D nD => ?_⟩
    have s1n : ∀ b o, H b = some o → b ≠ l := fun b o y => ne_of_none y nl
    refine lc_it walk_itemsT (fun j H2 => (∀ b o, H b = some o → H2 b = some o) ∧ H2 l = some (.frz od (.dT (numK f n m))) ∧ H2 D = some (.lst [])) ?_ ?_ ?_ ?_
    · refine ⟨fun b o y => ?_, ?_, upd_same⟩
      · rw [upd_ne (ne_of_none (H := upd H1 l _) (by rw [upd_ne (s1n b o y)]; exact s1 _ _ y) nD), upd_ne (s1n b o y)]
        exact s1 _ _ y
      · rw [upd_ne (ne_of_none (H := upd H1 l _) upd_same nD), upd_same]
    · rintro j H2 _ ⟨_, e2, _⟩
      exact e2
    · rintro j u H2 _ hj ⟨s2, e2, eD⟩ ⟨T, t, kk, v, ek, ht, rfl, nT, rfl⟩
      obtain ⟨x, a, b, z, rfl, rfl, nb⟩ := numK_mem (List.mem_of_getElem? ek)
      have z0 := numb_nn hN nb
      have tT : t ≠ T := ne_of_none ht nT
      have ht' : upd H2 T (.tup [.ref t, .int z]) t = some (.tup [.str x, .int a, .int b]) := by
        rw [upd_ne tT]
        exact ht
      refine ⟨T, _, rfl, .inl (.inl upd_same), rfl, _, _, rfl, ⟨t, _, rfl, .inl (.inl ht'), rfl, _, _, rfl, _, _, rfl, _, _, rfl, rfl, _, _, rfl, rfl, rfl, _, rfl, _, _, rfl, rfl, _, rfl, iteDF (by omega) ⟨fun b o y => ?_, ?_, ?_⟩⟩⟩
      · exact same_new nT _ _ (s2 _ _ y)
      · exact same_new nT _ _ e2
      · exact same_new nT _ _ eD
    · rintro H2 ⟨s2, e2, eD⟩
      have Dl : D ≠ l := ne_of eD e2 (fun z => by cases z)
      have s3 : Same H (upd H2 l (.dT (numK f n m))) := fun b o y => by
        rw [upd_ne (s1n b o y)]
        exact s2 _ _ y
      have eD3 : upd H2 l (.dT (numK f n m)) D = some (.lst []) := by
        rw [upd_ne Dl]
        exact eD
      refine ⟨e2, _, rfl, D, [], rfl, .inl (.inl eD3), by decide, fun ns' p pm _ np => ⟨p, rfl, ?_⟩⟩
      have e0 : ns' = [] := List.Perm.eq_nil pm
      subst e0
      refine ⟨⟨[], .inl (.inl upd_same)⟩, fun D2 nD2 => ?_⟩
      refine lc_it (walk_list (xs := [])) (fun j H4 => Same (upd H2 l (.dT (numK f n m))) H4 ∧ H4 p = some (.lst []) ∧ H4 D2 = some (.lst [])) ?_ ?_ ?_ ?_
      · exact ⟨(same_new np).trans (same_new nD2), (same_new nD2) _ _ upd_same, upd_same⟩
      · rintro j H4 _ ⟨_, e4, _⟩
        exact .inl (.inl e4)
      · rintro j u _ H4 hj _ _
        exact absurd hj (Nat.not_lt_zero _)
      · rintro H4 ⟨s4, _, e4⟩
        exact q H4 D2 (s3.trans s4) (s3.free ((same_new np).free nD2)) e4
theorem ok_poss {f fC : Addr} {fd dC : FuncData} {k : Nat} (F : Fun K "check_possible" "check_possible" s_check_possible f fd) (F_conflicts_in : Fun K "conflicts_in" "conflicts_in" s_conflicts_in fC dC) (G_conflicts_in : FnOk P w K mg base CX0 k fC dC ["sheet"] spConf) (b_conflicts_in : Binds K dC ["sheet"] []) (g_conflicts_in : mg "conflicts_in" = some (.ref fC))
    (m_len : mg "len" = none) : FnOk P w K mg base CX0 (k + 1) f fd ["sheet"] spPoss := by
  refine F.ok sc_check_possible (fun vs H Q E h => ?_) (fun cdv A outer s H vs Q E hr h => ?_)
  · obtain ⟨g, _, _, _, rfl, _⟩ := h
    rfl
  · obtain ⟨g, n, m, f, rfl, hS, hN, q⟩ := h
    refine ⟨_, (pss_cons (ps_set (i := 1) sc_check_possible.nd rfl (by first | exact Or.inl rfl | exact Or.inr rfl) (pe_call G_conflicts_in (hr.mono (by omega)) (by rfl) g_conflicts_in F_conflicts_in.kp b_conflicts_in .nil pass0 (pa_cons (pv 0) pa_nil)))
  (pss_one (ps_if (pt_cmpR op_gt (pe_callB (Fa.lenQ K) (by rfl) m_len PySem.boot_len (pa_cons (pv 1) pa_nil)) pe_int (nomark _)) Fa.pss_never pss_nil))), ?_⟩
    exact ⟨_, rfl, g, n, m, f, rfl, hS, hN, fun H1 l s1 nl el => ⟨_, rfl, l, _, rfl, .inl (.inl (.inl el)), _, _, rfl, rfl, _, rfl, iteDF (by decide) (q H1 s1)⟩⟩
end
end K21

namespace K21
open PySem PySem.Spec PyProof.Rows L2 Fa
/-! links that are a sheet's gaps and joins -/
section
variable {f : Nat → List Int} {n w : Nat}
theorem gRow_in {c m : Nat} {p : Tri} (h : p ∈ gRow f c m) : p.1 = (c : Int) ∧ (c : Int) < p.2.1 ∧ p.2.1 < (c : Int) + 1 + (m : Int) ∧ p.2.2 = gp f p.1 p.2.1 ∧ p.2.2 ≠ 0 := by
  obtain ⟨h1, h2⟩ := List.mem_filter.mp h
  obtain ⟨j, hj, rfl⟩ := List.mem_map.mp h1
  have hj := List.mem_range.mp hj
  exact ⟨rfl, by show (c : Int) < (c : Int) + 1 + (j : Int); omega, by show (c : Int) + 1 + (j : Int) < _; omega, rfl, of_decide_eq_true h2⟩
theorem gAll_in {i : Nat} {p : Tri} (h : p ∈ gAll f n w i) : ∃ c : Nat, c < i ∧ p ∈ gRow f c (min (c + w) n - (c + 1)) := by
  obtain ⟨a, ha, h2⟩ := List.mem_flatMap.mp h
  exact ⟨a, List.mem_range.mp ha, h2⟩
theorem gRow_tow {b : Nat} {a : Int} {c : Nat} : ∀ m : Nat, lsum (fun p => tow b p && decide (a ≤ p.1)) (gRow f c m) = if a ≤ (c : Int) ∧ (c : Int) < (b : Int) ∧ (b : Int) < (c : Int) + 1 + (m : Int) then gp f c b else 0
  | 0 => by
    rw [if_neg (by omega)]
    rfl
  | m + 1 => by
    rw [gRow_succ, lsum_app, gRow_tow m]
    have one : lsum (fun p => tow b p && decide (a ≤ p.1)) (if gp f c ((c : Int) + 1 + (m : Int)) ≠ 0 then [((c : Int), (c : Int) + 1 + (m : Int), gp f c ((c : Int) + 1 + (m : Int)))] else []) = if a ≤ (c : Int) ∧ (b : Int) = (c : Int) + 1 + (m : Int) then gp f c b else 0 := by
      by_cases z : gp f c ((c : Int) + 1 + (m : Int)) = 0
      · rw [if_neg (fun y => y z)]
        show (0 : Int) = _
        by_cases y : a ≤ (c : Int) ∧ (b : Int) = (c : Int) + 1 + (m : Int)
        · rw [if_pos y, y.2, z]
        · rw [if_neg y]
      · rw [if_pos z, lsum_cons]
        show (if tow b ((c : Int), (c : Int) + 1 + (m : Int), gp f c ((c : Int) + 1 + (m : Int))) && decide (a ≤ (c : Int)) then gp f c ((c : Int) + 1 + (m : Int)) else 0) + 0 = _
        unfold tow
        by_cases y1 : (c : Int) + 1 + (m : Int) = (b : Int)
        · by_cases y2 : a ≤ (c : Int)
          · rw [decide_eq_true y1, decide_eq_true y2, Bool.and_true, if_pos (rfl : true = true), if_pos ⟨y2, y1.symm⟩, y1]
            omega
          · rw [decide_eq_true y1, decide_eq_false y2, if_neg (by decide), if_neg (fun u => y2 u.1)]
            rfl
        · rw [decide_eq_false y1, Bool.false_and, if_neg Bool.false_ne_true, if_neg (fun u => y1 u.2.symm)]
          rfl
    rw [one]
    by_cases h1 : a ≤ (c : Int) ∧ (c : Int) < (b : Int) ∧ (b : Int) < (c : Int) + 1 + (m : Int)
    · rw [if_pos h1, if_neg (by omega), if_pos (by omega)]
      omega
    · rw [if_neg h1]
      by_cases h2 : a ≤ (c : Int) ∧ (b : Int) = (c : Int) + 1 + (m : Int)
      · rw [if_pos h2, if_pos (by omega)]
        omega
      · rw [if_neg h2, if_neg (by omega)]
        rfl
theorem sa_window (g : Nat → Int) (s b : Nat) : ∀ n : Nat, sa (fun c => if s ≤ c ∧ c < b then g c else 0) n = sa (fun j => g (s + j)) (min n b - s)
  | 0 => by
    rw [show min 0 b - s = 0 by omega]
    rfl
  | n + 1 => by
    show sa (fun c => if s ≤ c ∧ c < b then g c else 0) n + (if s ≤ n ∧ n < b then g n else 0) = _
    rw [sa_window g s b n]
    by_cases h : s ≤ n ∧ n < b
    · rw [if_pos h, show min (n + 1) b - s = (min n b - s) + 1 by omega]
      show _ = sa (fun j => g (s + j)) (min n b - s) + g (s + (min n b - s))
      rw [show s + (min n b - s) = n by omega]
    · rw [if_neg h, show min (n + 1) b - s = min n b - s by omega]
      omega
/-- who of day c comes on day b or behind, up to the told ones -/
def ee (f : Nat → List Int) (b c : Int) : Int := uu f c (b - 1) - uu f c b
theorem gp_ee {b c : Int} : gp f c b = ee f b c - ee f b (c + 1) := by
  unfold gp ee
  omega
theorem ee_tele {b : Int} {s : Int} : ∀ m : Nat, sa (fun j => gp f (s + (j : Int)) b) m = ee f b s - ee f b (s + (m : Int))
  | 0 => by
    show (0 : Int) = ee f b s - ee f b (s + 0)
    rw [Int.add_zero]
    omega
  | m + 1 => by
    show sa (fun j => gp f (s + (j : Int)) b) m + gp f (s + (m : Int)) b = _
    rw [ee_tele m, gp_ee, show s + (m : Int) + 1 = s + ((m + 1 : Nat) : Int) by omega]
    omega
theorem ee_top {b : Int} : ee f b b = - uu f b b := by
  unfold ee
  have : uu f b (b - 1) = 0 := by
    unfold uu
    rw [if_neg (by omega)]
  omega
theorem gAll_tow {b : Nat} {a : Int} (bn : b < n) : ∀ i : Nat, lsum (fun p => tow b p && decide (a ≤ p.1)) (gAll f n w i) = sa (fun c => if a ≤ (c : Int) ∧ (c : Int) < (b : Int) ∧ (b : Int) < (c : Int) + (w : Int) then gp f c b else 0) i
  | 0 => rfl
  | i + 1 => by
    rw [gAll_succ, lsum_app, gAll_tow bn i, gRow_tow]
    show _ = sa (fun c => if a ≤ (c : Int) ∧ (c : Int) < (b : Int) ∧ (b : Int) < (c : Int) + (w : Int) then gp f c b else 0) i + (if a ≤ (i : Int) ∧ (i : Int) < (b : Int) ∧ (b : Int) < (i : Int) + (w : Int) then gp f i b else 0)
    congr 1
    by_cases h : a ≤ (i : Int) ∧ (i : Int) < (b : Int) ∧ (b : Int) < (i : Int) + (w : Int)
    · rw [if_pos h, if_pos (by omega)]
    · rw [if_neg h, if_neg (by omega)]
/-- the gaps into a day from a told day on -/
theorem gAll_tow_from {b s : Nat} {a : Int} (bn : b < n) (sb : s ≤ b) (hs : ∀ c : Nat, c < b → ((a ≤ (c : Int) ∧ (b : Int) < (c : Int) + (w : Int)) ↔ s ≤ c)) : lsum (fun p => tow b p && decide (a ≤ p.1)) (gAll f n w n) = uu f s ((b : Int) - 1) - uu f s b + uu f b b := by
  rw [gAll_tow bn, sa_ext (g' := fun c => if s ≤ c ∧ c < b then gp f c b else 0) fun c _ => ?_, sa_window, show min n b - s = b - s by omega]
  · have t := ee_tele (f := f) (b := (b : Int)) (s := (s : Int)) (b - s)
    rw [show (s : Int) + ((b - s : Nat) : Int) = (b : Int) by omega, ee_top] at t
    rw [sa_ext (g' := fun j => gp f ((s : Int) + (j : Int)) b) fun j _ => by rw [show ((s + j : Nat) : Int) = (s : Int) + (j : Int) by omega], t]
    unfold ee
    omega
  · by_cases h : s ≤ c ∧ c < b
    · have := (hs c h.2).mpr h.1
      rw [if_pos h, if_pos ⟨this.1, by omega, this.2⟩]
    · rw [if_neg h, if_neg fun u => h ⟨(hs c (by omega)).mp ⟨u.1, u.2.2⟩, by omega⟩]
theorem gAll_inn {b : Nat} (bn : b < n) (w1 : 1 ≤ w) : lsum (tow b) (gAll f n w n) = r0 f b - fr f w b := by
  have e : lsum (tow b) (gAll f n w n) = lsum (fun p => tow b p && decide (0 ≤ p.1)) (gAll f n w n) := lsum_ext fun p hp => by
    have := (gAll_mem hp (Nat.le_refl _)).1
    rw [decide_eq_true this, Bool.and_true]
  have sf : (sF w b : Int) = (((b + 1 - w : Nat)) : Int) := by
    unfold sF
    split <;> omega
  rw [e, gAll_tow_from (s := b + 1 - w) bn (by omega) fun c hc => by omega]
  unfold r0 fr
  rw [sf]
  omega
theorem gRow_frm {c i m : Nat} (h : c ≠ i) : lsum (frm i) (gRow f c m) = 0 := lsum_zero fun p hp => by
  have := (gRow_in hp).1
  unfold frm
  rw [this]
  exact decide_eq_false (by omega)
theorem gRow_frm_self {i : Nat} : ∀ m : Nat, lsum (frm i) (gRow f i m) = (uu f i i - uu f ((i : Int) + 1) i) - (uu f i ((i : Int) + (m : Int)) - uu f ((i : Int) + 1) ((i : Int) + (m : Int)))
  | 0 => by
    show (0 : Int) = _
    rw [show (i : Int) + ((0 : Nat) : Int) = (i : Int) by omega]
    omega
  | m + 1 => by
    rw [gRow_succ, lsum_app, gRow_frm_self m]
    have one : lsum (frm i) (if gp f i ((i : Int) + 1 + (m : Int)) ≠ 0 then [((i : Int), (i : Int) + 1 + (m : Int), gp f i ((i : Int) + 1 + (m : Int)))] else []) = gp f i ((i : Int) + 1 + (m : Int)) := by
      by_cases z : gp f i ((i : Int) + 1 + (m : Int)) = 0
      · rw [if_neg (fun y => y z), z]
        rfl
      · rw [if_pos z, lsum_cons]
        show (if frm i ((i : Int), (i : Int) + 1 + (m : Int), gp f i ((i : Int) + 1 + (m : Int))) then gp f i ((i : Int) + 1 + (m : Int)) else 0) + 0 = _
        unfold frm
        rw [decide_eq_true rfl, if_pos rfl]
        omega
    rw [one]
    unfold gp
    rw [show (i : Int) + 1 + (m : Int) - 1 = (i : Int) + (m : Int) by omega, show (i : Int) + ((m + 1 : Nat) : Int) = (i : Int) + 1 + (m : Int) by omega]
    omega
theorem gAll_frm {i : Nat} : ∀ k : Nat, lsum (frm i) (gAll f n w k) = if i < k then lsum (frm i) (gRow f i (min (i + w) n - (i + 1))) else 0
  | 0 => by
    rw [if_neg (by omega)]
    rfl
  | k + 1 => by
    rw [gAll_succ, lsum_app, gAll_frm k]
    by_cases h : i < k
    · rw [if_pos h, if_pos (by omega), gRow_frm (c := k) (i := i) (by omega)]
      omega
    · by_cases e : k = i
      · subst e
        rw [if_neg h, if_pos (by omega)]
        omega
      · rw [if_neg h, if_neg (by omega), gRow_frm (c := k) (i := i) (by omega)]
        rfl
theorem gAll_out {i : Nat} (hi : i < n) (w1 : 1 ≤ w) : lsum (frm i) (gAll f n w n) = r0 f i - aw f n w i := by
  rw [gAll_frm, if_pos hi, gRow_frm_self]
  have e : (i : Int) + ((min (i + w) n - (i + 1) : Nat) : Int) = eA n w i := by
    unfold eA
    split <;> omega
  have z : uu f ((i : Int) + 1) i = 0 := by
    unfold uu
    rw [if_neg (by omega)]
  rw [e, z]
  unfold r0 aw
  omega
theorem gAll_nd : ∀ i : Nat, ((gAll f n w i).map fun p => (p.1, p.2.1)).Nodup
  | 0 => List.nodup_nil
  | i + 1 => by
    rw [gAll_succ, List.map_append, List.nodup_append]
    refine ⟨gAll_nd i, ?_, fun x hx y hy z => ?_⟩
    · unfold gRow
      refine List.pairwise_map.mpr (List.Pairwise.filter _ (List.pairwise_map.mpr ?_))
      refine List.Pairwise.imp ?_ (List.pairwise_lt_range (n := min (i + w) n - (i + 1)))
      intro a b ab z
      have := (Prod.mk.inj z).2
      have : (i : Int) + 1 + (a : Int) = (i : Int) + 1 + (b : Int) := this
      omega
    · obtain ⟨p, hp, rfl⟩ := List.mem_map.mp hx
      obtain ⟨q, hq, rfl⟩ := List.mem_map.mp hy
      obtain ⟨c, hc, h2⟩ := gAll_in hp
      have a := (gRow_in h2).1
      have b := (gRow_in hq).1
      have := (Prod.mk.inj z).1
      omega
/-- joins that a sheet lets -/
structure JOk (f : Nat → List Int) (n w : Nat) (J : List Tri) : Prop where
  ok : ∀ p ∈ J, 0 ≤ p.1 ∧ p.1 + (w : Int) ≤ p.2.1 ∧ p.2.1 < (n : Int) ∧ 1 ≤ p.2.2
  nd : (J.map fun p => (p.1, p.2.1)).Nodup
  out : ∀ i, i < n → lsum (frm i) J ≤ aw f n w i
  inn : ∀ i, i < n → lsum (tow i) J ≤ fr f w i
theorem links_of {J : List Tri} (hN : NN f n w) (hJ : JOk f n w J) (w1 : 1 ≤ w) : Links n (r0 f) (gAll f n w n ++ J) := by
  refine ⟨fun p hp => ?_, ?_, fun i hi => ?_, fun i hi => ?_⟩
  · rcases List.mem_append.mp hp with z | z
    · have m := gAll_mem z (Nat.le_refl _)
      obtain ⟨c, _, h2⟩ := gAll_in z
      have nz := (gRow_in h2).2.2.2.2
      have g := hN.g0 _ _ m.1 m.2.1 m.2.2.1 m.2.2.2.1
      rw [← m.2.2.2.2] at g
      exact ⟨m.1, m.2.1, m.2.2.1, by omega⟩
    · have := hJ.ok p z
      exact ⟨this.1, by omega, this.2.2.1, this.2.2.2⟩
  · rw [List.map_append, List.nodup_append]
    refine ⟨gAll_nd n, hJ.nd, fun x hx y hy z => ?_⟩
    obtain ⟨p, hp, rfl⟩ := List.mem_map.mp hx
    obtain ⟨q, hq, rfl⟩ := List.mem_map.mp hy
    have m := gAll_mem hp (Nat.le_refl _)
    have j := hJ.ok q hq
    obtain ⟨z1, z2⟩ := Prod.mk.inj z
    omega
  · rw [lsum_app, gAll_out hi w1]
    have := hJ.out i hi
    omega
  · rw [lsum_app, gAll_inn hi w1]
    have := hJ.inn i hi
    omega
theorem jok_nil (hN : NN f n w) : JOk f n w [] := ⟨fun p hp => (nomatch hp), List.nodup_nil, fun i hi => hN.a0 _ (by omega) (by omega), fun i hi => hN.f0 _ (by omega) (by omega)⟩
/-! the family's numbers -/
variable {J : List Tri} {fam : Fm}
theorem fam_unl (hN : NN f n w) (hJ : JOk f n w J) (w1 : 1 ≤ w) (pm : Routed f n w J fam) {a : Int} (a0 : 0 ≤ a) {k : Nat} (hk : k ≤ n) : unl fam a ((k : Int) - 1) = UU (r0 f) (gAll f n w n ++ J) a k := by
  obtain ⟨o, v, hO, pm⟩ := pm
  have R := route_ok hO (links_of hN hJ w1) n (Nat.le_refl _)
  have := R.U a a0 k hk
  rw [Nat.sub_self] at this
  rw [← tot_unl, tot_perm pm]
  have e : ∀ x : Int, x + sa (fun x => tot (fun p => hits p a ((k : Int) - 1)) ((route (r0 f) (gAll f n w n ++ J) o v n).1 (n + x))) 0 = x := fun x => Int.add_zero x
  rw [e] at this
  exact this
theorem fam_mem (hN : NN f n w) (hJ : JOk f n w J) (w1 : 1 ≤ w) (pm : Routed f n w J fam) : ∀ q ∈ fam, 1 ≤ q.2 ∧ Pat (n : Int) q.1 := fun q hq => by
  obtain ⟨o, v, hO, pm⟩ := pm
  exact (route_ok hO (links_of hN hJ w1) n (Nat.le_refl _)).C q (pm.mem_iff.mp hq)
theorem fam_len (hN : NN f n w) (hJ : JOk f n w J) (w1 : 1 ≤ w) (n30 : n ≤ 30) (j9 : J.length ≤ 900) (pm : Routed f n w J fam) : fam.length ≤ 1860 := by
  obtain ⟨o, v, hO, pm⟩ := pm
  have R := route_ok hO (links_of hN hJ w1) n (Nat.le_refl _)
  have l0 := R.len
  rw [Nat.sub_self] at l0
  have l0 : ((route (r0 f) (gAll f n w n ++ J) o v n).2.length : Int) + 0 ≤ 2 * (n : Int) + (((gAll f n w n ++ J).filter fun p => decide (p.1 < (n : Int))).length : Int) := l0
  have l1 := List.length_filter_le (fun p : Tri => decide (p.1 < (n : Int))) (gAll f n w n ++ J)
  have l2 := gAll_len f (w := w) n30 n
  rw [List.length_append] at l1
  rw [pm.length_eq]
  omega
theorem tot_diff {φ ψ χ : List Int → Bool} {F : Fm} (h : ∀ p ∈ F, (if φ p.1 then (1 : Int) else 0) = (if ψ p.1 then 1 else 0) - (if χ p.1 then 1 else 0)) : tot φ F = tot ψ F - tot χ F := by
  induction F with
  | nil => rfl
  | cons p F ih =>
    have h0 := h p List.mem_cons_self
    rw [tot_cons, tot_cons, tot_cons, ih fun q hq => h q (List.mem_cons_of_mem _ hq)]
    cases e1 : φ p.1 <;> cases e2 : ψ p.1 <;> cases e3 : χ p.1 <;> rw [e1, e2, e3] at h0 <;> simp at h0 ⊢ <;> omega
/-- whose first day it is; whose last -/
def fst' (d : Int) (p : List Int) : Bool := decide (p.head? = some d)
def lst' (d : Int) (p : List Int) : Bool := decide (p.getLast? = some d)
theorem asc_last : ∀ {p : List Int} {x : Int}, p.Pairwise (· < ·) → p.getLast? = some x → x ∈ p ∧ ∀ d ∈ p, d ≤ x := fun {p x} h e => by
  have ne : p ≠ [] := fun z => by
    rw [z] at e
    cases e
  rw [List.getLast?_eq_some_getLast ne] at e
  have e := Option.some.inj e
  have sp := List.dropLast_concat_getLast ne
  rw [e] at sp
  rw [← sp] at h ⊢
  refine ⟨List.mem_append_right _ List.mem_cons_self, fun d hd => ?_⟩
  rcases List.mem_append.mp hd with z | z
  · exact Int.le_of_lt ((List.pairwise_append.mp h).2.2 d z x List.mem_cons_self)
  · rw [List.mem_singleton.mp z]
    exact Int.le_refl _
theorem hits_iff {p : List Int} {a b : Int} : hits p a b = true ↔ ∃ d ∈ p, a ≤ d ∧ d ≤ b := by
  unfold hits
  rw [List.any_eq_true]
  constructor
  · rintro ⟨d, hd, z⟩
    obtain ⟨z1, z2⟩ := He.ba z
    exact ⟨d, hd, of_decide_eq_true z1, of_decide_eq_true z2⟩
  · rintro ⟨d, hd, z1, z2⟩
    exact ⟨d, hd, Bool.and_eq_true_iff.mpr ⟨decide_eq_true z1, decide_eq_true z2⟩⟩
theorem fst_hits {p : List Int} {d : Int} (h : Pat (n : Int) p) : (if fst' d p then (1 : Int) else 0) = (if hits p 0 d then 1 else 0) - (if hits p 0 (d - 1) then 1 else 0) := by
  cases p with
  | nil => exact absurd rfl h.ne
  | cons x l =>
    have asc := (List.pairwise_cons.mp h.asc).1
    have xb := h.bd x List.mem_cons_self
    have hd : ∀ e : Int, hits (x :: l) 0 e = decide (x ≤ e) := fun e => by
      rw [Bool.eq_iff_iff, hits_iff, decide_eq_true_iff]
      constructor
      · rintro ⟨y, hy, _, y2⟩
        rcases List.mem_cons.mp hy with rfl | hy
        · exact y2
        · have := asc y hy
          omega
      · intro z
        exact ⟨x, List.mem_cons_self, xb.1, z⟩
    rw [hd, hd]
    unfold fst'
    show (if decide (some x = some d) then (1 : Int) else 0) = _
    by_cases e : x = d
    · subst e
      rw [decide_eq_true rfl, decide_eq_true (Int.le_refl _), decide_eq_false (show ¬ x ≤ x - 1 by omega)]
      rfl
    · rw [decide_eq_false (fun z => e (Option.some.inj z))]
      by_cases y : x ≤ d - 1
      · rw [decide_eq_true y, decide_eq_true (show x ≤ d by omega)]
        rfl
      · rw [decide_eq_false y, decide_eq_false (show ¬ x ≤ d by omega)]
        rfl
theorem lst_hits {p : List Int} {d : Int} (h : Pat (n : Int) p) (d0 : 0 ≤ d) : (if lst' d p then (1 : Int) else 0) = (if hits p d ((n : Int) - 1) then 1 else 0) - (if hits p (d + 1) ((n : Int) - 1) then 1 else 0) := by
  have ne := h.ne
  have eg := List.getLast?_eq_some_getLast ne
  obtain ⟨m1, m2⟩ := asc_last h.asc eg
  have xb := h.bd _ m1
  have hd : ∀ e : Int, hits p e ((n : Int) - 1) = decide (e ≤ p.getLast ne) := fun e => by
    rw [Bool.eq_iff_iff, hits_iff, decide_eq_true_iff]
    constructor
    · rintro ⟨y, hy, y1, _⟩
      have := m2 y hy
      omega
    · intro z
      exact ⟨_, m1, z, by omega⟩
  rw [hd, hd]
  unfold lst'
  rw [eg]
  generalize p.getLast ne = x
  by_cases e : x = d
  · subst e
    rw [decide_eq_true rfl, decide_eq_true (Int.le_refl _), decide_eq_false (show ¬ x + 1 ≤ x by omega)]
    rfl
  · rw [decide_eq_false (fun z => e (Option.some.inj z))]
    by_cases y : d + 1 ≤ x
    · rw [decide_eq_true y, decide_eq_true (show d ≤ x by omega)]
      rfl
    · rw [decide_eq_false y, decide_eq_false (show ¬ d ≤ x by omega)]
      rfl
theorem UU_last (r : Nat → Int) (L : List Tri) (hL : ∀ p ∈ L, 0 ≤ p.1 ∧ p.1 < p.2.1) (a : Nat) : ∀ k : Nat, UU r L (a : Int) (a + 1 + k) - UU r L ((a : Int) + 1) (a + 1 + k) = r a - lsum (fun p => frm a p && decide (p.2.1 < ((a + 1 + k : Nat) : Int))) L
  | 0 => by
    show UU r L (a : Int) a + (if (a : Int) ≤ (a : Int) then r a - lsum (fun p => tow a p && decide ((a : Int) ≤ p.1)) L else 0) - UU r L ((a : Int) + 1) (a + 1) = _
    rw [if_pos (Int.le_refl _), UU_none r L (Int.le_refl _), UU_none r L (a := (a : Int) + 1) (k := a + 1) (by omega), lsum_zero (P := fun p => tow a p && decide ((a : Int) ≤ p.1)) fun p hp => ?_, lsum_zero (P := fun p => frm a p && decide (p.2.1 < ((a + 1 + 0 : Nat) : Int))) fun p hp => ?_]
    · omega
    · have := hL p hp
      unfold frm
      by_cases z : p.1 = (a : Int)
      · rw [decide_eq_false (show ¬ p.2.1 < ((a + 1 + 0 : Nat) : Int) by omega), Bool.and_false]
      · rw [decide_eq_false z, Bool.false_and]
    · have := hL p hp
      unfold tow
      by_cases z : p.2.1 = (a : Int)
      · rw [decide_eq_false (show ¬ (a : Int) ≤ p.1 by omega), Bool.and_false]
      · rw [decide_eq_false z, Bool.false_and]
  | k + 1 => by
    have ih := UU_last r L hL a k
    show UU r L (a : Int) (a + 1 + k) + (if (a : Int) ≤ ((a + 1 + k : Nat) : Int) then r (a + 1 + k) - lsum (fun p => tow (a + 1 + k) p && decide ((a : Int) ≤ p.1)) L else 0) - (UU r L ((a : Int) + 1) (a + 1 + k) + (if (a : Int) + 1 ≤ ((a + 1 + k : Nat) : Int) then r (a + 1 + k) - lsum (fun p => tow (a + 1 + k) p && decide ((a : Int) + 1 ≤ p.1)) L else 0)) = _
    rw [if_pos (by omega), if_pos (by omega)]
    have e1 : lsum (fun p => tow (a + 1 + k) p && decide ((a : Int) ≤ p.1)) L = lsum (fun p => tow (a + 1 + k) p && decide ((a : Int) + 1 ≤ p.1)) L + lsum (fun p => frm a p && tow (a + 1 + k) p) L := lsum_add fun p hp => by
      unfold frm tow
      by_cases z : p.2.1 = ((a + 1 + k : Nat) : Int)
      · rw [decide_eq_true z]
        by_cases y : p.1 = (a : Int)
        · rw [decide_eq_true y, decide_eq_true (show (a : Int) ≤ p.1 by omega), decide_eq_false (show ¬ (a : Int) + 1 ≤ p.1 by omega)]
          simp
        · by_cases y2 : (a : Int) ≤ p.1
          · rw [decide_eq_false y, decide_eq_true y2, decide_eq_true (show (a : Int) + 1 ≤ p.1 by omega)]
            simp
          · rw [decide_eq_false y, decide_eq_false y2, decide_eq_false (show ¬ (a : Int) + 1 ≤ p.1 by omega)]
            simp
      · rw [decide_eq_false z]
        simp
    have e2 : lsum (fun p => frm a p && decide (p.2.1 < ((a + 1 + (k + 1) : Nat) : Int))) L = lsum (fun p => frm a p && decide (p.2.1 < ((a + 1 + k : Nat) : Int))) L + lsum (fun p => frm a p && tow (a + 1 + k) p) L := lsum_add fun p hp => by
      unfold tow
      by_cases z : p.2.1 = ((a + 1 + k : Nat) : Int)
      · rw [decide_eq_true z, decide_eq_true (show p.2.1 < ((a + 1 + (k + 1) : Nat) : Int) by omega), decide_eq_false (show ¬ p.2.1 < ((a + 1 + k : Nat) : Int) by omega)]
        simp
      · rw [decide_eq_false z]
        by_cases y : p.2.1 < ((a + 1 + k : Nat) : Int)
        · rw [decide_eq_true y, decide_eq_true (show p.2.1 < ((a + 1 + (k + 1) : Nat) : Int) by omega)]
          simp
        · rw [decide_eq_false y, decide_eq_false (show ¬ p.2.1 < ((a + 1 + (k + 1) : Nat) : Int) by omega)]
          simp
    rw [e1, e2]
    omega
/-- how many have a day as their first, as their last one -/
theorem fam_first (hN : NN f n w) (hJ : JOk f n w J) (w1 : 1 ≤ w) (pm : Routed f n w J fam) {d : Nat} (dn : d < n) : tot (fst' (d : Int)) fam = fr f w d - lsum (tow d) J := by
  have hM := fam_mem hN hJ w1 pm
  rw [tot_diff (ψ := fun p => hits p 0 (d : Int)) (χ := fun p => hits p 0 ((d : Int) - 1)) fun p hp => fst_hits (hM p hp).2]
  have u1 := fam_unl hN hJ w1 pm (Int.le_refl 0) (k := d + 1) (by omega)
  have u2 := fam_unl hN hJ w1 pm (Int.le_refl 0) (k := d) (by omega)
  rw [show ((d + 1 : Nat) : Int) - 1 = (d : Int) by omega] at u1
  rw [tot_unl, tot_unl, u1, u2]
  show UU _ _ 0 d + (if (0 : Int) ≤ (d : Int) then r0 f d - lsum (fun p => tow d p && decide (0 ≤ p.1)) (gAll f n w n ++ J) else 0) - UU _ _ 0 d = _
  have e : lsum (fun p => tow d p && decide (0 ≤ p.1)) (gAll f n w n ++ J) = lsum (tow d) (gAll f n w n ++ J) := lsum_ext fun p hp => by
    rw [decide_eq_true ((links_of hN hJ w1).ok p hp).1, Bool.and_true]
  rw [if_pos (by omega), e, lsum_app, gAll_inn dn w1]
  omega
theorem fam_last (hN : NN f n w) (hJ : JOk f n w J) (w1 : 1 ≤ w) (pm : Routed f n w J fam) {d : Nat} (dn : d < n) : tot (lst' (d : Int)) fam = aw f n w d - lsum (frm d) J := by
  have hM := fam_mem hN hJ w1 pm
  have hL := links_of hN hJ w1
  rw [tot_diff (ψ := fun p => hits p (d : Int) ((n : Int) - 1)) (χ := fun p => hits p ((d : Int) + 1) ((n : Int) - 1)) fun p hp => lst_hits (hM p hp).2 (by omega)]
  have u1 := fam_unl hN hJ w1 pm (a := (d : Int)) (by omega) (k := n) (Nat.le_refl _)
  have u2 := fam_unl hN hJ w1 pm (a := (d : Int) + 1) (by omega) (k := n) (Nat.le_refl _)
  rw [tot_unl, tot_unl, u1, u2]
  have ul := UU_last (r0 f) (gAll f n w n ++ J) (fun p hp => ⟨(hL.ok p hp).1, (hL.ok p hp).2.1⟩) d (n - (d + 1))
  rw [show d + 1 + (n - (d + 1)) = n by omega] at ul
  rw [ul, lsum_ext (Q := frm d) fun p hp => by rw [decide_eq_true (hL.ok p hp).2.2.1, Bool.and_true], lsum_app, gAll_out dn w1]
  omega
end
end K21

namespace K21
open PySem PySem.Spec PyProof.Rows L2 Fa
/-- away numbers from day a on; fresh numbers from the width behind it on -/
def awS (f : Nat → List Int) (n w : Nat) (a : Int) : Nat → Int := fun i => aw f n w (a + (i : Int))
def frS (f : Nat → List Int) (w : Nat) (a : Int) : Nat → Int := fun i => fr f w (a + (w : Int) + (i : Int))
def mS (w : Nat) (a b : Int) : Nat := (b - a - (w : Int) + 1).toNat
/-- the greatest number of a longer stretch -/
def vS (f : Nat → List Int) (w : Nat) (a b : Int) : Int := uu f a (a + (w : Int) - 1) + sa (frS f w a) (mS w a b)
def lgR (f : Nat → List Int) (n w : Nat) (a b : Int) : Two := if b - a < (w : Int) then (uu f a b, uu f a b) else (vS f w a b - (grd (awS f n w a) (frS f w a) (mS w a b)).2, vS f w a b)
end K21

namespace K21
open PySem PySem.Spec PyProof.Rows L2 Fa
/-! what a family with joins has in a stretch -/
section
variable {f : Nat → List Int} {n w : Nat} {J : List Tri} {fam : Fm}
theorem uu_low {a b : Int} (h : b < a) : uu f a b = 0 := by
  unfold uu
  rw [if_neg (by omega)]
def ins (a b : Nat) (p : Tri) : Bool := decide ((a : Int) ≤ p.1) && decide (p.2.1 ≤ (b : Int))
theorem UU_told (hJ : JOk f n w J) (w1 : 1 ≤ w) {a : Nat} : ∀ k : Nat, a + k < n → k < w → UU (r0 f) (gAll f n w n ++ J) (a : Int) (a + k + 1) = uu f (a : Int) ((a + k : Nat) : Int)
  | 0, hn, hw => by
    show UU _ _ (a : Int) a + (if (a : Int) ≤ (a : Int) then r0 f a - lsum (fun p => tow a p && decide ((a : Int) ≤ p.1)) (gAll f n w n ++ J) else 0) = uu f (a : Int) (a : Int)
    rw [UU_none _ _ (Int.le_refl _), if_pos (Int.le_refl _), lsum_app, gAll_tow_from (b := a) (s := a) (by omega) (Nat.le_refl _) fun c hc => by omega, lsum_zero (L := J) fun p hp => ?_, uu_low (b := (a : Int) - 1) (by omega)]
    · unfold r0
      omega
    · have := hJ.ok p hp
      unfold tow
      by_cases z : p.2.1 = (a : Int)
      · rw [decide_eq_false (show ¬ (a : Int) ≤ p.1 by omega), Bool.and_false]
      · rw [decide_eq_false z, Bool.false_and]
  | k + 1, hn, hw => by
    show UU _ _ (a : Int) (a + k + 1) + (if (a : Int) ≤ ((a + k + 1 : Nat) : Int) then r0 f (a + k + 1) - lsum (fun p => tow (a + k + 1) p && decide ((a : Int) ≤ p.1)) (gAll f n w n ++ J) else 0) = uu f (a : Int) ((a + k + 1 : Nat) : Int)
    rw [UU_told hJ w1 k (by omega) (by omega), if_pos (by omega), lsum_app, gAll_tow_from (s := a) (b := a + k + 1) hn (by omega) fun c hc => by omega, lsum_zero (L := J) fun p hp => ?_, show ((a + k + 1 : Nat) : Int) - 1 = ((a + k : Nat) : Int) by omega]
    · unfold r0
      omega
    · have := hJ.ok p hp
      unfold tow
      by_cases z : p.2.1 = ((a + k + 1 : Nat) : Int)
      · rw [decide_eq_false (show ¬ (a : Int) ≤ p.1 by omega), Bool.and_false]
      · rw [decide_eq_false z, Bool.false_and]
theorem UU_long (hJ : JOk f n w J) (w1 : 1 ≤ w) {a : Nat} : ∀ k : Nat, a + (w - 1) + k < n → UU (r0 f) (gAll f n w n ++ J) (a : Int) (a + (w - 1) + k + 1) = uu f (a : Int) ((a : Int) + (w : Int) - 1) + sa (frS f w (a : Int)) k - lsum (ins a (a + (w - 1) + k)) J
  | 0, hn => by
    rw [show a + (w - 1) + 0 = a + (w - 1) from rfl, UU_told hJ w1 (w - 1) (by omega) (by omega), lsum_zero fun p hp => ?_, show ((a + (w - 1) : Nat) : Int) = (a : Int) + (w : Int) - 1 by omega]
    · show _ = _ + 0 - 0
      omega
    · have := hJ.ok p hp
      unfold ins
      by_cases z : (a : Int) ≤ p.1
      · rw [decide_eq_false (show ¬ p.2.1 ≤ ((a + (w - 1) : Nat) : Int) by omega), Bool.and_false]
      · rw [decide_eq_false z, Bool.false_and]
  | k + 1, hn => by
    show UU _ _ (a : Int) (a + (w - 1) + k + 1) + (if (a : Int) ≤ ((a + (w - 1) + k + 1 : Nat) : Int) then r0 f (a + (w - 1) + k + 1) - lsum (fun p => tow (a + (w - 1) + k + 1) p && decide ((a : Int) ≤ p.1)) (gAll f n w n ++ J) else 0) = uu f (a : Int) ((a : Int) + (w : Int) - 1) + (sa (frS f w (a : Int)) k + frS f w (a : Int) k) - lsum (ins a (a + (w - 1) + k + 1)) J
    rw [UU_long hJ w1 k (by omega), if_pos (by omega), lsum_app, gAll_tow_from (s := a + k + 1) (b := a + (w - 1) + k + 1) (by omega) (by omega) fun c hc => by omega]
    have ei : lsum (ins a (a + (w - 1) + k + 1)) J = lsum (ins a (a + (w - 1) + k)) J + lsum (fun p => tow (a + (w - 1) + k + 1) p && decide ((a : Int) ≤ p.1)) J := lsum_add fun p hp => by
      unfold ins tow
      by_cases z : p.2.1 = ((a + (w - 1) + k + 1 : Nat) : Int)
      · rw [decide_eq_true z, decide_eq_true (show p.2.1 ≤ ((a + (w - 1) + k + 1 : Nat) : Int) by omega), decide_eq_false (show ¬ p.2.1 ≤ ((a + (w - 1) + k : Nat) : Int) by omega)]
        simp
      · rw [decide_eq_false z]
        by_cases y : p.2.1 ≤ ((a + (w - 1) + k : Nat) : Int)
        · rw [decide_eq_true y, decide_eq_true (show p.2.1 ≤ ((a + (w - 1) + k + 1 : Nat) : Int) by omega)]
          simp
        · rw [decide_eq_false y, decide_eq_false (show ¬ p.2.1 ≤ ((a + (w - 1) + k + 1 : Nat) : Int) by omega)]
          simp
    have ef : frS f w (a : Int) k = r0 f (a + (w - 1) + k + 1) - (uu f ((a + k + 1 : Nat) : Int) (((a + (w - 1) + k + 1 : Nat) : Int) - 1) - uu f ((a + k + 1 : Nat) : Int) ((a + (w - 1) + k + 1 : Nat) : Int) + uu f ((a + (w - 1) + k + 1 : Nat) : Int) ((a + (w - 1) + k + 1 : Nat) : Int)) := by
      unfold frS fr r0
      have e1 : (a : Int) + (w : Int) + (k : Int) = ((a + (w - 1) + k + 1 : Nat) : Int) := by omega
      have e2 : sF w ((a + (w - 1) + k + 1 : Nat) : Int) = ((a + k + 1 : Nat) : Int) := by
        unfold sF
        split <;> omega
      rw [e1, e2]
      omega
    rw [ei, ef]
    omega
/-- the number of a stretch in a family with joins -/
theorem fam_in (hN : NN f n w) (hJ : JOk f n w J) (w1 : 1 ≤ w) (pm : Routed f n w J fam) {a b : Nat} (ab : a ≤ b) (bn : b < n) : unl fam (a : Int) (b : Int) = if (b : Int) - (a : Int) < (w : Int) then uu f a b else vS f w a b - lsum (ins a b) J := by
  have u := fam_unl hN hJ w1 pm (a := (a : Int)) (by omega) (k := b + 1) (by omega)
  rw [show ((b + 1 : Nat) : Int) - 1 = (b : Int) by omega] at u
  rw [u]
  by_cases c : (b : Int) - (a : Int) < (w : Int)
  · rw [if_pos c]
    have := UU_told hJ w1 (a := a) (b - a) (by omega) (by omega)
    rw [show a + (b - a) = b by omega] at this
    exact this
  · rw [if_neg c]
    have := UU_long hJ w1 (a := a) (b - (a + (w - 1))) (by omega)
    rw [show a + (w - 1) + (b - (a + (w - 1))) = b by omega] at this
    rw [this]
    unfold vS mS
    rw [show ((b : Int) - (a : Int) - (w : Int) + 1).toNat = b - (a + (w - 1)) by omega]
theorem lsum_or {P Q R : Tri → Bool} {L : List Tri} (h0 : ∀ p ∈ L, 0 ≤ p.2.2) (h : ∀ p ∈ L, R p = true → P p = true ∨ Q p = true) : lsum R L ≤ lsum P L + lsum Q L := by
  induction L with
  | nil => exact Int.le_refl _
  | cons p L ih =>
    rw [lsum_cons, lsum_cons, lsum_cons]
    have i := ih (fun q hq => h0 q (List.mem_cons_of_mem _ hq)) fun q hq => h q (List.mem_cons_of_mem _ hq)
    have p0 := h0 p List.mem_cons_self
    have hp := h p List.mem_cons_self
    cases e : R p with
    | true =>
      rcases hp e with z | z
      · rw [z]
        simp only [if_true]
        split <;> omega
      · rw [z]
        simp only [if_true]
        split <;> omega
    | false =>
      simp only [Bool.false_eq_true, if_false]
      split <;> split <;> omega
theorem lsum_fromto (lo : Nat) : ∀ t : Nat, lsum (fun p => decide ((lo : Int) ≤ p.1) && decide (p.1 < ((lo + t : Nat) : Int))) J = sa (fun i => lsum (frm (lo + i)) J) t
  | 0 => lsum_zero fun p _ => by
    by_cases z : (lo : Int) ≤ p.1
    · rw [decide_eq_false (show ¬ p.1 < ((lo + 0 : Nat) : Int) by omega), Bool.and_false]
    · rw [decide_eq_false z, Bool.false_and]
  | t + 1 => by
    show _ = sa (fun i => lsum (frm (lo + i)) J) t + lsum (frm (lo + t)) J
    rw [← lsum_fromto lo t]
    refine lsum_add fun p _ => ?_
    unfold frm
    by_cases z : p.1 = ((lo + t : Nat) : Int)
    · rw [decide_eq_true z, decide_eq_true (show (lo : Int) ≤ p.1 by omega), decide_eq_true (show p.1 < ((lo + (t + 1) : Nat) : Int) by omega), decide_eq_false (show ¬ p.1 < ((lo + t : Nat) : Int) by omega)]
      simp
    · rw [decide_eq_false z]
      by_cases y : p.1 < ((lo + t : Nat) : Int)
      · rw [decide_eq_true y, decide_eq_true (show p.1 < ((lo + (t + 1) : Nat) : Int) by omega)]
        simp
      · rw [decide_eq_false y, decide_eq_false (show ¬ p.1 < ((lo + (t + 1) : Nat) : Int) by omega)]
        simp
theorem lsum_tofrom (lo : Nat) : ∀ t : Nat, lsum (fun p => decide ((lo : Int) ≤ p.2.1) && decide (p.2.1 < ((lo + t : Nat) : Int))) J = sa (fun i => lsum (tow (lo + i)) J) t
  | 0 => lsum_zero fun p _ => by
    by_cases z : (lo : Int) ≤ p.2.1
    · rw [decide_eq_false (show ¬ p.2.1 < ((lo + 0 : Nat) : Int) by omega), Bool.and_false]
    · rw [decide_eq_false z, Bool.false_and]
  | t + 1 => by
    show _ = sa (fun i => lsum (tow (lo + i)) J) t + lsum (tow (lo + t)) J
    rw [← lsum_tofrom lo t]
    refine lsum_add fun p _ => ?_
    unfold tow
    by_cases z : p.2.1 = ((lo + t : Nat) : Int)
    · rw [decide_eq_true z, decide_eq_true (show (lo : Int) ≤ p.2.1 by omega), decide_eq_true (show p.2.1 < ((lo + (t + 1) : Nat) : Int) by omega), decide_eq_false (show ¬ p.2.1 < ((lo + t : Nat) : Int) by omega)]
      simp
    · rw [decide_eq_false z]
      by_cases y : p.2.1 < ((lo + t : Nat) : Int)
      · rw [decide_eq_true y, decide_eq_true (show p.2.1 < ((lo + (t + 1) : Nat) : Int) by omega)]
        simp
      · rw [decide_eq_false y, decide_eq_false (show ¬ p.2.1 < ((lo + (t + 1) : Nat) : Int) by omega)]
        simp
theorem sa_mono {g h : Nat → Int} : ∀ {m : Nat}, (∀ i, i < m → g i ≤ h i) → sa g m ≤ sa h m
  | 0, _ => Int.le_refl _
  | m + 1, hh => by
    have a := sa_mono (m := m) fun i hi => hh i (by omega)
    have b := hh m (by omega)
    show sa g m + g m ≤ sa h m + h m
    omega
theorem ins_bd (hJ : JOk f n w J) {a b : Nat} (bn : b < n) (h : ¬ (b : Int) - (a : Int) < (w : Int)) : lsum (ins a b) J ≤ (grd (awS f n w a) (frS f w a) (mS w a b)).2 ∧ 0 ≤ lsum (ins a b) J := by
  have nn : ∀ p ∈ J, 0 ≤ p.2.2 := fun p hp => by have := (hJ.ok p hp).2.2.2; omega
  refine ⟨?_, lsum_nonneg nn⟩
  obtain ⟨⟨t, ht, et⟩, _⟩ := grd_least (awS f n w a) (frS f w a) (mS w a b)
  rw [← et]
  have eM : mS w a b = b + 1 - (a + w) := by
    unfold mS
    omega
  have o := lsum_or (P := fun p => decide ((a : Int) ≤ p.1) && decide (p.1 < ((a + t : Nat) : Int))) (Q := fun p => decide (((a + w + t : Nat) : Int) ≤ p.2.1) && decide (p.2.1 < ((a + w + t + (mS w a b - t) : Nat) : Int))) (R := ins a b) nn fun p hp z => by
    obtain ⟨z1, z2⟩ := He.ba z
    have z1 := of_decide_eq_true z1
    have z2 := of_decide_eq_true z2
    have := hJ.ok p hp
    by_cases y : p.1 < ((a + t : Nat) : Int)
    · exact .inl (Bool.and_eq_true_iff.mpr ⟨decide_eq_true z1, decide_eq_true y⟩)
    · exact .inr (Bool.and_eq_true_iff.mpr ⟨decide_eq_true (by omega), decide_eq_true (by omega)⟩)
  rw [lsum_fromto, lsum_tofrom] at o
  have m1 : sa (fun i => lsum (frm (a + i)) J) t ≤ sa (awS f n w a) t := sa_mono fun i hi => by
    have := hJ.out (a + i) (by omega)
    show _ ≤ aw f n w ((a : Int) + (i : Int))
    rw [show (a : Int) + (i : Int) = ((a + i : Nat) : Int) by omega]
    exact this
  have m2 : sa (fun i => lsum (tow (a + w + t + i)) J) (mS w a b - t) ≤ sa (fun i => frS f w a (t + i)) (mS w a b - t) := sa_mono fun i hi => by
    have := hJ.inn (a + w + t + i) (by omega)
    show _ ≤ fr f w ((a : Int) + (w : Int) + ((t + i : Nat) : Int))
    rw [show (a : Int) + (w : Int) + ((t + i : Nat) : Int) = ((a + w + t + i : Nat) : Int) by omega]
    exact this
  rw [sa_shift, show t + (mS w a b - t) = mS w a b by omega] at m2
  show _ ≤ sa _ t + (_ - _)
  omega
theorem fam_range (hN : NN f n w) (hJ : JOk f n w J) (w1 : 1 ≤ w) (pm : Routed f n w J fam) {a b : Nat} (ab : a ≤ b) (bn : b < n) : (lgR f n w a b).1 ≤ unl fam a b ∧ unl fam a b ≤ (lgR f n w a b).2 := by
  rw [fam_in hN hJ w1 pm ab bn]
  unfold lgR
  by_cases c : (b : Int) - (a : Int) < (w : Int)
  · rw [if_pos c, if_pos c]
    exact ⟨Int.le_refl _, Int.le_refl _⟩
  · rw [if_neg c, if_neg c]
    have := ins_bd hJ bn c
    dsimp only
    omega
/-! so many joins within a stretch -/
def aCl (f : Nat → List Int) (n w a b : Nat) : Nat → Int := fun i => if i < mS w a b then aw f n w ((a : Int) + (i : Int)) else 0
def fCl (f : Nat → List Int) (w a b : Nat) : Nat → Int := fun i => if i < mS w a b then fr f w ((a : Int) + (w : Int) + (i : Int)) else 0
def jW (f : Nat → List Int) (n w a b : Nat) (t : Int) : List Tri := (jout a w (fCl f w a b) (aCl f n w a b) t (mS w a b)).2.2
theorem grd_ext' {a f a' f' : Nat → Int} : ∀ {m : Nat}, (∀ i, i < m → a i = a' i ∧ f i = f' i) → grd a f m = grd a' f' m
  | 0, _ => rfl
  | m + 1, h => by
    have ih := grd_ext' (m := m) fun i hi => h i (by omega)
    obtain ⟨h1, h2⟩ := h m (by omega)
    show ((grd a f m).1 + a m - _, _) = ((grd a' f' m).1 + a' m - _, _)
    rw [ih, h1, h2]
theorem cl_pos (hN : NN f n w) {a b : Nat} (bn : b < n) (w1 : 1 ≤ w) : (∀ x, 0 ≤ aCl f n w a b x) ∧ ∀ x, 0 ≤ fCl f w a b x := by
  refine ⟨fun x => ?_, fun x => ?_⟩
  · unfold aCl mS
    split
    · exact hN.a0 _ (by omega) (by omega)
    · exact Int.le_refl _
  · unfold fCl mS
    split
    · exact hN.f0 _ (by omega) (by omega)
    · exact Int.le_refl _
theorem jW_ok (hN : NN f n w) (w1 : 1 ≤ w) {a b : Nat} (bn : b < n) (n30 : n ≤ 30) {t : Int} (t0 : 0 ≤ t) : JOk f n w (jW f n w a b t) ∧ (jW f n w a b t).length ≤ 900 ∧ lsum (ins a b) (jW f n w a b t) = mn2 t (grd (awS f n w a) (frS f w a) (mS w a b)).2 := by
  obtain ⟨h1, h2⟩ := cl_pos hN bn w1 (a := a)
  have O := jout_ok (a0 := a) (w := w) h1 h2 t0 (mS w a b)
  have m30 : mS w a b ≤ 30 := by
    unfold mS
    omega
  refine ⟨⟨fun p hp => ?_, O.nd, fun i hi => ?_, fun i hi => ?_⟩, ?_, ?_⟩
  · obtain ⟨x, y, m, h1, h2, h3, rfl⟩ := O.mem p hp
    unfold mS at h2
    exact ⟨by show (0 : Int) ≤ ((a + x : Nat) : Int); omega, by show ((a + x : Nat) : Int) + (w : Int) ≤ ((a + w + y : Nat) : Int); omega, by show ((a + w + y : Nat) : Int) < n; omega, h3⟩
  · have a0 := hN.a0 (i : Int) (by omega) (by omega)
    by_cases c : i < a
    · have := O.out i c
      show lsum (frm i) (jW f n w a b t) ≤ _
      unfold jW
      omega
    · have := O.fr (i - a)
      rw [show a + (i - a) = i by omega] at this
      have nn := O.A0 (i - a)
      have le : aCl f n w a b (i - a) ≤ aw f n w i := by
        unfold aCl
        split
        · rw [show (a : Int) + ((i - a : Nat) : Int) = (i : Int) by omega]
          exact Int.le_refl _
        · exact a0
      show lsum (frm i) (jW f n w a b t) ≤ _
      unfold jW
      omega
  · have f0 := hN.f0 (i : Int) (by omega) (by omega)
    have := O.to i
    show lsum (tow i) (jW f n w a b t) ≤ _
    refine Int.le_trans this ?_
    split
    · rename_i c
      unfold fCl
      split
      · rw [show (a : Int) + (w : Int) + ((i - (a + w) : Nat) : Int) = (i : Int) by omega]
        exact Int.le_refl _
      · exact f0
    · exact f0
  · have l := O.len
    have : mS w a b * mS w a b ≤ 30 * 30 := Nat.mul_le_mul m30 m30
    exact Nat.le_trans l this
  · have e : lsum (ins a b) (jW f n w a b t) = lsum anyT (jW f n w a b t) := lsum_ext fun p hp => by
      obtain ⟨x, y, m, h1, h2, h3, rfl⟩ := O.mem p hp
      unfold mS at h2
      show (decide ((a : Int) ≤ ((a + x : Nat) : Int)) && decide (((a + w + y : Nat) : Int) ≤ (b : Int))) = true
      rw [decide_eq_true (by omega), decide_eq_true (by omega)]
      rfl
    have g : grd (aCl f n w a b) (fCl f w a b) (mS w a b) = grd (awS f n w a) (frS f w a) (mS w a b) := grd_ext' fun i hi => by
      unfold aCl fCl
      rw [if_pos hi, if_pos hi]
      exact ⟨rfl, rfl⟩
    rw [e]
    show lsum anyT (jout a w (fCl f w a b) (aCl f n w a b) t (mS w a b)).2.2 = _
    rw [O.tot, O.grd, g]
/-- a family with a told number of a stretch -/
theorem fam_num (hN : NN f n w) (w1 : 1 ≤ w) {a b : Nat} (ab : a ≤ b) (bn : b < n) (n30 : n ≤ 30) {x : Int} (x0 : (lgR f n w a b).1 ≤ x) (x1 : x ≤ (lgR f n w a b).2) (pm : Routed f n w (jW f n w a b ((lgR f n w a b).2 - x)) fam) : unl fam a b = x := by
  obtain ⟨o, _, s⟩ := jW_ok hN w1 bn n30 (a := a) (t := (lgR f n w a b).2 - x) (by omega)
  rw [fam_in hN o w1 pm ab bn]
  unfold lgR at x0 x1 s ⊢
  by_cases c : (b : Int) - (a : Int) < (w : Int)
  · rw [if_pos c] at x0 x1 ⊢
    dsimp only at x0 x1
    omega
  · rw [if_neg c] at x0 x1 s ⊢
    dsimp only at x0 x1 s ⊢
    rw [if_neg c]
    dsimp only
    rw [s]
    unfold mn2
    split <;> omega
/-! ranges of stretches beside one another -/
theorem unl_cut (F : Fm) (h : ∀ p ∈ F, 0 ≤ p.2) {a c b : Int} : unl F a b ≤ unl F a c + unl F (c + 1) b := by
  induction F with
  | nil => exact Int.le_refl _
  | cons p F ih =>
    rw [unl_cons, unl_cons, unl_cons]
    have i := ih fun q hq => h q (List.mem_cons_of_mem _ hq)
    have p0 := h p List.mem_cons_self
    have z : hits p.1 a b = true → hits p.1 a c = true ∨ hits p.1 (c + 1) b = true := fun z => by
      obtain ⟨d, hd, z1, z2⟩ := hits_iff.mp z
      by_cases y : d ≤ c
      · exact .inl (hits_iff.mpr ⟨d, hd, z1, y⟩)
      · exact .inr (hits_iff.mpr ⟨d, hd, by omega, z2⟩)
    cases e : hits p.1 a b with
    | true =>
      rcases z e with y | y
      · rw [y]
        simp only [if_true]
        split <;> omega
      · rw [y]
        simp only [if_true]
        split <;> omega
    | false =>
      simp only [Bool.false_eq_true, if_false]
      split <;> split <;> omega
theorem grd_nonneg (hN : NN f n w) (w1 : 1 ≤ w) {a b : Nat} (bn : b < n) : 0 ≤ (grd (awS f n w a) (frS f w a) (mS w a b)).2 := by
  have := ins_bd (jok_nil hN) (a := a) (b := b) bn
  by_cases c : (b : Int) - (a : Int) < (w : Int)
  · have e : mS w a b = 0 ∨ mS w a b = 0 := by
      unfold mS
      omega
    rw [e.elim id id]
    exact Int.le_refl _
  · have := this c
    omega
theorem lgR_le (hN : NN f n w) (w1 : 1 ≤ w) {a b : Nat} (bn : b < n) : (lgR f n w a b).1 ≤ (lgR f n w a b).2 := by
  have := grd_nonneg hN w1 bn (a := a)
  unfold lgR
  split
  · exact Int.le_refl _
  · dsimp only
    omega
/-- a family at each end of a stretch -/
theorem ends (hN : NN f n w) (w1 : 1 ≤ w) {a b : Nat} (ab : a ≤ b) (bn : b < n) (n30 : n ≤ 30) {x : Int} (x0 : (lgR f n w a b).1 ≤ x) (x1 : x ≤ (lgR f n w a b).2) :
    ∃ F : Fm, (∀ p ∈ F, 0 ≤ p.2) ∧ unl F a b = x ∧ ∀ c d : Nat, c ≤ d → d < n → (lgR f n w c d).1 ≤ unl F c d ∧ unl F c d ≤ (lgR f n w c d).2 := by
  obtain ⟨o, _, s⟩ := jW_ok hN w1 bn n30 (a := a) (t := (lgR f n w a b).2 - x) (by omega)
  obtain ⟨F, R⟩ := routed_is f n w (jW f n w a b ((lgR f n w a b).2 - x))
  refine ⟨F, fun p hp => ?_, fam_num hN w1 ab bn n30 x0 x1 R, fun c d cd dn => fam_range hN o w1 R cd dn⟩
  have := (fam_mem hN o w1 R p hp).1
  omega
theorem cut_ok (hN : NN f n w) (w1 : 1 ≤ w) {a c b : Nat} (ac : a ≤ c) (cb : c < b) (bn : b < n) (n30 : n ≤ 30) :
    (lgR f n w a b).2 ≤ (lgR f n w a c).2 + (lgR f n w ((c + 1 : Nat) : Int) b).2 ∧ (lgR f n w a c).1 ≤ (lgR f n w a b).1 ∧ (lgR f n w ((c + 1 : Nat) : Int) b).1 ≤ (lgR f n w a b).1 := by
  have le := lgR_le hN w1 bn (a := a)
  obtain ⟨F, p0, e, r⟩ := ends hN w1 (a := a) (b := b) (by omega) bn n30 le (Int.le_refl _)
  obtain ⟨F', p0', e', r'⟩ := ends hN w1 (a := a) (b := b) (by omega) bn n30 (Int.le_refl _) le
  have u := unl_cut F p0 (a := (a : Int)) (c := (c : Int)) (b := (b : Int))
  have r1 := r a c ac (by omega)
  have r2 := r (c + 1) b (by omega) bn
  have q1 := r' a c ac (by omega)
  have q2 := r' (c + 1) b (by omega) bn
  have m1 := unl_mono p0' (b := (a : Int)) (b' := (a : Int)) (e := (c : Int)) (e' := (b : Int)) (by omega) (by omega)
  have m2 := unl_mono p0' (b := ((c + 1 : Nat) : Int)) (b' := (a : Int)) (e := (b : Int)) (e' := (b : Int)) (by omega) (by omega)
  rw [show (c : Int) + 1 = ((c + 1 : Nat) : Int) by omega] at u
  omega
theorem more_ok (hN : NN f n w) (w1 : 1 ≤ w) {a b : Nat} (ab : a ≤ b) (bn : b + 1 < n) (n30 : n ≤ 30) :
    (lgR f n w a b).1 ≤ (lgR f n w a ((b + 1 : Nat) : Int)).1 ∧ (lgR f n w a ((b + 1 : Nat) : Int)).1 ≤ (lgR f n w a b).1 + uu f ((b + 1 : Nat) : Int) ((b + 1 : Nat) : Int) := by
  obtain ⟨F, p0, e, r⟩ := ends hN w1 (a := a) (b := b + 1) (by omega) bn n30 (Int.le_refl _) (lgR_le hN w1 bn)
  obtain ⟨F', p0', e', r'⟩ := ends hN w1 (a := a) (b := b) ab (by omega) n30 (Int.le_refl _) (lgR_le hN w1 (by omega))
  have r1 := r a b ab (by omega)
  have m1 := unl_mono p0 (b := (a : Int)) (b' := (a : Int)) (e := (b : Int)) (e' := ((b + 1 : Nat) : Int)) (by omega) (by omega)
  have q1 := r' a (b + 1) (by omega) bn
  have q2 := r' (b + 1) (b + 1) (Nat.le_refl _) bn
  have u := unl_cut F' p0' (a := (a : Int)) (c := (b : Int)) (b := ((b + 1 : Nat) : Int))
  rw [show (b : Int) + 1 = ((b + 1 : Nat) : Int) by omega] at u
  have l : lgR f n w ((b + 1 : Nat) : Int) ((b + 1 : Nat) : Int) = (uu f ((b + 1 : Nat) : Int) ((b + 1 : Nat) : Int), uu f ((b + 1 : Nat) : Int) ((b + 1 : Nat) : Int)) := by
    unfold lgR
    rw [if_pos (by omega)]
  rw [l] at q2
  dsimp only at q2
  omega
theorem more_top (w1 : 1 ≤ w) {a b : Nat} (ab : a ≤ b) (h : (w : Int) ≤ (b : Int) + 1 - (a : Int)) : (lgR f n w a ((b + 1 : Nat) : Int)).2 = (lgR f n w a b).2 + fr f w ((b + 1 : Nat) : Int) := by
  unfold lgR
  rw [if_neg (by omega)]
  have e : mS w a ((b + 1 : Nat) : Int) = mS w a b + 1 := by
    unfold mS
    omega
  have ev : vS f w a ((b + 1 : Nat) : Int) = uu f a ((a : Int) + (w : Int) - 1) + sa (frS f w a) (mS w a b) + fr f w ((b + 1 : Nat) : Int) := by
    unfold vS
    rw [e]
    show _ + (sa (frS f w a) (mS w a b) + fr f w ((a : Int) + (w : Int) + ((mS w a b : Nat) : Int))) = _
    have : (a : Int) + (w : Int) + ((mS w a b : Nat) : Int) = ((b + 1 : Nat) : Int) := by
      unfold mS
      omega
    rw [this]
    omega
  by_cases c : (b : Int) - (a : Int) < (w : Int)
  · rw [if_pos c]
    dsimp only
    have m0 : mS w a b = 0 := by
      unfold mS
      omega
    rw [ev, m0, show (a : Int) + (w : Int) - 1 = (b : Int) by omega]
    show _ + 0 + _ = _
    omega
  · rw [if_neg c]
    dsimp only
    rw [ev]
    rfl
end
end K21

/-! what a law's jar may change, where lambdas are made on the way -/
namespace Fa
open PySem PySem.Spec PyProof.Rows L2 LamX
section
variable {H H' H1 H2 : Hp} {p b g : Addr}
theorem Nt.far (n : Nt H' b) (x : ExtN H H') : Nt H b := fun o e => by
  by_cases c : ∃ ps, o = .tbl ps
  · exact c
  · exact n o (x _ _ e fun ps y => c ⟨ps, y⟩)
theorem Nt.of (n : H b = none) : Nt H b := fun o e => by
  rw [n] at e
  cases e
def KpN (p : Addr) (H H' : Hp) : Prop := ∀ b o, b ≠ p → H b = some o → (∀ ps, o ≠ .tbl ps) → H' b = some o
theorem Kp.n (k : Kp p H H') : KpN p H H' := fun b o h e _ => k b o h e
theorem KpN.refl (p : Addr) (H : Hp) : KpN p H H := fun _ _ _ e _ => e
theorem KpN.trans (a : KpN p H H1) (c : KpN p H1 H2) : KpN p H H2 := fun b o h e n => c b o h (a b o h e n) n
theorem kpn_x (x : ExtN H H') : KpN p H H' := fun b o _ e n => x b o e n
theorem kpn_old (n : Nt H p) (x : ExtN H H1) (k : KpN p H1 H2) : ExtN H H2 := fun b o e h => k b o (fun z => by
  subst z
  obtain ⟨ps, y⟩ := n o e
  exact h ps y) (x b o e h) h
theorem tabs_kp {T : List (Addr × Str)} {l : List V} (t : Tabs T H) (k : Kp p H H') (hp : H p = some (.lst l)) : Tabs T H' := fun q hq => by
  obtain ⟨ps, e, a, c⟩ := t q hq
  refine ⟨ps, k _ _ (fun z => by rw [z, hp] at e; cases e) e, a, fun pos cv h => ?_⟩
  obtain ⟨c0, e1, e2⟩ := c pos cv h
  exact ⟨c0, e1, k _ _ (fun z => by rw [z, hp] at e2; cases e2) e2⟩
theorem GridAt.kpN {rows : List Addr} {n : Nat} {f : Nat → List Int} (h : GridAt H g rows n f) (k : KpN p H H') (ng : g ≠ p) (nr : p ∉ rows) : GridAt H' g rows n f :=
  ⟨k _ _ ng h.top (fun _ z => by cases z), h.cnt, h.nd, h.out, fun s r e => k _ _ (fun z => nr (by rw [← z]; exact List.mem_of_getElem? e)) (h.row s r e) (fun _ z => by cases z)⟩
theorem FamAt.kpN {a : Addr} {fam : Fm} {l : List V} (h : FamAt H a fam) (k : KpN p H H') (ne : a ≠ p) (hp : H p = some (.lst l)) : FamAt H' a fam :=
  h.keep (fun _ e => k _ _ ne e (fun _ z => by cases z)) fun _ _ e => k _ _ (ne_of e hp (fun z => by cases z)) e (fun _ z => by cases z)
end
end Fa

namespace K21
open PySem PySem.Spec PyProof.Rows L2 Fa
abbrev s_has_sheet : Stmt := topS 40
abbrev N_has_sheet : List Str := ["sheet", "thing", "days"]
theorem sc_has_sheet : FnScope N_has_sheet ["sheet", "thing"] (defScope s_has_sheet) := ⟨rfl, rfl, rfl, by decide +kernel, rfl, by decide +kernel, by decide +kernel⟩
section
variable {f : Nat → List Int} {n w : Nat} {fam : Fm}
theorem fam_sheet (hf : Shf n w f) (hN : NN f n w) (pm : Routed f n w [] fam) {s : Nat} (hs : s < n) : shRow fam s w = f s := by
  have w1 := hf.w1
  have hl := hf.len s hs
  refine List.ext_getElem? fun i => ?_
  by_cases hi : i < min (s + 1) w
  · have e := fam_in hN (jok_nil hN) w1 pm (a := s - i) (b := s) (by omega) hs
    rw [if_pos (by omega)] at e
    have g := uu_get hf (a := ((s - i : Nat) : Int)) (b := (s : Int)) (by omega) fun _ => ⟨by omega, by omega, by omega⟩
    rw [show ((s : Int)).toNat = s by omega, show ((s : Int) - ((s - i : Nat) : Int)).toNat = i by omega] at g
    rw [g, ← e, shRow_at (fam := fam) (d := s) (w := w) (k := i) hi]
    rw [show ((s - i : Nat) : Int) = (s : Int) - (i : Int) by omega]
  · have l := shRow_len fam s w
    rw [List.getElem?_eq_none (l := shRow fam s w) (by omega), List.getElem?_eq_none (l := f s) (by omega)]
theorem fam_len0 (hN : NN f n w) (w1 : 1 ≤ w) (n30 : n ≤ 30) (pm : Routed f n w [] fam) : fam.length ≤ 960 := by
  obtain ⟨o, v, hO, pm⟩ := pm
  have R := route_ok hO (links_of hN (jok_nil hN) w1) n (Nat.le_refl _)
  have l0 := R.len
  rw [Nat.sub_self] at l0
  have l0 : ((route (r0 f) (gAll f n w n ++ ([] : List Tri)) o v n).2.length : Int) + 0 ≤ 2 * (n : Int) + (((gAll f n w n ++ ([] : List Tri)).filter fun p : Tri => decide (p.1 < (n : Int))).length : Int) := l0
  have l1 := List.length_filter_le (fun p : Tri => decide (p.1 < (n : Int))) (gAll f n w n ++ ([] : List Tri))
  have l2 := gAll_len f (w := w) n30 n
  rw [List.length_append] at l1
  rw [pm.length_eq]
  have : ([] : List Tri).length = 0 := rfl
  omega
theorem bnd_ex : ∀ F : Fm, ∃ c, ∀ p ∈ F, p.2 ≤ c
  | [] => ⟨0, fun p hp => nomatch hp⟩
  | p :: F => by
    obtain ⟨c, h⟩ := bnd_ex F
    refine ⟨if p.2 ≤ c then c else p.2, fun q hq => ?_⟩
    rcases List.mem_cons.mp hq with rfl | hq
    · split <;> omega
    · have := h q hq
      split <;> omega
theorem fam_fam (hN : NN f n w) (w1 : 1 ≤ w) (pm : Routed f n w [] fam) (as : fam.Pairwise (fun p q => HT.lexLt p.1 q.1 = true)) : ∃ c, Fam (n : Int) c fam := by
  obtain ⟨c, hc⟩ := bnd_ex fam
  exact ⟨c, as, fun p hp => (fam_mem hN (jok_nil hN) w1 pm p hp).2, fun p hp => ⟨(fam_mem hN (jok_nil hN) w1 pm p hp).1, hc p hp⟩⟩
end
section
variable {P : Program} {w : World} {K : PySem.W.Frag} {mg : Str → Option Value} {base : Heap}
def spHas : Sp := fun vs H Q _ => ∃ (g a : Addr) (n w : Nat) (f : Nat → List Int) (fam : Fm), vs = [.ref g, .ref a] ∧ ShAt H g n w f ∧ FamAt H a fam ∧ FmOk n fam ∧ (∀ s, s < n → shRow fam s w = f s) ∧ ∀ H', Same H H' → Q (.bl true) H'
theorem ok_has {f : Addr} {fd : FuncData} {k : Nat} (F : Fun K "has_sheet" "has_sheet" s_has_sheet f fd) {f_check_sheet : Addr} {d_check_sheet : FuncData} (F_check_sheet : Fun K "check_sheet" "check_sheet" s_check_sheet f_check_sheet d_check_sheet) (G_check_sheet : FnOk P w K mg base CX0 k f_check_sheet d_check_sheet ["sheet"] spCkSh) (b_check_sheet : Binds K d_check_sheet ["sheet"] []) (g_check_sheet : mg "check_sheet" = some (.ref f_check_sheet)) {f_is_family_below : Addr} {d_is_family_below : FuncData} (F_is_family_below : Fun K "is_family_below" "is_family_below" s_is_family_below f_is_family_below d_is_family_below) (G_is_family_below : FnOk P w K mg base CX0 k f_is_family_below d_is_family_below ["thing", "count"] spFamB) (b_is_family_below : Binds K d_is_family_below ["thing", "count"] []) (g_is_family_below : mg "is_family_below" = some (.ref f_is_family_below)) {f_sheet_of : Addr} {d_sheet_of : FuncData} (F_sheet_of : Fun K "sheet_of" "sheet_of" s_sheet_of f_sheet_of d_sheet_of) (G_sheet_of : FnOk P w K mg base CX0 k f_sheet_of d_sheet_of ["family", "count", "width"] spSheetOf) (b_sheet_of : Binds K d_sheet_of ["family", "count", "width"] []) (g_sheet_of : mg "sheet_of" = some (.ref f_sheet_of)) (m_len : mg "len" = none) : FnOk P w K mg base CX0 (k + 1) f fd ["sheet", "thing"] spHas := by
  refine F.ok sc_has_sheet (fun vs H Q E h => ?_) (fun cdv A outer s H vs Q E hr h => ?_)
  · obtain ⟨g, a, _, _, _, _, rfl, _⟩ := h
    rfl
  · obtain ⟨g, a, n, m, f, fam, rfl, hS, hF, ok, eq, q⟩ := h
    refine ⟨_, (pss_cons (ps_expr (pe_call G_check_sheet (hr.mono (by omega)) (by rfl) g_check_sheet F_check_sheet.kp b_check_sheet .nil pass0 (pa_cons (pv 0) pa_nil)))
  (pss_cons (ps_set (i := 2) sc_has_sheet.nd rfl (by first | exact Or.inl rfl | exact Or.inr rfl) (pe_callB (Fa.lenQ K) (by rfl) m_len PySem.boot_len (pa_cons (pv 0) pa_nil)))
  (pss_one (ps_ret (pe_and (pe_call G_is_family_below (hr.mono (by omega)) (by rfl) g_is_family_below F_is_family_below.kp b_is_family_below .nil pass0 (pa_cons (pv 1) (pa_cons (pv 2) pa_nil))) (pe_one (pe_cmpR (Fa.eqQ K hr.units) (pe_call G_sheet_of (hr.mono (by omega)) (by rfl) g_sheet_of F_sheet_of.kp b_sheet_of .nil pass0 (pa_cons (pv 1) (pa_cons (pv 2) (pa_cons (pe_callB (Fa.lenQ K) (by rfl) m_len PySem.boot_len (pa_cons (pe_ix (Fa.ixL K) (pv 0) (pe_un un_neg pe_int) (fun _ _ => rfl)) pa_nil)) pa_nil)))) (pv 0) (nomark _)))))))), ?_⟩
    refine ⟨_, rfl, g, n, m, f, rfl, hS, fun H1 s1 => ?_⟩
    have hS1 := hS.same s1
    obtain ⟨⟨rows, G⟩, hf⟩ := id hS1
    have rl : (rows.map V.ref).length = n := by rw [List.length_map, G.cnt]
    refine ⟨_, rfl, g, _, rfl, .inl (.inl (.inl G.top)), ?_⟩
    rw [rl]
    refine ⟨_, rfl, _, rfl, a, fam, n, rfl, hF.same s1, ok, fun H2 s2 => ⟨_, rfl, iteT ?_⟩⟩
    have s12 := s1.trans s2
    obtain ⟨⟨rows2, G2⟩, _⟩ := id (hS.same s12)
    obtain ⟨r, ea, er, hr'⟩ := G2.last hf.n1
    refine ⟨_, rfl, _, rfl, _, rfl, 1, rfl, g, _, _, _, rfl, rfl, .inl (.inl G2.top), ea, r, _, rfl, .inl (.inl (.inl hr')), ?_⟩
    rw [List.length_map, hf.last]
    refine ⟨a, fam, n, m, rfl, hF.same s12, ok, hf.w1, hf.wn, fun H3 g3 rows3 s3 ng nr G3 => ?_⟩
    have G3' : GridAt H3 g3 rows3 n f := G3.ext fun s hs => eq s hs
    refine ⟨_, rfl, gridD n f, gridD n f, G3'.dp, (G2.same s3).dp, (gridD_shp 0 n f).shaped (by decide), (gridD_shp 0 n f).shaped (by decide), ?_⟩
    rw [eqv_same _ (gridD_shp 0 n f).1]
    exact q _ (s12.trans s3)
end
end K21

namespace K21
open PySem PySem.Spec PyProof.Rows L2 Fa
abbrev s_new_on : Stmt := topS 42
abbrev N_new_on : List Str := ["sheet", "day", "fresh", "joinable", "earlier"]
theorem sc_new_on : FnScope N_new_on ["sheet", "day"] (defScope s_new_on) := ⟨rfl, rfl, rfl, by decide +kernel, rfl, by decide +kernel, by decide +kernel⟩
abbrev s_gone_from : Stmt := topS 43
abbrev N_gone_from : List Str := ["sheet", "day", "away", "joinable", "later"]
theorem sc_gone_from : FnScope N_gone_from ["sheet", "day"] (defScope s_gone_from) := ⟨rfl, rfl, rfl, by decide +kernel, rfl, by decide +kernel, by decide +kernel⟩
/-- at least 0 -/
def mx0 (x : Int) : Int := if x > 0 then x else 0
/-- away numbers of the days that are the width or more ahead of day d; fresh numbers of those behind -/
def jA (f : Nat → List Int) (n w : Nat) (d : Int) : Int := sa (fun i => aw f n w (i : Int)) (d - (w : Int) + 1).toNat
def jF (f : Nat → List Int) (n w : Nat) (d : Int) : Int := sa (fun i => fr f w (d + (w : Int) + (i : Int))) ((n : Int) - (d + (w : Int))).toNat
def newR (f : Nat → List Int) (n w : Nat) (d : Int) : Two := (mx0 (fr f w d - jA f n w d), fr f w d)
def goneR (f : Nat → List Int) (n w : Nat) (d : Int) : Two := (mx0 (aw f n w d - jF f n w d), aw f n w d)
def nextR (f : Nat → List Int) (n w : Nat) (a b : Int) : Two := if b - a < (w : Int) then (gp f a b, gp f a b) else (0, if fr f w b < aw f n w a then fr f w b else aw f n w a)
section
variable {P : Program} {w : World} {K : PySem.W.Frag} {mg : Str → Option Value} {base : Heap}
def spNewOn : Sp := fun vs H Q _ => ∃ (g : Addr) (n w : Nat) (f : Nat → List Int) (d : Int), vs = [.ref g, .int d] ∧ ShAt H g n w f ∧ 0 ≤ d ∧ d < n ∧ ∀ H' x, Same H H' → TwoAt H' x (newR f n w d) → Q x H'
def spGoneF : Sp := fun vs H Q _ => ∃ (g : Addr) (n w : Nat) (f : Nat → List Int) (d : Int), vs = [.ref g, .int d] ∧ ShAt H g n w f ∧ 0 ≤ d ∧ d < n ∧ ∀ H' x, Same H H' → TwoAt H' x (goneR f n w d) → Q x H'
theorem ok_newon {f fA fF : Addr} {fd dA dF : FuncData} {k : Nat} (F : Fun K "new_on" "new_on" s_new_on f fd)
    (F_away_from : Fun K "away_from" "away_from" s_away_from fA dA) (G_away_from : FnOk P w K mg base CX0 k fA dA ["sheet", "day"] spAwF) (b_away_from : Binds K dA ["sheet", "day"] []) (g_away_from : mg "away_from" = some (.ref fA))
    (F_fresh_on : Fun K "fresh_on" "fresh_on" s_fresh_on fF dF) (G_fresh_on : FnOk P w K mg base CX0 k fF dF ["sheet", "day"] spFrO) (b_fresh_on : Binds K dF ["sheet", "day"] []) (g_fresh_on : mg "fresh_on" = some (.ref fF))
    (m_len : mg "len" = none) (m_range : mg "range" = none) (m_sum : mg "sum" = none) (m_max : mg "max" = none) : FnOk P w K mg base CX0 (k + 1) f fd ["sheet", "day"] spNewOn := by
  refine F.ok sc_new_on (fun vs H Q E h => ?_) (fun cdv A outer s H vs Q E hr h => ?_)
  · obtain ⟨g, _, _, _, _, rfl, _⟩ := h
    rfl
  · obtain ⟨g, n, m, f, d, rfl, hS, d0, dn, q⟩ := h
    refine ⟨_, (pss_cons (ps_set (i := 2) sc_new_on.nd rfl (by first | exact Or.inl rfl | exact Or.inr rfl) (pe_call G_fresh_on (hr.mono (by omega)) (by rfl) g_fresh_on F_fresh_on.kp b_fresh_on .nil pass0 (pa_cons (pv 0) (pa_cons (pv 1) pa_nil))))
  (pss_cons (ps_set (i := 3) sc_new_on.nd rfl (by first | exact Or.inl rfl | exact Or.inr rfl) (pe_callB (Fa.sumQ K rfl) (by rfl) m_sum Fa.b_sum (pa_cons (pe_lc (own := [("earlier", 4)]) (g := (gName 4)) (tt := tYes) rfl sc_new_on.nd (pi_range1 (by rfl) m_range (pa_cons (pe_op op_add (pe_op op_sub (pv 1) (pe_callB (Fa.lenQ K) (by rfl) m_len PySem.boot_len (pa_cons (pe_ix (Fa.ixL K) (pv 0) (pe_un un_neg pe_int) (fun _ _ => rfl)) pa_nil))) pe_int) pa_nil)) (blkOk_by (N := N_new_on) (sc := defScope s_new_on) (by decide +kernel)) (fun _ _ _ _ _ => (pg_name (i := 4) sc_new_on.nd rfl (by first | exact Or.inl rfl | exact Or.inr rfl))) (fun _ _ _ _ _ => pts_nil) (fun _ _ _ _ _ => (pe_call G_away_from (hr.mono (by omega)) (by rfl) g_away_from F_away_from.kp b_away_from .nil pass0 (pa_cons (pv 0) (pa_cons (pv 4) pa_nil))))) pa_nil)))
  (pss_one (ps_ret (pe_tup (pa_cons (pe_callB (call_max2 rfl) (by rfl) m_max PyProof.Rows.boot_max (pa_cons pe_int (pa_cons (pe_op op_sub (pv 2) (pv 3)) pa_nil))) (pa_cons (pv 2) pa_nil))))))), ?_⟩
    have n30 := hS.2.n30
    have w1 := hS.2.w1
    have wn := hS.2.wn
    refine ⟨_, rfl, _, rfl, g, n, m, f, d, rfl, hS, d0, dn, ?_⟩
    obtain ⟨⟨rows, G⟩, hf⟩ := id hS
    obtain ⟨r, ea, er, hr'⟩ := G.last hf.n1
    refine ⟨_, rfl, _, rfl, 1, rfl, g, _, _, _, rfl, rfl, .inl (.inl G.top), ea, r, _, rfl, .inl (.inl (.inl hr')), _, _, rfl, rfl, _, _, rfl, rfl, _, rfl, ?_, ?_, fun D nD => ?_⟩
    · rw [List.length_map, hf.last]
      omega
    · rw [List.length_map, hf.last]
      omega
    · rw [List.length_map, hf.last]
      refine lc_rangeI (lo := 0) (fun i => aw f n m (i : Int)) (by omega) (Same.refl H) nD (fun i H2 Qe hi s2 qe => ⟨rfl, _, rfl, _, rfl, g, n, m, f, _, rfl, hS.same s2, by omega, by omega, ?_⟩) fun H2 s2 e2 => ?_
      · have z := qe _ (Same.refl _)
        rw [show (0 : Int) + (i : Int) = (i : Int) by omega]
        exact z
      · refine ⟨D, nums (fun i => aw f n m (i : Int)) (d - (m : Int) + 1).toNat, rfl, .inl (.inl e2), ?_⟩
        refine ⟨_, rfl, _, rfl, _, _, rfl, rfl, 0, _, rfl, _, rfl, by show 2 ≤ sizeLine; decide, fun T nT => q _ _ (s2.trans (same_new nT)) ⟨T, rfl, ?_⟩⟩
        unfold newR mx0 jA
        rw [← sa_sum]
        exact upd_same
theorem ok_gonef {f : Addr} {fd : FuncData} {k : Nat} (F : Fun K "gone_from" "gone_from" s_gone_from f fd) {f_away_from : Addr} {d_away_from : FuncData} (F_away_from : Fun K "away_from" "away_from" s_away_from f_away_from d_away_from) (G_away_from : FnOk P w K mg base CX0 k f_away_from d_away_from ["sheet", "day"] spAwF) (b_away_from : Binds K d_away_from ["sheet", "day"] []) (g_away_from : mg "away_from" = some (.ref f_away_from)) {f_fresh_on : Addr} {d_fresh_on : FuncData} (F_fresh_on : Fun K "fresh_on" "fresh_on" s_fresh_on f_fresh_on d_fresh_on) (G_fresh_on : FnOk P w K mg base CX0 k f_fresh_on d_fresh_on ["sheet", "day"] spFrO) (b_fresh_on : Binds K d_fresh_on ["sheet", "day"] []) (g_fresh_on : mg "fresh_on" = some (.ref f_fresh_on)) (m_len : mg "len" = none) (m_range : mg "range" = none) (m_sum : mg "sum" = none) (m_max : mg "max" = none) : FnOk P w K mg base CX0 (k + 1) f fd ["sheet", "day"] spGoneF := by
  refine F.ok sc_gone_from (fun vs H Q E h => ?_) (fun cdv A outer s H vs Q E hr h => ?_)
  · obtain ⟨g, _, _, _, _, rfl, _⟩ := h
    rfl
  · obtain ⟨g, n, m, f, d, rfl, hS, d0, dn, q⟩ := h
    refine ⟨_, (pss_cons (ps_set (i := 2) sc_gone_from.nd rfl (by first | exact Or.inl rfl | exact Or.inr rfl) (pe_call G_away_from (hr.mono (by omega)) (by rfl) g_away_from F_away_from.kp b_away_from .nil pass0 (pa_cons (pv 0) (pa_cons (pv 1) pa_nil))))
  (pss_cons (ps_set (i := 3) sc_gone_from.nd rfl (by first | exact Or.inl rfl | exact Or.inr rfl) (pe_callB (Fa.sumQ K rfl) (by rfl) m_sum Fa.b_sum (pa_cons (pe_lc (own := [("later", 4)]) (g := (gName 4)) (tt := tYes) rfl sc_gone_from.nd (pi_range2 (by rfl) m_range (pa_cons (pe_op op_add (pv 1) (pe_callB (Fa.lenQ K) (by rfl) m_len PySem.boot_len (pa_cons (pe_ix (Fa.ixL K) (pv 0) (pe_un un_neg pe_int) (fun _ _ => rfl)) pa_nil))) (pa_cons (pe_callB (Fa.lenQ K) (by rfl) m_len PySem.boot_len (pa_cons (pv 0) pa_nil)) pa_nil))) (blkOk_by (N := N_gone_from) (sc := defScope s_gone_from) (by decide +kernel)) (fun _ _ _ _ _ => (pg_name (i := 4) sc_gone_from.nd rfl (by first | exact Or.inl rfl | exact Or.inr rfl))) (fun _ _ _ _ _ => pts_nil) (fun _ _ _ _ _ => (pe_call G_fresh_on (hr.mono (by omega)) (by rfl) g_fresh_on F_fresh_on.kp b_fresh_on .nil pass0 (pa_cons (pv 0) (pa_cons (pv 4) pa_nil))))) pa_nil)))
  (pss_one (ps_ret (pe_tup (pa_cons (pe_callB (call_max2 rfl) (by rfl) m_max PyProof.Rows.boot_max (pa_cons pe_int (pa_cons (pe_op op_sub (pv 2) (pv 3)) pa_nil))) (pa_cons (pv 2) pa_nil))))))), ?_⟩
    have n30 := hS.2.n30
    have w1 := hS.2.w1
    have wn := hS.2.wn
    obtain ⟨⟨rows, G⟩, hf⟩ := id hS
    have rl : (rows.map V.ref).length = n := by rw [List.length_map, G.cnt]
    obtain ⟨r, ea, er, hr'⟩ := G.last hf.n1
    refine ⟨_, rfl, _, rfl, g, n, m, f, d, rfl, hS, d0, dn, ?_⟩
    refine ⟨_, rfl, _, rfl, 1, rfl, g, _, _, _, rfl, rfl, .inl (.inl G.top), ea, r, _, rfl, .inl (.inl (.inl hr')), _, _, rfl, rfl, _, rfl, g, _, rfl, .inl (.inl (.inl G.top)), _, _, rfl, ?_, fun D nD => ?_⟩
    · rw [List.length_map, hf.last, rl]
      exact ⟨by omega, by omega, by omega, by omega⟩
    · rw [List.length_map, hf.last, rl]
      refine lc_rangeI (lo := d + (m : Int)) (fun i => fr f m (d + (m : Int) + (i : Int))) (by omega) (Same.refl H) nD (fun i H3 Qe hi s3 qe => ⟨rfl, _, rfl, _, rfl, g, n, m, f, _, rfl, hS.same s3, by omega, by omega, qe _ (Same.refl _)⟩) fun H3 s3 e3 => ?_
      refine ⟨D, nums (fun i => fr f m (d + (m : Int) + (i : Int))) ((n : Int) - (d + (m : Int))).toNat, rfl, .inl (.inl e3), ?_⟩
      refine ⟨_, rfl, _, rfl, _, _, rfl, rfl, 0, _, rfl, _, rfl, by show 2 ≤ sizeLine; decide, fun T nT => q _ _ (s3.trans (same_new nT)) ⟨T, rfl, ?_⟩⟩
      unfold goneR mx0 jF
      rw [← sa_sum]
      exact upd_same
end
end K21

/-! list(d.items()), the keys of d tuples -/
namespace Fa
open PySem PySem.Spec PyProof.Rows L2
/-- tuples laid one after another -/
def lay : List (Addr × List V) → Hp → Hp
  | [], H => H
  | q :: r, H => lay r (upd H q.1 (.tup q.2))
theorem lay_off {b : Addr} : ∀ {L : List (Addr × List V)} {H : Hp}, b ∉ L.map (·.1) → lay L H b = H b
  | [], _, _ => rfl
  | q :: r, H, h => by
    have h1 : b ≠ q.1 := fun z => h (by rw [z]; exact List.mem_cons_self)
    have h2 : b ∉ r.map (·.1) := fun z => h (List.mem_cons_of_mem _ z)
    show lay r (upd H q.1 (.tup q.2)) b = H b
    rw [lay_off h2, upd_ne h1]
theorem lay_in : ∀ {L : List (Addr × List V)} {H : Hp} {q : Addr × List V}, (L.map (·.1)).Nodup → q ∈ L → lay L H q.1 = some (.tup q.2)
  | p :: r, H, q, nd, h => by
    obtain ⟨n1, n2⟩ := List.nodup_cons.mp nd
    show lay r (upd H p.1 (.tup p.2)) q.1 = _
    rcases List.mem_cons.mp h with rfl | h
    · rw [lay_off n1, upd_same]
    · exact lay_in n2 h
section
variable {X : Cx} {pins : List (Addr × Obj)} {σ : L2.St} {s : Shared}
theorem lay_inv : ∀ {L : List (Addr × List V)} {H : Hp}, Inv X pins σ H s → (L.map (·.1)).Nodup → (∀ q ∈ L, FpOk X pins H q.1 ∧ ∀ H2, ObjOk X.prog X.w H2 s.heap q.1 (.tup q.2)) → Inv X pins σ (lay L H) s
  | [], _, I, _, _ => I
  | p :: r, H, I, nd, h => by
    obtain ⟨n1, n2⟩ := List.nodup_cons.mp nd
    obtain ⟨f, o⟩ := h p List.mem_cons_self
    have J := I.take (h' := s.heap) (t' := s.toks) (fun b ob _ e => e) f (o _)
    refine lay_inv (H := upd H p.1 (.tup p.2)) J n2 fun q hq => ?_
    obtain ⟨⟨g0, g⟩, u⟩ := h q (List.mem_cons_of_mem _ hq)
    refine ⟨⟨?_, g⟩, u⟩
    rw [upd_ne (fun z => n1 (List.mem_map.mpr ⟨q, hq, z⟩))]
    exact g0
end
/-- what list(d.items()) asks -/
def rItT : V → Hp → VK → Prop := fun x H Q => ∃ (d : Addr) (kvs : List (List Key × V)), x = .ref d ∧ H d = some (.dT kvs) ∧
  ∀ (H' : Hp) (p : Addr) (ts : List Addr), Same H H' → H p = none → H' p = some (.lst (ts.map V.ref)) → Paired (fun (t : Addr) (q : List Key × V) => ∃ b, H' t = some (.tup [.ref b, q.2]) ∧ H b = some (.tup (q.1.map kV))) ts kvs → Q (.ref p) H'
theorem paired_of {α β : Type} {F : α → β → Prop} : ∀ {l : List α} {m : List β}, l.length = m.length → (∀ (i : Nat) (x : α) (y : β), l[i]? = some x → m[i]? = some y → F x y) → Paired F l m
  | [], [], _, _ => .nil
  | x :: l, y :: m, e, h => .cons (h 0 x y rfl rfl) (paired_of (Nat.succ.inj e) fun i a b ha hb => h (i + 1) a b ha hb)
  | [], _ :: _, e, _ => by cases e
  | _ :: _, [], e, _ => by cases e
theorem vals_rf : ∀ l : List Addr, Vals (l.map V.ref) (l.map Value.ref)
  | [] => .nil
  | _ :: l => .cons rfl (vals_rf l)
theorem refs_nd {l : List Addr} (h : l.Pairwise (· < ·)) : l.Nodup := h.imp fun {x y} (z : x < y) => Nat.ne_of_lt z
section
variable {X : Cx} {e : Expr} {te : TE} {p apos cpos pos : Pos}
theorem items_new {pins : List (Addr × Obj)} {σ : L2.St} {H : Hp} {s : Shared} {h' : Heap} {tk c : Nat} {kvs : List (List Key × V)} {acc : Array Value} {as : List Addr} {d : Addr} {o : Obj} {es : Array DictEntry} {ep : Nat} {n : Addr} (I : Inv X pins σ H s) (hd : H d = some (.dT kvs)) (ho : s.heap.get? d = some o) (hdt : o.data = .dict es ep)
    (low : s.heap.objs.size ≤ n) (kp : ∀ b ob, s.heap.get? b = some ob → h'.get? b = some ob) (hS : h'.get? n = some { cls := .type "list", dict := none, data := .seq acc c, slots := #[] }) (hl : as.length = es.size) (hG : PySem.W.DilG es n h' as) (hacc : acc.toList = as.map Value.ref)
    {Q : VK} (q : ∀ (H' : Hp) (p : Addr) (ts : List Addr), Same H H' → H p = none → H' p = some (.lst (ts.map V.ref)) → Paired (fun (t : Addr) (q : List Key × V) => ∃ b, H' t = some (.tup [.ref b, q.2]) ∧ H b = some (.tup (q.1.map kV))) ts kvs → Q (.ref p) H') :
    ∃ H', Inv X pins σ H' { s with heap := h', toks := tk } ∧ Q (.ref n) H' := by
  obtain ⟨z, _, xs, pr, o2, es2, ep2, ho2, _, hdt2, he, _⟩ := I.hok d _ hd
  rw [ho] at ho2
  cases ho2
  rw [hdt] at hdt2
  cases hdt2
  have l1 : es.size = xs.length := size_of_entries he
  have l2 : kvs.length = xs.length := Paired.length pr
  -- what each new tuple holds
  have each : ∀ (j : Nat) (a : Addr) (kv : List Key × V), as[j]? = some a → kvs[j]? = some kv → ∃ b u, RelV kv.2 u ∧ H b = some (.tup (kv.1.map kV)) ∧ h'.get? a = some { cls := .type "tuple", data := .seq #[.ref b, u] } := fun j a kv ea ek => by
    obtain ⟨hj, eo⟩ := hG.pairs j a ea
    obtain ⟨x, ex, e1, e2, e3⟩ := paired_get pr ek
    have en := entry_at he j
    rw [ex, Array.getElem?_eq_getElem hj] at en
    have en := Option.some.inj en
    refine ⟨x.2.1, x.2.2, e3, ?_, ?_⟩
    · exact e2
    · rw [en] at eo
      exact eo
  have fin : ∀ m : Nat, ∃ L : List (Addr × List V), L.map (·.1) = as.take m ∧ (∀ t ∈ L, ∃ b u v, t.2 = [.ref b, v] ∧ RelV v u ∧ h'.get? t.1 = some { cls := .type "tuple", data := .seq #[.ref b, u] }) ∧
      ∀ (j : Nat) (t : Addr × List V), L[j]? = some t → ∃ kv b, kvs[j]? = some kv ∧ t.2 = [.ref b, kv.2] ∧ H b = some (.tup (kv.1.map kV)) := by
    intro m
    induction m with
    | zero => exact ⟨[], rfl, (fun t ht => by cases ht), fun j t ht => by cases ht⟩
    | succ m ih =>
      obtain ⟨L, h1, h2, h3⟩ := ih
      cases ea : as[m]? with
      | none =>
        refine ⟨L, ?_, h2, h3⟩
        rw [List.take_add_one, ea, h1]
        simp
      | some a =>
        have hm : m < as.length := (List.getElem?_eq_some_iff.mp ea).1
        obtain ⟨kv, ek⟩ : ∃ kv, kvs[m]? = some kv := ⟨kvs[m]'(by omega), List.getElem?_eq_getElem _⟩
        obtain ⟨b, u, r1, r2, r3⟩ := each m a kv ea ek
        have lL : L.length = m := by
          have := congrArg List.length h1
          rw [List.length_map, List.length_take] at this
          omega
        refine ⟨L ++ [(a, [.ref b, kv.2])], ?_, fun t ht => ?_, fun j t ht => ?_⟩
        · rw [List.map_append, h1, List.take_add_one, ea]
          rfl
        · rcases List.mem_append.mp ht with ht | ht
          · exact h2 t ht
          · rw [List.mem_singleton.mp ht]
            exact ⟨b, u, kv.2, rfl, r1, r3⟩
        · by_cases c : j < L.length
          · rw [List.getElem?_append_left c] at ht
            exact h3 j t ht
          · rw [List.getElem?_append_right (by omega)] at ht
            obtain ⟨c2, c3⟩ := List.getElem?_eq_some_iff.mp ht
            have : j = m := by
              simp at c2
              omega
            subst this
            subst c3
            refine ⟨kv, b, ek, ?_, r2⟩
            simp [lL]
  obtain ⟨L, h1, h2, h3⟩ := fin as.length
  rw [List.take_length] at h1
  have nd : as.Nodup := refs_nd hG.rise
  have ndL : (L.map (·.1)).Nodup := by rw [h1]; exact nd
  have nin : n ∉ as := fun y => Nat.lt_irrefl _ (hG.above n y)
  have fresh : ∀ a, s.heap.objs.size ≤ a → H a = none := fun a y => I.hok.fresh y
  have z2 : (as.map V.ref).length ≤ sizeLine := by
    rw [List.length_map, hl]
    omega
  have I1 : Inv X pins σ (upd H n (.lst (as.map V.ref))) { s with heap := h', toks := tk } := I.laid (t' := tk) kp low ⟨z2, acc.toList, c, by rw [hacc]; exact vals_rf as, by rw [Array.toArray_toList]; exact hS⟩
  have I2 := lay_inv (L := L) I1 ndL fun t ht => by
    have ta : t.1 ∈ as := by
      rw [← h1]
      exact List.mem_map.mpr ⟨t, ht, rfl⟩
    have up : s.heap.objs.size ≤ t.1 := Nat.le_of_lt (Nat.lt_of_le_of_lt low (hG.above _ ta))
    obtain ⟨f0, f⟩ := I.fpOk up (fresh _ up)
    obtain ⟨b, u, v, e1, e2, e3⟩ := h2 t ht
    refine ⟨⟨?_, f⟩, fun H2 => ?_⟩
    · rw [upd_ne (fun y => nin (by rw [← y]; exact ta))]
      exact f0
    · rw [e1]
      exact ⟨by show 2 ≤ sizeLine; decide, [.ref b, u], .cons rfl (.cons e2 .nil), ⟨_, e3, rfl, _, rfl⟩⟩
  refine ⟨_, I2, q _ n as (fun b ob eb => ?_) (fresh n low) ?_ (paired_of (by omega) fun j a kv ea ek => ?_)⟩
  · rw [lay_off, upd_ne (ne_of_none eb (fresh n low))]
    · exact eb
    · rw [h1]
      intro y
      rw [fresh b (Nat.le_of_lt (Nat.lt_of_le_of_lt low (hG.above b y)))] at eb
      cases eb
  · rw [lay_off (by rw [h1]; exact nin), upd_same]
  · obtain ⟨t, et, e1⟩ : ∃ t, L[j]? = some t ∧ t.1 = a := by
      have := congrArg (·[j]?) h1
      simp only [List.getElem?_map] at this
      rw [ea] at this
      cases eL : L[j]? with
      | none =>
        rw [eL] at this
        cases this
      | some t =>
        rw [eL] at this
        exact ⟨t, rfl, Option.some.inj this⟩
    obtain ⟨kv2, b, ek2, e2, e3⟩ := h3 j t et
    rw [ek] at ek2
    cases ek2
    have := lay_in (H := upd H n (.lst (as.map V.ref))) ndL (List.mem_of_getElem? et)
    rw [e1, e2] at this
    exact ⟨b, this, e3⟩
/-- the expression -/
def tLiT (te : TE) : TE := fun σ H Q => te σ H fun x H1 => rItT x H1 Q
theorem pe_liT (hc : X.calm = true) (hg : Gl X "list") (hm : X.mg "list" = none) (he : PE X e te) (hbase : attributeBase e "items" X.env (eval e X.env) = eval e X.env := by rfl) (hline : (apos.endLine == cpos.line) = true := by rfl)
    (hs : starEach [.Call (.Attribute e "items" apos) [] [] cpos] X.env = (false, eval (.Call (.Attribute e "items" apos) [] [] cpos) X.env) :: starEach [] X.env := by rfl) : PE X (.Call (.Name "list" p) [.Call (.Attribute e "items" apos) [] [] cpos] [] pos) (tLiT te) := by
  refine ⟨fun pins s σ H Q I ask => wpAny_Call_Name_kw (ld_blt I hg hm PyProof.Rows.boot_list (PyProof.Rows.callWith_type1 ?_ hs rfl))⟩
  rw [hs]
  show wpAny _ _ (spliced ((false, eval (.Call (.Attribute e "items" apos) [] [] cpos) X.env) :: backTo pos (starEach [] X.env))) _ _ s
  refine Calls.spliced_cons (wpAny_Call_method (T := "dict") (id := "dict.items") hbase rfl hline F.plainAttrs_dict F.slot_dict_items F.type_dict_items (thn (he.run pins s σ H _ I ask) fun u s1 ⟨x, H1, I1, rx, d, kvs, ex, hd, q⟩ => ?_))
  subst ex
  cases (show u = Value.ref d from rx)
  obtain ⟨z, hsys, xs, pr, ob, es, ep, raw1, raw2, raw3, he3, _⟩ := I1.hok d _ hd
  have l1 : es.size = xs.length := size_of_entries he3
  have l2 : kvs.length = xs.length := Paired.length pr
  have I2 : Inv X pins σ H1 { s1 with heap := s1.heap.push { cls := .type "dict_items", data := .fields #[.ref d] } } := I1.kept (t' := s1.toks) fun b o2 y => Heap.get?_push_of_some _ y
  refine ⟨⟨ob, raw1, raw2.1⟩, fun b hb => ?_, ?_⟩
  · cases hb
    exact ⟨ob, raw1, raw2.2.1⟩
  · show wpAny _ _ (callWith cpos (.builtin "dict.items") [.ref d] [] []) _ X.xe s1
    refine method_meetsIn F.slot_dict_items F.entry_dict_items rfl (PySem.evalArgs_none ⟨rfl, ⟨ob, raw1, raw2.1⟩, F.args_dict_items_1 _, _, DT.meetsItems (es := es) (ep := ep) hsys, ⟨⟨ob, raw1, raw2, raw3⟩, Calls.spliced_nil ?_⟩⟩)
    refine PySem.W.dil_call (es := es) (ep := ep) (I1.ok.hd hc) ⟨_, Heap.get?_push_size _ rfl, rfl, rfl⟩ (DT.Raw.push ⟨ob, raw1, raw2, raw3⟩ _) (by omega) fun h' tk acc c as hk hS hl hG hacc => ?_
    obtain ⟨H', J, y⟩ := items_new (tk := tk) I2 hd (Heap.get?_push_of_some _ raw1) raw3 (Nat.le_refl _) hk hS hl hG hacc q
    exact ⟨.ref _, H', J, rfl, y⟩
end
end Fa

/-! list(zip(a, b)), a and b tuples -/
namespace Fa
open PySem PySem.Spec PyProof.Rows L2 PySem.Calls
section
variable {prog : Program} {w : World} {A : Around} {E : Value → Shared → Prop} {s : Shared} {z TI TO i1 i2 T : Addr} {f : Bool} {oT : Obj} {fp1 fp2 : List Addr} {n1 n2 i : Nat} {P1 P2 : Nat → Value → Prop} {St1 St2 : Nat → Heap → Prop}
/-- the next tuple, where the one that was given out before is still there -/
theorem zipH_item {Q : Value → Shared → Prop} (S : ZipSep2 z TI TO i1 i2 fp1 fp2) (D1 : Draws prog w A i1 fp1 n1 P1 St1) (D2 : Draws prog w A i2 fp2 n2 P2 St2)
    (hz : IsZipHeld s.heap z TI TO T f) (hT : s.heap.get? T = some oT) (hTI : IsTupOf2 s.heap TI (.ref i1) (.ref i2)) (st1 : St1 i s.heap) (st2 : St2 i s.heap) (hlt1 : i < n1) (hlt2 : i < n2)
    (hQ : ∀ x1 x2 h' tk, P1 i x1 → P2 i x2 → IsZipHeld h' z TI TO T true → St1 (i + 1) h' → St2 (i + 1) h' → IsTupOf2 h' s.heap.objs.size x1 x2 → h'.objs.size = s.heap.objs.size + 1 →
      (∀ c o, c ≠ z → c ≠ i1 → c ≠ i2 → s.heap.get? c = some o → h'.get? c = some o) → Q (.ref s.heap.objs.size) { s with heap := h', toks := tk }) :
    wpAny (model prog w) A (Builtin.«zip.__next__» ⟨[.ref z], []⟩) (fun fin s' => ∃ v, fin = .done (.ret v) ∧ Q v s') E s := by
  obtain ⟨hp, g, d, tk0, os⟩ := s
  show wpAny _ _ (field (.ref z) 2 >>= _) _ _ _
  refine wpAny_bind (wpAny_field hz rfl (x := .bool false) rfl ?_)
  show wpAny _ _ (field (.ref z) 3 >>= _) _ _ _
  refine wpAny_bind (wpAny_field hz rfl (x := .ref TI) rfl ?_)
  refine wpAny_bind (wpAny_seqItems hTI rfl ?_)
  show wpAny _ _ (Builtin.SmallTypes.ownedTupleIsFree (.ref z) >>= _) _ _ _
  refine wpAny_bind (wpAny_tupleHeld_zip hz hT fun h₁ hz₁ hs₁ => ?_)
  replace hs₁ : Heap.SameBut z hp h₁ := hs₁
  simp only [Bool.false_eq_true, if_false]
  refine wpAny_bind ?_
  rw [← Array.forIn_toList]
  simp only [List.forIn_cons, List.forIn_nil]
  refine wpAny_bind (wpAny_bind (wpAny_holding ?_))
  show wpAny _ _ (Builtin.SmallTypes.nextOf (.ref i1) >>= _) _ _ ⟨h₁, g, d, tk0, os⟩
  refine wpAny_bind (D1.item i _ _ _ hlt1 (D1.over st1 hs₁ S.zf1) fun x1 p1 tk1 hx1 sn1 hp1 => wpAny_pure ?_)
  replace hp1 : Heap.SameBut i1 h₁ p1 := hp1
  refine wpAny_pure ?_
  refine wpAny_bind (wpAny_bind (wpAny_holding ?_))
  show wpAny _ _ (Builtin.SmallTypes.nextOf (.ref i2) >>= _) _ _ ⟨p1, g, d, tk1, os⟩
  refine wpAny_bind (D2.item i _ _ _ hlt2 (D2.over (D2.over st2 hs₁ S.zf2) hp1 S.sep1_2) fun x2 p2 tk2 hx2 sn2 hp2 => wpAny_pure ?_)
  replace hp2 : Heap.SameBut i2 p1 p2 := hp2
  refine wpAny_pure (wpAny_pure ?_)
  show wpAny _ _ (newTuple [x1, x2] >>= _) _ _ _
  refine wpAny_bind (wpAny_newTuple ?_)
  have hsz : p2.objs.size = hp.objs.size := by rw [hp2.1, hp1.1, hs₁.1]
  have hz₃ : IsZipHeld p2 z TI TO T true := hp2.extBut _ _ S.zi2 (hp1.extBut _ _ S.zi1 hz₁)
  have hk : ∀ c o, c ≠ z → c ≠ i1 → c ≠ i2 → hp.get? c = some o → p2.get? c = some o := fun c o c1 c2 c3 e => hp2.extBut _ _ c3 (hp1.extBut _ _ c2 (hs₁.extBut _ _ c1 e))
  have j1 : St1 (i + 1) p2 := D1.over sn1 hp2 S.sep2_1
  refine wpAny_pure ⟨_, rfl, ?_⟩
  show Q (.ref p2.objs.size) ⟨p2.push { cls := .type "tuple", data := .seq #[x1, x2] }, g, d, tk2, os⟩
  have hpp : IsTupOf2 (p2.push { cls := .type "tuple", data := .seq #[x1, x2] }) p2.objs.size x1 x2 := Heap.get?_push_size _ rfl
  have hz4 : (p2.push { cls := .type "tuple", data := .seq #[x1, x2] }).objs.size = p2.objs.size + 1 := Heap.size_push ..
  rw [hsz] at hpp hz4 ⊢
  exact hQ x1 x2 _ tk2 hx1 hx2 (Heap.get?_push_of_some _ hz₃) (D1.frame _ _ _ j1 fun b hb o e => Heap.get?_push_of_some _ e) (D2.frame _ _ _ sn2 fun b hb o e => Heap.get?_push_of_some _ e) hpp hz4 fun c o c1 c2 c3 e => Heap.get?_push_of_some _ (hk c o c1 c2 c3 e)
theorem zipH_end {Q : Fin → Shared → Prop} (S : ZipSep2 z TI TO i1 i2 fp1 fp2) (D1 : Draws prog w A i1 fp1 n1 P1 St1) (D2 : Draws prog w A i2 fp2 n2 P2 St2)
    (hz : IsZipHeld s.heap z TI TO T f) (hT : s.heap.get? T = some oT) (hTI : IsTupOf2 s.heap TI (.ref i1) (.ref i2)) (st1 : St1 i s.heap) (st2 : St2 i s.heap) (hle1 : i ≤ n1) (hle2 : i ≤ n2) (hend : i = n1 ∨ i = n2)
    (hE : ∀ h' tk e, (∀ c o, c ≠ z → c ≠ i1 → c ≠ i2 → s.heap.get? c = some o → h'.get? c = some o) → (∃ o, h'.get? e = some o ∧ o.cls = .type "StopIteration") → E (.ref e) { s with heap := h', toks := tk }) :
    wpAny (model prog w) A (Builtin.«zip.__next__» ⟨[.ref z], []⟩) Q E s := by
  obtain ⟨hp, g, d, tk0, os⟩ := s
  show wpAny _ _ (field (.ref z) 2 >>= _) _ _ _
  refine wpAny_bind (wpAny_field hz rfl (x := .bool false) rfl ?_)
  show wpAny _ _ (field (.ref z) 3 >>= _) _ _ _
  refine wpAny_bind (wpAny_field hz rfl (x := .ref TI) rfl ?_)
  refine wpAny_bind (wpAny_seqItems hTI rfl ?_)
  show wpAny _ _ (Builtin.SmallTypes.ownedTupleIsFree (.ref z) >>= _) _ _ _
  refine wpAny_bind (wpAny_tupleHeld_zip hz hT fun h₁ hz₁ hs₁ => ?_)
  replace hs₁ : Heap.SameBut z hp h₁ := hs₁
  simp only [Bool.false_eq_true, if_false]
  refine wpAny_bind ?_
  rw [← Array.forIn_toList]
  simp only [List.forIn_cons, List.forIn_nil]
  refine wpAny_bind (wpAny_bind (wpAny_holding ?_))
  show wpAny _ _ (Builtin.SmallTypes.nextOf (.ref i1) >>= _) _ _ ⟨h₁, g, d, tk0, os⟩
  by_cases hlt1 : i < n1
  · refine wpAny_bind (D1.item i _ _ _ hlt1 (D1.over st1 hs₁ S.zf1) fun x1 p1 tk1 hx1 sn1 hp1 => wpAny_pure ?_)
    replace hp1 : Heap.SameBut i1 h₁ p1 := hp1
    refine wpAny_pure ?_
    have hi2 : i = n2 := by omega
    refine wpAny_bind (wpAny_bind (wpAny_holding ?_))
    show wpAny _ _ (Builtin.SmallTypes.nextOf (.ref i2) >>= _) _ _ ⟨p1, g, d, tk1, os⟩
    refine wpAny_bind (D2.done ⟨p1, g, d, tk1, os⟩ _ _ (by rw [← hi2]; exact D2.over (D2.over st2 hs₁ S.zf2) hp1 S.sep1_2) fun q e hq he => ?_)
    replace hq : Heap.ExtBut i2 p1 q := hq
    exact hE q tk1 e (fun c o cz c1 c2 x => hq _ _ c2 (hp1.extBut _ _ c1 (hs₁.extBut _ _ cz x))) he
  · have hi1 : i = n1 := by omega
    refine wpAny_bind (D1.done ⟨h₁, g, d, tk0, os⟩ _ _ (by rw [← hi1]; exact D1.over st1 hs₁ S.zf1) fun q e hq he => ?_)
    replace hq : Heap.ExtBut i1 h₁ q := hq
    exact hE q tk0 e (fun c o cz c1 c2 x => hq _ _ c1 (hs₁.extBut _ _ cz x)) he
end
/-- where a zip stands behind i tuples, the last of which somebody holds -/
def ZpSt (h : Heap) (S z TI TO i1 i2 : Addr) (St1 St2 : Nat → Heap → Prop) (i : Nat) : Prop :=
  IsTupOf2 h TI (.ref i1) (.ref i2) ∧ St1 i h ∧ St2 i h ∧ ((IsZip h z TI TO .none ∧ ∃ a b, IsTupOf2 h TO a b) ∨ ∃ T f oT, IsZipHeld h z TI TO T f ∧ h.get? T = some oT ∧ T ≠ z ∧ T ≠ i1 ∧ T ≠ i2 ∧ T ≠ S)
section
variable {prog : Program} {w : World} {A : Around} {E : Value → Shared → Prop} {s : Shared} {S z TI TO i1 i2 : Addr} {fp1 fp2 : List Addr} {n1 n2 i : Nat} {P1 P2 : Nat → Value → Prop} {St1 St2 : Nat → Heap → Prop}
theorem zp_item {Q : Option Value → Shared → Prop} (Z : ZipSep2 z TI TO i1 i2 fp1 fp2) (D1 : Draws prog w A.in1 i1 fp1 n1 P1 St1) (D2 : Draws prog w A.in1 i2 fp2 n2 P2 St2) (st : ZpSt s.heap S z TI TO i1 i2 St1 St2 i) (hS : S < s.heap.objs.size)
    (l1 : i1 < s.heap.objs.size) (l2 : i2 < s.heap.objs.size) (hlt1 : i < n1) (hlt2 : i < n2)
    (hQ : ∀ x1 x2 h' tk, P1 i x1 → P2 i x2 → ZpSt h' S z TI TO i1 i2 St1 St2 (i + 1) → IsTupOf2 h' s.heap.objs.size x1 x2 → h'.objs.size = s.heap.objs.size + 1 →
      (∀ c o, c ≠ z → c ≠ TO → c ≠ i1 → c ≠ i2 → s.heap.get? c = some o → h'.get? c = some o) → Q (some (.ref s.heap.objs.size)) { s with heap := h', toks := tk }) :
    wpAny (model prog w) A (pyNext (.ref z)) Q E s := by
  obtain ⟨hTI, s1, s2, hz⟩ := st
  rcases hz with ⟨hz, a, b, hTO⟩ | ⟨T, f, oT, hz, hT, r1, r2, r3, r4⟩
  · refine wpAny_pyNext_zipD2_item Z D1 D2 hz hTI hTO s1 s2 hlt1 hlt2 fun x1 x2 h' tk y1 y2 b1 b2 d1 d2 b5 b6 b7 => ?_
    exact hQ x1 x2 h' tk y1 y2 ⟨b7 _ _ Z.TIz Z.TITO Z.TIi1 Z.TIi2 hTI, d1, d2, .inr ⟨s.heap.objs.size, false, _, b1, b5, Nat.ne_of_gt (Heap.lt_size hz), Nat.ne_of_gt l1, Nat.ne_of_gt l2, Nat.ne_of_gt hS⟩⟩ b5 b6 b7
  · have hTy : s.TypeIs (.ref z) "zip" := ⟨_, hz, rfl⟩
    unfold pyNext
    refine wpAny_bind (wpAny_attempt (wpAny_callSpecial?_slot (name := Str.ofString "__next__") hTy F.slot_zip_next
      (wpAny_call_entry F.slot_zip_next hTy F.entry_zip_next
        (zipH_item Z D1 D2 hz hT hTI s1 s2 hlt1 hlt2 fun x1 x2 h' tk y1 y2 b1 d1 d2 b5 b6 b7 => wpAny_pure ?_) (F.args_zip_next_1 _))))
    exact hQ x1 x2 h' tk y1 y2 ⟨b7 _ _ Z.TIz Z.TIi1 Z.TIi2 hTI, d1, d2, .inr ⟨T, true, oT, b1, b7 _ _ r1 r2 r3 hT, r1, r2, r3, r4⟩⟩ b5 b6 fun c o cz _ c1 c2 e => b7 c o cz c1 c2 e
theorem zp_end {Q : Option Value → Shared → Prop} (Z : ZipSep2 z TI TO i1 i2 fp1 fp2) (D1 : Draws prog w A.in1 i1 fp1 n1 P1 St1) (D2 : Draws prog w A.in1 i2 fp2 n2 P2 St2) (st : ZpSt s.heap S z TI TO i1 i2 St1 St2 i) (hle1 : i ≤ n1) (hle2 : i ≤ n2) (hend : i = n1 ∨ i = n2)
    (hQ : ∀ h' tk, (∀ c o, c ≠ z → c ≠ TO → c ≠ i1 → c ≠ i2 → s.heap.get? c = some o → h'.get? c = some o) → Q none { s with heap := h', toks := tk }) :
    wpAny (model prog w) A (pyNext (.ref z)) Q E s := by
  obtain ⟨hTI, s1, s2, hz⟩ := st
  rcases hz with ⟨hz, a, b, hTO⟩ | ⟨T, f, oT, hz, hT, r1, r2, r3, r4⟩
  · exact wpAny_pyNext_zipD2_end Z D1 D2 hz hTI hTO s1 s2 hle1 hle2 hend hQ
  · have hTy : s.TypeIs (.ref z) "zip" := ⟨_, hz, rfl⟩
    unfold pyNext
    refine wpAny_bind (wpAny_attempt (wpAny_callSpecial?_slot (name := Str.ofString "__next__") hTy F.slot_zip_next
      (wpAny_call_entry F.slot_zip_next hTy F.entry_zip_next (zipH_end Z D1 D2 hz hT hTI s1 s2 hle1 hle2 hend fun h' tk e hk he => ?_) (F.args_zip_next_1 _))))
    obtain ⟨o, ho, hc⟩ := he
    refine wpAny_bind (wpAny_isInstance (T := "StopIteration") (b := true) ⟨o, ho, hc⟩ isSubtype_stop ?_)
    exact wpAny_pure (hQ _ _ fun c o cz _ c1 c2 e => hk c o cz c1 c2 e)
end
/-- the new tuples -/
structure ZpG (P1 P2 : Nat → Value → Prop) (lo : Addr) (h : Heap) (as : List Addr) : Prop where
  rise : as.Pairwise (· < ·)
  above : ∀ a ∈ as, lo < a
  pairs : ∀ (j : Nat) (a : Addr), as[j]? = some a → ∃ x y, P1 j x ∧ P2 j y ∧ h.get? a = some { cls := .type "tuple", data := .seq #[x, y] }
theorem ZpG.there {P1 P2 : Nat → Value → Prop} {lo : Addr} {h : Heap} {as : List Addr} (g : ZpG P1 P2 lo h as) {a : Addr} (ha : a ∈ as) : a < h.objs.size := by
  obtain ⟨j, hj⟩ := List.mem_iff_getElem?.mp ha
  obtain ⟨_, _, _, _, e⟩ := g.pairs j a hj
  exact Heap.lt_size e
/-- the cells of a zip lie ahead of the list -/
structure ZpLow (S z TI TO i1 i2 : Addr) (fp1 fp2 : List Addr) : Prop where
  z : z < S
  TI : TI < S
  TO : TO < S
  i1 : i1 < S
  i2 : i2 < S
  f1 : ∀ b ∈ fp1, b < S
  f2 : ∀ b ∈ fp2, b < S
section
variable {prog : Program} {w : World} {A : Around} {S z TI TO i1 i2 : Addr} {fp1 fp2 : List Addr} {n1 n2 : Nat} {P1 P2 : Nat → Value → Prop} {St1 St2 : Nat → Heap → Prop}
theorem ZpSt.keep {h h' : Heap} {i : Nat} (L : ZpLow S z TI TO i1 i2 fp1 fp2) (D1 : Draws prog w A.in1 i1 fp1 n1 P1 St1) (D2 : Draws prog w A.in1 i2 fp2 n2 P2 St2) (st : ZpSt h S z TI TO i1 i2 St1 St2 i)
    (k : ∀ b o, b ≠ S → h.get? b = some o → h'.get? b = some o) : ZpSt h' S z TI TO i1 i2 St1 St2 i := by
  obtain ⟨hTI, s1, s2, hz⟩ := st
  refine ⟨k _ _ (Nat.ne_of_lt L.TI) hTI, D1.frame _ _ _ s1 fun b hb o e => k b o (Nat.ne_of_lt (L.f1 b hb)) e, D2.frame _ _ _ s2 fun b hb o e => k b o (Nat.ne_of_lt (L.f2 b hb)) e, ?_⟩
  rcases hz with ⟨hz, a, b, hTO⟩ | ⟨T, f, oT, hz, hT, r1, r2, r3, r4⟩
  · exact .inl ⟨k _ _ (Nat.ne_of_lt L.z) hz, a, b, k _ _ (Nat.ne_of_lt L.TO) hTO⟩
  · exact .inr ⟨T, f, oT, k _ _ (Nat.ne_of_lt L.z) hz, k _ _ r4 hT, r1, r2, r3, r4⟩
variable {s : Shared} {R : Result → Shared → Prop}
theorem zp_loop (Z : ZipSep2 z TI TO i1 i2 fp1 fp2) (L : ZpLow S z TI TO i1 i2 fp1 fp2) (D1 : Draws prog w A.in1.in1 i1 fp1 n1 P1 St1) (D2 : Draws prog w A.in1.in1 i2 fp2 n2 P2 St2) (hn : min n1 n2 ≤ sizeLine) (res : Value) {h₁ : Heap}
    (hR : ∀ h' tk acc c as, (∀ b o, b ≠ S → b ≠ z → b ≠ TO → b ≠ i1 → b ≠ i2 → h₁.get? b = some o → h'.get? b = some o) → h'.get? S = some { cls := .type "list", dict := none, data := .seq acc c, slots := #[] } → as.length = min n1 n2 → ZpG P1 P2 S h' as →
      acc.toList = as.map Value.ref → R (.ok (.ret res)) { s with heap := h', toks := tk }) :
    ∀ (k i : Nat) (h : Heap) (tk c : Nat) (acc : Array Value) (as : List Addr), min n1 n2 - i = k → i ≤ min n1 n2 → ZpSt h S z TI TO i1 i2 St1 St2 i → (∀ b o, b ≠ S → b ≠ z → b ≠ TO → b ≠ i1 → b ≠ i2 → h₁.get? b = some o → h.get? b = some o) →
      h.get? S = some { cls := .type "list", dict := none, data := .seq acc c, slots := #[] } → acc.toList = as.map Value.ref → as.length = i → ZpG P1 P2 S h as →
      codeAny (model prog w) A (.builtin "list.extend.loop" ⟨[.ref S, .ref z, res], []⟩) R { s with heap := h, toks := tk } := by
  intro k
  induction k with
  | zero =>
    intro i h tk c acc as hk hi hst hkeep hS hacc hal hG
    refine codeAny_builtin PySem.F.entry_extend_loop ?_
    rw [Around.under_plainId PySem.F.plain_extend_loop _]
    show wpAny _ A.in1 (pyNext (.ref z) >>= _) _ _ _
    refine wpAny_bind (zp_end (s := { s with heap := h, toks := tk }) (A := A.in1) Z D1 D2 hst (by omega) (by omega) (by omega) fun h' tk' he => ?_)
    dsimp only at he
    have ne : ∀ a, S < a → a ≠ z ∧ a ≠ TO ∧ a ≠ i1 ∧ a ≠ i2 := fun a ha => ⟨Nat.ne_of_gt (Nat.lt_trans L.z ha), Nat.ne_of_gt (Nat.lt_trans L.TO ha), Nat.ne_of_gt (Nat.lt_trans L.i1 ha), Nat.ne_of_gt (Nat.lt_trans L.i2 ha)⟩
    refine wpAny_pure (hR h' tk' acc c as (fun b o h1 h2 h3 h4 h5 e => he b o h2 h3 h4 h5 (hkeep b o h1 h2 h3 h4 h5 e)) (he S _ (Nat.ne_of_gt L.z) (Nat.ne_of_gt L.TO) (Nat.ne_of_gt L.i1) (Nat.ne_of_gt L.i2) hS) (by omega) ⟨hG.rise, hG.above, fun j a hj => ?_⟩ hacc)
    obtain ⟨x, y, p1, p2, e3⟩ := hG.pairs j a hj
    obtain ⟨q1, q2, q3, q4⟩ := ne a (hG.above a (List.mem_of_getElem? hj))
    exact ⟨x, y, p1, p2, he a _ q1 q2 q3 q4 e3⟩
  | succ k ih =>
    intro i h tk c acc as hk hi hst hkeep hS hacc hal hG
    have hsz : acc.size = i := by rw [← Array.length_toList, hacc, List.length_map, hal]
    have hSl : S < h.objs.size := Heap.lt_size hS
    refine codeAny_builtin PySem.F.entry_extend_loop ?_
    rw [Around.under_plainId PySem.F.plain_extend_loop _]
    show wpAny _ A.in1 (pyNext (.ref z) >>= _) _ _ _
    refine wpAny_bind (zp_item (s := { s with heap := h, toks := tk }) (A := A.in1) (S := S) Z D1 D2 hst hSl (Nat.lt_trans L.i1 hSl) (Nat.lt_trans L.i2 hSl) (by omega) (by omega) fun x1 x2 h' tk' p1 p2 hst' ht hz hkp => ?_)
    dsimp only at ht hz hkp ⊢
    have hS' := hkp S _ (Nat.ne_of_gt L.z) (Nat.ne_of_gt L.TO) (Nat.ne_of_gt L.i1) (Nat.ne_of_gt L.i2) hS
    have up : ∀ b o, b ≠ S → h'.get? b = some o → (h'.update S (Obj.mapSeq (·.push (Value.ref h.objs.size)))).get? b = some o := fun b o hb e => (Heap.get?_update_other _ _ (Ne.symm hb)).trans e
    have ne : ∀ a, S < a → a ≠ z ∧ a ≠ TO ∧ a ≠ i1 ∧ a ≠ i2 := fun a ha => ⟨Nat.ne_of_gt (Nat.lt_trans L.z ha), Nat.ne_of_gt (Nat.lt_trans L.TO ha), Nat.ne_of_gt (Nat.lt_trans L.i1 ha), Nat.ne_of_gt (Nat.lt_trans L.i2 ha)⟩
    show wpAny _ A.in1 (updateSeq S (·.push (Value.ref h.objs.size)) >>= _) _ _ _
    refine wpAny_bind ?_
    refine wpAny_updateSeq hS' rfl (wpAny_pure ⟨plainId_quiet PySem.F.plain_extend_loop _, ih (i + 1) _ tk' _ (acc.push (Value.ref h.objs.size)) (as ++ [h.objs.size]) (by omega) (by omega) (hst'.keep L D1 D2 up)
      (fun b o h1 h2 h3 h4 h5 e => up b o h1 (hkp b o h2 h3 h4 h5 (hkeep b o h1 h2 h3 h4 h5 e))) (Heap.get?_update_self _ hS' rfl) (by rw [Array.toList_push, hacc, List.map_append]; rfl) (by rw [List.length_append, hal]; rfl) ⟨?_, ?_, ?_⟩⟩) (by rw [hsz]; omega) (by show (acc.push (Value.ref h.objs.size)).size ≤ sizeLine + 1; rw [Array.size_push, hsz]; omega)
    · refine List.pairwise_append.mpr ⟨hG.rise, List.pairwise_singleton _ _, fun a ha b hb => ?_⟩
      rw [List.mem_singleton.mp hb]
      exact hG.there ha
    · intro a ha
      rcases List.mem_append.mp ha with ha | ha
      · exact hG.above a ha
      · rw [List.mem_singleton.mp ha]
        exact hSl
    · intro j b hj
      rcases Nat.lt_trichotomy j as.length with h1 | h1 | h1
      · rw [List.getElem?_append_left h1] at hj
        obtain ⟨x, y, q1, q2, e3⟩ := hG.pairs j b hj
        have hb := hG.above b (List.mem_of_getElem? hj)
        obtain ⟨n1, n2, n3, n4⟩ := ne b hb
        exact ⟨x, y, q1, q2, up b _ (Nat.ne_of_gt hb) (hkp b _ n1 n2 n3 n4 e3)⟩
      · subst h1
        have hb : h.objs.size = b := by simpa using hj
        subst hb
        exact ⟨x1, x2, by rw [hal]; exact p1, by rw [hal]; exact p2, up _ _ (Nat.ne_of_gt hSl) ht⟩
      · have hnone : (as ++ [h.objs.size])[j]? = none := List.getElem?_eq_none (by rw [List.length_append, List.length_singleton]; omega)
        rw [hnone] at hj
        cases hj
end
theorem zip_len : typeLookup (.type "zip") "__len__" = pure none := am_miss_of_fast (by decide +kernel)
theorem zip_hint0 : typeLookup (.type "zip") "__length_hint__" = pure none := am_miss_of_fast (by decide +kernel)
theorem zip_hint {prog : Program} {w : World} {A : Around} {E : Value → Shared → Prop} {s : Shared} {r : Addr} (hT : s.TypeIs (.ref r) "zip") {Q : Bool → Shared → Prop} (h : Q true s) : wpAny (model prog w) A (Builtin.List.listLengthHint (.ref r)) Q E s := by
  unfold Builtin.List.listLengthHint
  refine wpAny_bind (wpAny_specialOf hT zip_len ?_)
  wp_delta
  refine wpAny_bind (wpAny_specialOf hT zip_hint0 ?_)
  exact wpAny_pure h
section
variable {prog : Program} {w : World} {A : Around} {E : Value → Shared → Prop} {s : Shared} {S z TI TO i1 i2 : Addr} {fp1 fp2 : List Addr} {n1 n2 : Nat} {P1 P2 : Nat → Value → Prop} {St1 St2 : Nat → Heap → Prop}
theorem zp_extend {R : Result → Shared → Prop} (Z : ZipSep2 z TI TO i1 i2 fp1 fp2) (L : ZpLow S z TI TO i1 i2 fp1 fp2) (D1 : Draws prog w A.in1.in1 i1 fp1 n1 P1 St1) (D2 : Draws prog w A.in1.in1 i2 fp2 n2 P2 St2) (hz : IsZip s.heap z TI TO .none) (hst : ZpSt s.heap S z TI TO i1 i2 St1 St2 0)
    (res : Value) (c₀ : Nat) (hS : s.heap.get? S = some { cls := .type "list", data := .seq #[] c₀ }) (hn : min n1 n2 ≤ sizeLine)
    (hR : ∀ h' tk acc c as, (∀ b o, b ≠ S → b ≠ z → b ≠ TO → b ≠ i1 → b ≠ i2 → s.heap.get? b = some o → h'.get? b = some o) → h'.get? S = some { cls := .type "list", dict := none, data := .seq acc c, slots := #[] } → as.length = min n1 n2 → ZpG P1 P2 S h' as →
      acc.toList = as.map Value.ref → R (.ok (.ret res)) { s with heap := h', toks := tk }) :
    wpAny (model prog w) A.in1 (Builtin.List.listExtendWith (.ref S) (.ref z) res)
      (fun fin s' => match fin with | .done f => R (.ok f) s' | .again c' => c'.quiet = true ∧ codeAny (model prog w) A c' R s') (fun e s' => R (.error e) s') s := by
  have hTy : s.TypeIs (.ref z) "zip" := ⟨_, hz, rfl⟩
  have hSz : S ≠ z := Nat.ne_of_gt L.z
  have key : ∀ (h : Heap) (c₁ tk : Nat), (∀ b o, b ≠ S → s.heap.get? b = some o → h.get? b = some o) →
      h.get? S = some { cls := .type "list", data := .seq #[] c₁ } → codeAny (model prog w) A (.builtin "list.extend.loop" ⟨[.ref S, .ref z, res], []⟩) R { s with heap := h, toks := tk } := by
    intro h c₁ tk hk hS₁
    exact zp_loop (s := s) (h₁ := s.heap) Z L D1 D2 hn res hR (min n1 n2) 0 h tk c₁ #[] [] (Nat.sub_zero _) (Nat.zero_le _) (hst.keep L D1 D2 hk) (fun b o h1 _ _ _ _ e => hk b o h1 e) hS₁ rfl rfl
      ⟨List.Pairwise.nil, (fun _ ha => nomatch ha), (fun j a hj => by simp at hj)⟩
  unfold Builtin.List.listExtendWith
  refine wpAny_bind (wpAny_typeOf (T := "zip") hTy ?_)
  have h1 : Builtin.List.listSameRef (.ref S) (.ref z) = false := by simp [Builtin.List.listSameRef, hSz]
  have h2 : (Value.type "zip" == Value.type "list") = false := by decide
  have h3 : (Value.type "zip" == Value.type "tuple") = false := by decide
  simp only [h1, h2, h3, Bool.or_false, Bool.false_eq_true, if_false]
  refine wpAny_bind (wpAny_pyIter_zip hz ?_)
  refine wpAny_bind (wpAny_holding (zip_hint hTy ?_))
  refine wpAny_ite_split (fun _ => ?_) (fun _ => wpAny_pure ⟨plainId_quiet PySem.F.plain_extend_loop _, key _ c₀ _ (fun b o _ e => e) hS⟩)
  refine wpAny_bind (wpAny_rule ?_)
  refine wpAny_bind ?_
  show wpAny _ _ (updateSeq S (·.push .none) >>= fun _ => updateSeq S (·.pop)) _ _ _
  refine wpAny_bind (wpAny_updateSeq hS rfl ?_)
  have hS₂ := Heap.get?_update_self (Obj.mapSeq (·.push Value.none)) hS rfl
  refine wpAny_updateSeq (hz := by seq_fits) hS₂ rfl ?_
  have hS₃ := Heap.get?_update_self (Obj.mapSeq (·.pop)) hS₂ rfl
  refine wpAny_pure ⟨plainId_quiet PySem.F.plain_extend_loop _, key _ _ _ (fun b o hb e => ?_) hS₃⟩
  exact (Heap.get?_update_other _ _ (Ne.symm hb)).trans ((Heap.get?_update_other _ _ (Ne.symm hb)).trans e)
theorem zp_init {R : Result → Shared → Prop} (Z : ZipSep2 z TI TO i1 i2 fp1 fp2) (L : ZpLow S z TI TO i1 i2 fp1 fp2) (D1 : Draws prog w A.in1.in1 i1 fp1 n1 P1 St1) (D2 : Draws prog w A.in1.in1 i2 fp2 n2 P2 St2) (hz : IsZip s.heap z TI TO .none) (hst : ZpSt s.heap S z TI TO i1 i2 St1 St2 0)
    (hS : s.heap.get? S = some { cls := .type "list", data := .seq #[] }) (hn : min n1 n2 ≤ sizeLine)
    (hR : ∀ h' tk acc c as, (∀ b o, b ≠ S → b ≠ z → b ≠ TO → b ≠ i1 → b ≠ i2 → s.heap.get? b = some o → h'.get? b = some o) → h'.get? S = some { cls := .type "list", dict := none, data := .seq acc c, slots := #[] } → as.length = min n1 n2 → ZpG P1 P2 S h' as →
      acc.toList = as.map Value.ref → R (.ok (.ret .none)) { s with heap := h', toks := tk }) :
    wpAny (model prog w) A.in1 (Builtin.«list.__init__» ⟨[.ref S, .ref z], []⟩)
      (fun fin s' => match fin with | .done f => R (.ok f) s' | .again c' => c'.quiet = true ∧ codeAny (model prog w) A c' R s') (fun e s' => R (.error e) s') s := by
  show wpAny _ _ (do let old ← Builtin.List.listItems (.ref S); Builtin.List.listUpdate (.ref S) (fun _ => #[]); letGo old.toList.reverse; Builtin.List.listExtendWith (.ref S) (.ref z) .none) _ _ s
  refine wpAny_bind ?_
  unfold Builtin.List.listItems
  refine wpAny_bind (wpAny_seqItems hS rfl (wpAny_pure ?_))
  show wpAny _ _ (updateSeq S (fun _ => #[]) >>= fun _ => letGo (#[] : Array Value).toList.reverse >>= fun _ => Builtin.List.listExtendWith (.ref S) (.ref z) .none) _ _ s
  refine wpAny_bind (wpAny_updateSeq hS rfl ?_)
  have hS₂ := Heap.get?_update_self (Obj.mapSeq (fun _ => (#[] : Array Value))) hS rfl
  have oth : ∀ b o, b ≠ S → s.heap.get? b = some o → (s.heap.update S (Obj.mapSeq (fun _ => (#[] : Array Value)))).get? b = some o :=
    fun b o hb e => (Heap.get?_update_other _ _ (Ne.symm hb)).trans e
  refine wpAny_bind (wpAny_letGo ?_)
  refine zp_extend Z L D1 D2 (oth _ _ (Nat.ne_of_lt L.z) hz) (hst.keep L D1 D2 oth) .none _ hS₂ hn (fun h' tk acc c as hk hS' hl hG hacc => ?_)
  exact hR h' tk acc c as (fun b o hb h2 h3 h4 h5 e => hk b o hb h2 h3 h4 h5 (oth b o hb e)) hS' hl hG hacc
theorem zp_call {Q : Value → Shared → Prop} (Z : ZipSep2 z TI TO i1 i2 fp1 fp2) (L : ZpLow s.heap.objs.size z TI TO i1 i2 fp1 fp2) (D1 : Draws prog w A.in1.in1.in1 i1 fp1 n1 P1 St1) (D2 : Draws prog w A.in1.in1.in1 i2 fp2 n2 P2 St2) (hz : IsZip s.heap z TI TO .none) (hst : ZpSt s.heap s.heap.objs.size z TI TO i1 i2 St1 St2 0) (hn : min n1 n2 ≤ sizeLine)
    (hQ : ∀ h' tk acc c as, (∀ b o, b ≠ z → b ≠ TO → b ≠ i1 → b ≠ i2 → s.heap.get? b = some o → h'.get? b = some o) → h'.get? s.heap.objs.size = some { cls := .type "list", dict := none, data := .seq acc c, slots := #[] } → as.length = min n1 n2 → ZpG P1 P2 s.heap.objs.size h' as →
      acc.toList = as.map Value.ref → Q (.ref s.heap.objs.size) { s with heap := h', toks := tk }) :
    wpAny (model prog w) A (call (.type "list") [.ref z]) Q E s := by
  refine callType_codes (Q₁ := fun obj s₁ => obj = .ref s.heap.objs.size ∧ s₁ = { s with heap := s.heap.push { cls := .type "list", data := .seq #[] } }) PySem.F.called_list (PySem.F.typeCall_list_1 _) PySem.F.entry_list_init
    (code_list_new _ ⟨rfl, rfl⟩) fun obj s₁ h₁ => ?_
  obtain ⟨rfl, rfl⟩ := h₁
  have hS : (s.heap.push { cls := .type "list", data := .seq #[] }).get? s.heap.objs.size = some { cls := .type "list", data := .seq #[] } := Heap.get?_push_size _ rfl
  refine ⟨⟨_, hS, rfl⟩, PySem.F.args_list_init_2 _ _, zp_init (A := A.in1) Z L D1 D2 (Heap.get?_push_of_some _ hz) (hst.keep L D1 D2 fun b o _ e => Heap.get?_push_of_some _ e) hS hn (fun h' tk acc c as hk hS' hl hG hacc => ?_)⟩
  exact ⟨rfl, hQ h' tk acc c as (fun b o h2 h3 h4 h5 e => hk b o (Nat.ne_of_lt (Heap.lt_size e)) h2 h3 h4 h5 (Heap.get?_push_of_some _ e)) hS' hl hG hacc⟩
end
/-- what list(zip(a, b)) asks -/
def tLiZ (K : PySem.W.Frag) (ta : TA) : TE := fun σ H Q => ta σ H fun vs H1 => ∃ (a b : Addr) (xs ys : List V), vs = [.ref a, .ref b] ∧ SqT K H1 a xs ∧ SqT K H1 b ys ∧
  ∀ (H' : Hp) (p : Addr) (ts : List Addr), Same H1 H' → H1 p = none → H' p = some (.lst (ts.map V.ref)) → Paired (fun (t : Addr) (q : V × V) => H' t = some (.tup [q.1, q.2])) ts (xs.zip ys) → Q (.ref p) H'
section
variable {X : Cx}
theorem pairs_new {pins : List (Addr × Obj)} {σ : L2.St} {H : Hp} {s : Shared} {h' : Heap} {tk c : Nat} {acc : Array Value} {as : List Addr} {n : Addr} {qs : List (V × V)} (I : Inv X pins σ H s) (low : s.heap.objs.size ≤ n) (kp : ∀ b ob, s.heap.get? b = some ob → h'.get? b = some ob)
    (hS : h'.get? n = some { cls := .type "list", dict := none, data := .seq acc c, slots := #[] }) (hl : as.length = qs.length) (hz : qs.length ≤ sizeLine) (rise : as.Pairwise (· < ·)) (above : ∀ a ∈ as, n < a)
    (each : ∀ (j : Nat) (a : Addr) (q : V × V), as[j]? = some a → qs[j]? = some q → ∃ u v, RelV q.1 u ∧ RelV q.2 v ∧ h'.get? a = some { cls := .type "tuple", data := .seq #[u, v] }) (hacc : acc.toList = as.map Value.ref)
    {Q : VK} (q : ∀ (H' : Hp) (p : Addr) (ts : List Addr), Same H H' → H p = none → H' p = some (.lst (ts.map V.ref)) → Paired (fun (t : Addr) (q : V × V) => H' t = some (.tup [q.1, q.2])) ts qs → Q (.ref p) H') :
    ∃ H', Inv X pins σ H' { s with heap := h', toks := tk } ∧ Q (.ref n) H' := by
  obtain ⟨L, eL⟩ : ∃ L : List (Addr × List V), L = (as.zip qs).map fun p => (p.1, [p.2.1, p.2.2]) := ⟨_, rfl⟩
  have h1 : L.map (·.1) = as := by
    rw [eL, List.map_map]
    exact List.map_fst_zip (Nat.le_of_eq hl)
  have get : ∀ (j : Nat) (a : Addr) (q : V × V), as[j]? = some a → qs[j]? = some q → L[j]? = some (a, [q.1, q.2]) := fun j a q e1 e2 => by
    rw [eL, List.getElem?_map, List.getElem?_zip_eq_some (z := (a, q)) |>.mpr ⟨e1, e2⟩]
    rfl
  have h2 : ∀ t ∈ L, ∃ u v q1 q2, t.2 = [q1, q2] ∧ RelV q1 u ∧ RelV q2 v ∧ h'.get? t.1 = some { cls := .type "tuple", data := .seq #[u, v] } := fun t ht => by
    rw [eL] at ht
    obtain ⟨⟨a, q⟩, hp, rfl⟩ := List.mem_map.mp ht
    obtain ⟨j, hj⟩ := List.mem_iff_getElem?.mp hp
    obtain ⟨e1, e2⟩ := List.getElem?_zip_eq_some.mp hj
    obtain ⟨u, v, r1, r2, r3⟩ := each j a q e1 e2
    exact ⟨u, v, q.1, q.2, rfl, r1, r2, r3⟩
  have nd : as.Nodup := refs_nd rise
  have ndL : (L.map (·.1)).Nodup := by rw [h1]; exact nd
  have nin : n ∉ as := fun y => Nat.lt_irrefl _ (above n y)
  have fresh : ∀ a, s.heap.objs.size ≤ a → H a = none := fun a y => I.hok.fresh y
  have z2 : (as.map V.ref).length ≤ sizeLine := by
    rw [List.length_map, hl]
    exact hz
  have I1 : Inv X pins σ (upd H n (.lst (as.map V.ref))) { s with heap := h', toks := tk } := I.laid (t' := tk) kp low ⟨z2, acc.toList, c, by rw [hacc]; exact vals_rf as, by rw [Array.toArray_toList]; exact hS⟩
  have I2 := lay_inv (L := L) I1 ndL fun t ht => by
    have ta : t.1 ∈ as := by
      rw [← h1]
      exact List.mem_map.mpr ⟨t, ht, rfl⟩
    have up : s.heap.objs.size ≤ t.1 := Nat.le_of_lt (Nat.lt_of_le_of_lt low (above _ ta))
    obtain ⟨f0, f⟩ := I.fpOk up (fresh _ up)
    obtain ⟨u, v, q1, q2, e1, e2, e3, e4⟩ := h2 t ht
    refine ⟨⟨?_, f⟩, fun H2 => ?_⟩
    · rw [upd_ne (fun y => nin (by rw [← y]; exact ta))]
      exact f0
    · rw [e1]
      exact ⟨by show 2 ≤ sizeLine; decide, [u, v], .cons e2 (.cons e3 .nil), ⟨_, e4, rfl, _, rfl⟩⟩
  refine ⟨_, I2, q _ n as (fun b ob eb => ?_) (fresh n low) ?_ (paired_of hl fun j a kv ea ek => ?_)⟩
  · rw [lay_off, upd_ne (ne_of_none eb (fresh n low))]
    · exact eb
    · rw [h1]
      intro y
      rw [fresh b (Nat.le_of_lt (Nat.lt_of_le_of_lt low (above b y)))] at eb
      cases eb
  · rw [lay_off (by rw [h1]; exact nin), upd_same]
  · exact lay_in (H := upd H n (.lst (as.map V.ref))) ndL (List.mem_of_getElem? (get j a kv ea ek))
variable {e e2 : Expr} {ta : TA} {p p2 pos pos2 : Pos}
theorem vals_get {vs : List V} {us : List Value} : Vals vs us → ∀ {j : Nat} {v : V} {u : Value}, vs[j]? = some v → us[j]? = some u → RelV v u := fun r j v u e1 e2 => by
  induction r generalizing j with
  | nil => cases e1
  | cons h _ ih =>
    cases j with
    | zero =>
      cases e1
      cases e2
      exact h
    | succ j => exact ih _ e1 e2
theorem pe_liZ (hc : X.calm = true) (hg : Gl X "list") (hm : X.mg "list" = none) (hg2 : Gl X "zip") (hm2 : X.mg "zip" = none) (ha : PA X [e, e2] ta)
    (hs : starEach [.Call (.Name "zip" p2) [e, e2] [] pos2] X.env = (false, eval (.Call (.Name "zip" p2) [e, e2] [] pos2) X.env) :: starEach [] X.env := by rfl)
    (hs2 : starEach [e, e2] X.env = (false, eval e X.env) :: starEach [e2] X.env := by rfl) (hpl : (backTo pos2 (starEach [e2] X.env)).any (·.1) = false := by rfl) :
    PE X (.Call (.Name "list" p) [.Call (.Name "zip" p2) [e, e2] [] pos2] [] pos) (tLiZ X.K ta) := by
  refine ⟨fun pins s σ H Q I ask => wpAny_Call_Name_kw (ld_blt I hg hm PyProof.Rows.boot_list (PyProof.Rows.callWith_type1 ?_ hs rfl))⟩
  rw [hs]
  show wpAny _ _ (spliced ((false, eval (.Call (.Name "zip" p2) [e, e2] [] pos2) X.env) :: backTo pos (starEach [] X.env))) _ _ s
  refine Calls.spliced_cons ?_
  refine Call_ (ld_blt I hg2 hm2 PyProof.Rows.boot_zip (PyProof.Rows.callWith_type1 (thn (ha.run pos2 pins s σ H _ I ask) fun us s1 ⟨vs, H1, I1, r1, q1⟩ => ?_) hs2 hpl))
  obtain ⟨a, b, xs, ys, ex, hqx, hqy, q⟩ := q1
  subst ex
  cases r1 with
  | cons r rr =>
    cases rr with
    | cons r' rr =>
      cases rr
      cases r
      cases r'
      obtain ⟨its, rv, p1, z1⟩ := I1.tuple hqx
      obtain ⟨its2, rv2, p2', z2⟩ := I1.tuple hqy
      have hd := I1.ok.hd hc
      obtain ⟨oa, hoa, _⟩ := id p1
      obtain ⟨ob, hob, _⟩ := id p2'
      have la : a < s1.heap.objs.size := Heap.lt_size hoa
      have lb : b < s1.heap.objs.size := Heap.lt_size hob
      refine zip_begins2 (begins_tuple a its.toArray) (begins_tuple b its2.toArray) p1 p2' fun h' hz hTI hTO g1 g2 hsz hk => Calls.spliced_nil ?_
      have t1 : h'.IsTuple a its.toArray := (show s1.heap.IsTuple a its.toArray from p1).at fun o e => hk _ o e
      have t2 : h'.IsTuple b its2.toArray := (show s1.heap.IsTuple b its2.toArray from p2').at fun o e => hk _ o e
      have lx := rv.length
      have ly := rv2.length
      refine zp_call (s := { s1 with heap := h' }) (fp1 := [s1.heap.objs.size, a]) (fp2 := [s1.heap.objs.size + 1, b])
        (zip_sep2 (fun x hx => by rw [List.mem_singleton.mp hx]; exact la) (fun x hx => by rw [List.mem_singleton.mp hx]; exact lb)) ?_
        (Draws.tuple (A := X.A.in1.in1.in1) hd s1.heap.objs.size a (Nat.ne_of_lt la) its.toArray) (Draws.tuple (A := X.A.in1.in1.in1) hd (s1.heap.objs.size + 1) b (Nat.ne_of_lt (Nat.lt_succ_of_lt lb)) its2.toArray) hz
        ⟨hTI, ⟨⟨_, g1, rfl, rfl⟩, t1⟩, ⟨⟨_, g2, rfl, rfl⟩, t2⟩, .inl ⟨hz, _, _, hTO⟩⟩ ?_ fun h2 tk acc c as hk2 hS hl hG hacc => ?_
      · have e : ({ s1 with heap := h' } : Shared).heap.objs.size = s1.heap.objs.size + 5 := hsz
        rw [e]
        refine ⟨?_, ?_, ?_, ?_, ?_, fun x hx => ?_, fun x hx => ?_⟩
        · show (s1.heap.objs.size + 4 : Nat) < s1.heap.objs.size + 5
          omega
        · show (s1.heap.objs.size + 2 : Nat) < s1.heap.objs.size + 5
          omega
        · show (s1.heap.objs.size + 3 : Nat) < s1.heap.objs.size + 5
          omega
        · show (s1.heap.objs.size : Nat) < s1.heap.objs.size + 5
          omega
        · show (s1.heap.objs.size + 1 : Nat) < s1.heap.objs.size + 5
          omega
        · rcases List.mem_cons.mp hx with rfl | hx
          · show (s1.heap.objs.size : Nat) < s1.heap.objs.size + 5
            omega
          · rw [List.mem_singleton.mp hx]
            exact Nat.lt_of_lt_of_le la (Nat.le_add_right _ _)
        · rcases List.mem_cons.mp hx with rfl | hx
          · show (s1.heap.objs.size + 1 : Nat) < s1.heap.objs.size + 5
            omega
          · rw [List.mem_singleton.mp hx]
            exact Nat.lt_of_lt_of_le lb (Nat.le_add_right _ _)
      · show min its.toArray.size its2.toArray.size ≤ sizeLine
        simp only [List.size_toArray]
        omega
      · have low : s1.heap.objs.size ≤ h'.objs.size := by rw [hsz]; exact Nat.le_add_right _ _
        obtain ⟨H', J, y⟩ := pairs_new (tk := tk) (qs := xs.zip ys) I1 low (fun x o e => hk2 x o (fun z => by
            have := Heap.lt_size e
            rw [z] at this
            exact absurd this (by show ¬ (s1.heap.objs.size + 4 : Nat) < s1.heap.objs.size; omega)) (fun z => by
            have := Heap.lt_size e
            rw [z] at this
            exact absurd this (by show ¬ (s1.heap.objs.size + 3 : Nat) < s1.heap.objs.size; omega)) (fun z => by
            have := Heap.lt_size e
            rw [z] at this
            exact absurd this (by show ¬ (s1.heap.objs.size : Nat) < s1.heap.objs.size; omega)) (fun z => by
            have := Heap.lt_size e
            rw [z] at this
            exact absurd this (by show ¬ (s1.heap.objs.size + 1 : Nat) < s1.heap.objs.size; omega)) (hk x o e)) hS (by
            rw [hl, List.length_zip]
            simp only [List.size_toArray]
            omega) (by rw [List.length_zip]; omega) hG.rise hG.above (fun j x q ex eq => by
            obtain ⟨u, v, u1, v1, e3⟩ := hG.pairs j x ex
            obtain ⟨e1, e2⟩ := List.getElem?_zip_eq_some.mp eq
            exact ⟨u, v, vals_get rv e1 (by simpa using u1), vals_get rv2 e2 (by simpa using v1), e3⟩) hacc q
        exact ⟨.ref _, H', J, rfl, y⟩
end
end Fa

/-! a range that a name holds -/
namespace Fa
open PySem PySem.Spec PyProof.Rows L2
def RgO (p : Addr) (lo hi : Int) : HO := .ext fun h => ∃ t u v, IsRange h p lo hi 1 t u v
theorem rgO_ok {P : Program} {w : World} {H : Hp} {h : Heap} {p : Addr} {lo hi : Int} {t u v : Tok} (e : IsRange h p lo hi 1 t u v) : ObjOk P w H h p (RgO p lo hi) :=
  ⟨⟨t, u, v, e⟩, ⟨_, e⟩, fun _ _ ⟨t, u, v, a⟩ k => ⟨t, u, v, k _ a⟩⟩
section
variable {X : Cx}
def tRgO (ta : TA) : TE := fun σ H Q => ta σ H fun vs H1 => ∃ i j : Int, vs = [.int i, .int j] ∧ ∀ p, H1 p = none → Q (.ref p) (upd H1 p (RgO p i j))
theorem pe_rg2 {a b : Expr} {ta : TA} {p pos : Pos} (hg : Gl X "range") (hm : X.mg "range" = none) (ha : PA X [a, b] ta) (n2 : starEach [a, b] X.env = [(false, eval a X.env), (false, eval b X.env)] := by rfl) (n1 : starEach [b] X.env = [(false, eval b X.env)] := by rfl) :
    PE X (.Call (.Name "range" p) [a, b] [] pos) (tRgO ta) := by
  refine ⟨fun pins s σ H Q I ask => Call_ (ld_blt I hg hm boot_range (PyProof.Rows.callWith_type1 (thn (ha.run pos pins s σ H _ I ask) fun us s1 ⟨vs, H1, I1, r1, i, j, e, q⟩ => ?_) (by rw [n2, n1]) (by rw [n1]; rfl)))⟩
  subst e
  cases r1 with
  | cons x y =>
    cases y with
    | cons y z =>
      cases z
      obtain ⟨t1, rfl⟩ := x
      obtain ⟨t2, rfl⟩ := y
      exact call_range_2 ⟨.ref s1.heap.objs.size, upd H1 s1.heap.objs.size (RgO s1.heap.objs.size i j), I1.laid (o := RgO _ i j) (fun _ _ k => Heap.get?_push_of_some _ k) (Nat.le_refl _) (rgO_ok (IsRange.new _ _ _ _ _ _ _)), rfl, q _ (I1.hok.fresh (Nat.le_refl _))⟩
def iRgO (te : TE) : TI := fun σ H R => te σ H fun x H1 => ∃ (p : Addr) (lo hi : Int), x = .ref p ∧ H1 p = some (RgO p lo hi) ∧ (-(2 ^ 62) ≤ lo ∧ lo < 2 ^ 62 ∧ -(2 ^ 62) ≤ hi ∧ hi < 2 ^ 62) ∧ R (Itr lo (hi - lo).toNat) H1
theorem pi_rgO {tg e : Expr} {te : TE} (he : PE X e te) : PI X tg e (iRgO te) := by
  refine ⟨fun pins s σ H R I ask => thn (he.run pins s σ H _ I ask) fun u s1 ⟨x, H1, I1, r1, p, lo, hi, ex, ep, ⟨b1, b2, b3, b4⟩, q⟩ => ?_⟩
  subst ex
  cases (show u = Value.ref p from r1)
  obtain ⟨⟨t, v, z, isr⟩, _⟩ := I1.hok p _ ep
  refine wpAny_pyIter_range isr (small_one b1 b2 b3 b4) ⟨s1.heap.objs.size, [s1.heap.objs.size], _, _, H1, rfl, I1.kept (t' := s1.toks) fun _ _ k => Heap.get?_push_of_some _ k, turn_range _ lo (hi - lo).toNat, ?_, fun b hb => ?_, q⟩
  · have z1 : lo + ((0 : Nat) : Int) * 1 = lo := by simp
    have z2 : (((hi - lo).toNat : Nat) : Int) - ((0 : Nat) : Int) = Builtin.Range.rangeSize lo hi 1 := by
      rw [rangeSize_one]
      split <;> omega
    show IsRangeIter _ _ (lo + ((0 : Nat) : Int) * 1) ((((hi - lo).toNat : Nat) : Int) - ((0 : Nat) : Int)) 1
    rw [z1, z2]
    exact Heap.get?_push_size _ rfl
  · obtain rfl := List.mem_singleton.mp hb
    exact I1.fpOk (Nat.le_refl _) (I1.hok.fresh (Nat.le_refl _))
theorem revLQ (K : PySem.W.Frag) {e : Expr} {te : TE} {k : Nat} {p1 p2 p3 pos : Pos} (he : PE X e te) (h : X.K = K := by rfl) : PE X (.Subscript e (.Slice none none (some (.UnaryOp .USub (.Constant (.int 1) k p1) p2)) p3) pos) (tRevL K te) := h ▸ pe_revL he
theorem notInDQ (K : PySem.W.Frag) (hu : X.A.units + 66 < cLine) (h : X.K = K := by rfl) : OpR X (compareOp .NotIn) (rNotInD K) := h ▸ op_notInD (Nat.lt_of_succ_lt hu)
end
end Fa

/-! lists of pairs of days; comprehensions whose items are told ahead -/
namespace Fa
open PySem PySem.Spec PyProof.Rows L2
/-- [e for x in xs], the items ys -/
theorem lc_listV {K : PySem.W.Frag} {a : Addr} {xs ys : List V} {g : TG} {te : TE} {vs : List Nat} {σ : L2.St} {H0 H1 : Hp} {D : Addr} {Qd : Hp → Prop} (hl : ys.length = xs.length) (hn : xs.length ≤ 900) (s0 : Same H0 H1) (ha : SqL K H1 a xs) (nD : H1 D = none)
    (hs : ∀ (i : Nat) (x y : V) (H : Hp) (Qe : VK) (N : Hp → Prop), xs[i]? = some x → ys[i]? = some y → Same H1 H → (∀ H4, Same H H4 → Qe y H4) → g x (wipe σ vs) H fun σ2 H2 => wipe σ2 vs = wipe σ vs ∧ tYes σ2 H2 fun b H3 => if b = true then te σ2 H3 Qe else N H3)
    (hd : ∀ H, Same H0 H → H D = some (.lst ys) → Qd H) :
    ∃ W : Nat → Nat → Hp → Prop, (∃ m, W 0 m (upd H1 D (.lst []))) ∧ ∀ i m H, W i m H →
      ((Itl K a).stop i H ∧ Qd H) ∨ ((Itl K a).go i H ∧ ∃ Nx : Hp → Prop, (∀ H', Nx H' → ∃ m', m' < m ∧ W (i + 1) m' H') ∧ ∀ x H', (Itl K a).yld i H x H' → g x (wipe σ vs) H' fun σ2 H2 => wipe σ2 vs = wipe σ vs ∧ tYes σ2 H2 fun b H3 =>
        if b = true then te σ2 H3 fun y H4 => ∃ acc, H4 D = some (.lst acc) ∧ acc.length < sizeLine ∧ Nx (upd H4 D (.lst (acc ++ [y]))) else Nx H3) := by
  refine lc_list (xs := xs) (fun i H => Same H1 H ∧ H D = some (.lst (ys.take i))) ⟨same_new nD, by rw [upd_same]; rfl⟩ (fun i H _ h => h.1.seq ha) ?_ fun H h => hd H (s0.trans h.1) (by rw [h.2, ← hl, List.take_length])
  rintro i x H hx ⟨s, e⟩
  have hi : i < xs.length := (List.getElem?_eq_some_iff.mp hx).1
  have hy : ys[i]? = some ys[i] := List.getElem?_eq_getElem (by omega)
  refine hs i x ys[i] H _ _ hx hy s fun H4 s4 => ⟨_, s4 _ _ e, ?_, fun b o z => ?_, ?_⟩
  · rw [List.length_take]
    exact small1000 (by omega)
  · rw [upd_ne (ne_of_none z nD)]
    exact s4 _ _ (s _ _ z)
  · rw [upd_same, List.take_add_one, hy]
    rfl
/-- a list of tuples of two numbers -/
def PrAt (H : Hp) (l : Addr) (ps : List (Int × Int)) : Prop := ∃ ts : List Addr, H l = some (.lst (ts.map V.ref)) ∧ Paired (fun (t : Addr) (q : Int × Int) => H t = some (.tup [.int q.1, .int q.2])) ts ps
theorem PrAt.same {H H' : Hp} {l : Addr} {ps : List (Int × Int)} (h : PrAt H l ps) (s : Same H H') : PrAt H' l ps := by
  obtain ⟨ts, e, p⟩ := h
  exact ⟨ts, s _ _ e, L2.Paired.mapP p fun _ _ z => s _ _ z⟩
/-- a pattern's steps -/
def stp (ds : List Int) : List (Int × Int) := ds.zip ds.tail
theorem stp_mem {n : Int} {ds : List Int} (h : Pat n ds) {p : Int × Int} (hp : p ∈ stp ds) : 0 ≤ p.1 ∧ p.1 < p.2 ∧ p.2 < n := by
  obtain ⟨j, hj⟩ := List.mem_iff_getElem?.mp hp
  obtain ⟨e1, e2⟩ := List.getElem?_zip_eq_some.mp hj
  rw [List.getElem?_tail] at e2
  obtain ⟨l1, e1⟩ := List.getElem?_eq_some_iff.mp e1
  obtain ⟨l2, e2⟩ := List.getElem?_eq_some_iff.mp e2
  have := List.pairwise_iff_getElem.mp h.asc j (j + 1) l1 l2 (Nat.lt_succ_self j)
  have b1 := h.bd p.1 (by rw [← e1]; exact List.getElem_mem l1)
  have b2 := h.bd p.2 (by rw [← e2]; exact List.getElem_mem l2)
  rw [e1, e2] at this
  exact ⟨b1.1, this, b2.2⟩
theorem stp_len {n : Int} {ds : List Int} (h : Pat n ds) (hn : n ≤ 30) : (stp ds).length ≤ 30 := by
  unfold stp
  rw [List.length_zip]
  have := h.len
  omega
theorem zip_ints (l m : List Int) : (l.map V.int).zip (m.map V.int) = (l.zip m).map fun p => (V.int p.1, V.int p.2) := by
  rw [List.zip_map]
  rfl
theorem paired_mapR {α β γ : Type} {F : α → γ → Prop} (f : β → γ) : ∀ {l : List α} {m : List β}, Paired F l (m.map f) → Paired (fun a b => F a (f b)) l m
  | [], [], _ => .nil
  | _ :: _, _ :: _, h => by
    cases h with
    | cons h1 h2 => exact .cons h1 (paired_mapR f h2)
  | [], _ :: _, h => by cases h
  | _ :: _, [], h => by cases h
theorem cut_tail1 (l : List Int) : cutV (l.map V.int) (some 1) none = (l.tail).map V.int := by
  cases l with
  | nil => rfl
  | cons x xs => exact cut_tail _ _
/-- a comprehension over such a list -/
theorem pr_at {H : Hp} {ts : List Addr} {ps : List (Int × Int)} (h : Paired (fun (t : Addr) (q : Int × Int) => H t = some (.tup [.int q.1, .int q.2])) ts ps) {i : Nat} {x : V} (e : (ts.map V.ref)[i]? = some x) : ∃ t p, x = .ref t ∧ ps[i]? = some p ∧ H t = some (.tup [.int p.1, .int p.2]) := by
  rw [List.getElem?_map] at e
  cases e1 : ts[i]? with
  | none =>
    rw [e1] at e
    cases e
  | some t =>
    rw [e1] at e
    cases e
    obtain ⟨p, ep, hp⟩ := paired_at h e1
    exact ⟨t, p, rfl, ep, hp⟩
end Fa

namespace K21
open PySem PySem.Spec PyProof.Rows L2 Fa
abbrev s_check_pattern : Stmt := topS 21
abbrev N_check_pattern : List Str := ["sheet", "pattern"]
theorem sc_check_pattern : FnScope N_check_pattern ["sheet", "pattern"] (defScope s_check_pattern) := ⟨rfl, rfl, rfl, by decide +kernel, rfl, by decide +kernel, by decide +kernel⟩
abbrev s__steps : Stmt := topS 49
abbrev N__steps : List Str := ["pattern"]
theorem sc__steps : FnScope N__steps ["pattern"] (defScope s__steps) := ⟨rfl, rfl, rfl, by decide +kernel, rfl, by decide +kernel, by decide +kernel⟩
abbrev s__is_joined : Stmt := topS 50
abbrev N__is_joined : List Str := ["sheet", "pattern", "first", "second"]
theorem sc__is_joined : FnScope N__is_joined ["sheet", "pattern"] (defScope s__is_joined) := ⟨rfl, rfl, rfl, by decide +kernel, rfl, by decide +kernel, by decide +kernel⟩
abbrev s__most_between : Stmt := topS 51
abbrev N__most_between : List Str := ["sheet", "first", "second"]
theorem sc__most_between : FnScope N__most_between ["sheet", "first", "second"] (defScope s__most_between) := ⟨rfl, rfl, rfl, by decide +kernel, rfl, by decide +kernel, by decide +kernel⟩
abbrev s__least_of : Stmt := topS 52
abbrev N__least_of : List Str := ["sheet", "pattern", "new", "_", "gone", "gaps", "first", "second", "day"]
theorem sc__least_of : FnScope N__least_of ["sheet", "pattern"] (defScope s__least_of) := ⟨rfl, rfl, rfl, by decide +kernel, rfl, by decide +kernel, by decide +kernel⟩
abbrev s__range_of : Stmt := topS 48
abbrev N__range_of : List Str := ["sheet", "pattern", "away", "fresh", "bounds", "first", "second"]
theorem sc__range_of : FnScope N__range_of ["sheet", "pattern"] (defScope s__range_of) := ⟨rfl, rfl, rfl, by decide +kernel, rfl, by decide +kernel, by decide +kernel⟩
abbrev s_pattern_range : Stmt := topS 45
abbrev N_pattern_range : List Str := ["sheet", "pattern"]
theorem sc_pattern_range : FnScope N_pattern_range ["sheet", "pattern"] (defScope s_pattern_range) := ⟨rfl, rfl, rfl, by decide +kernel, rfl, by decide +kernel, by decide +kernel⟩
abbrev s_daily_range : Stmt := topS 47
abbrev N_daily_range : List Str := ["sheet"]
theorem sc_daily_range : FnScope N_daily_range ["sheet"] (defScope s_daily_range) := ⟨rfl, rfl, rfl, by decide +kernel, rfl, by decide +kernel, by decide +kernel⟩
theorem anyQ (K : PySem.W.Frag) {X : Cx} (hc : X.calm = true) (h : X.K = K := by rfl) : CallR X (.builtin "any") (rAny K) := h ▸ cr_any hc
theorem mnQ (K : PySem.W.Frag) {X : Cx} (hc : X.calm = true) (h : X.K = K := by rfl) : CallR X (.builtin "min") (rMin K) := h ▸ cr_min hc
theorem b_any : bootBuiltins "any" = some (.builtin "any") := by decide +kernel
/-- whether some step is as long as the width; the most of a step; the ends of a pattern -/
def jnB (w : Nat) (ds : List Int) : Bool := (stp ds).any fun p => decide (p.2 - p.1 ≥ (w : Int))
def mstB (f : Nat → List Int) (n w : Nat) (p : Int × Int) : Int := if p.2 - p.1 < (w : Int) then gp f p.1 p.2 else mn2 (aw f n w p.1) (fr f w p.2)
def fstD (ds : List Int) : Int := ds.headD 0
def lstD (ds : List Int) : Int := ds.getLastD 0
def prL (f : Nat → List Int) (n w : Nat) (ds : List Int) : Int := if jnB w ds = true then 0 else mx0 ((newR f n w (fstD ds)).1 + ((stp ds).map fun p => gp f p.1 p.2).sum + (goneR f n w (lstD ds)).1 - (ds.map fun d => uu f d d).sum)
def bndL (f : Nat → List Int) (n w : Nat) (ds : List Int) : List Int := [fr f w (fstD ds), aw f n w (lstD ds)] ++ (stp ds).map (mstB f n w)
def mnL : List Int → Int
  | [] => 0
  | [x] => x
  | x :: y :: r => mn2 x (mnL (y :: r))
theorem mnL_ok : ∀ l : List Int, l ≠ [] → mnL l ∈ l ∧ ∀ x ∈ l, mnL l ≤ x
  | [x], _ => ⟨List.mem_cons_self, fun y hy => by rw [List.mem_singleton.mp hy]; exact Int.le_refl _⟩
  | x :: y :: r, _ => by
    obtain ⟨h1, h2⟩ := mnL_ok (y :: r) (List.cons_ne_nil _ _)
    show mn2 x (mnL (y :: r)) ∈ _ ∧ ∀ z ∈ _, mn2 x (mnL (y :: r)) ≤ z
    unfold mn2
    split
    · exact ⟨List.mem_cons_of_mem _ h1, fun z hz => by
        rcases List.mem_cons.mp hz with rfl | hz
        · omega
        · exact h2 z hz⟩
    · exact ⟨List.mem_cons_self, fun z hz => by
        rcases List.mem_cons.mp hz with rfl | hz
        · exact Int.le_refl _
        · have := h2 z hz
          omega⟩
def prR (f : Nat → List Int) (n w : Nat) (ds : List Int) : Two := (prL f n w ds, mnL (bndL f n w ds))
theorem pat_fst {n : Int} {ds : List Int} (h : Pat n ds) : atI (ds.map V.int) 0 = some (.int (fstD ds)) ∧ fstD ds ∈ ds := by
  cases ds with
  | nil => exact absurd rfl h.ne
  | cons x r => exact ⟨atI_int (by decide) rfl, List.mem_cons_self⟩
theorem pat_lst {n : Int} {ds : List Int} (h : Pat n ds) : atI (ds.map V.int) (-1) = some (.int (lstD ds)) ∧ lstD ds ∈ ds := by
  have e : lstD ds = ds.getLast h.ne := by
    unfold lstD
    cases ds with
    | nil => exact absurd rfl h.ne
    | cons x r => exact (List.getLastD_cons ..).trans (List.getLast_eq_getLastD ..).symm
  refine ⟨atI_neg1 ?_ fun z => h.ne (List.map_eq_nil_iff.mp z), by rw [e]; exact List.getLast_mem h.ne⟩
  rw [List.length_map, List.getElem?_map, e, List.getLast_eq_getElem]
  rw [List.getElem?_eq_getElem]
  rfl
section
variable {P : Program} {w : World} {K : PySem.W.Frag} {mg : Str → Option Value} {base : Heap}
def spSteps : Sp := fun vs H Q _ => ∃ (t : Addr) (ds : List Int) (n : Int), vs = [.ref t] ∧ H t = some (.tup (ds.map V.int)) ∧ Pat n ds ∧ ∀ H' l, Same H H' → H l = none → PrAt H' l (stp ds) → Q (.ref l) H'
theorem ok_steps {f : Addr} {fd : FuncData} {k : Nat} (F : Fun K "_steps" "_steps" s__steps f fd) (m_list : mg "list" = none) (m_zip : mg "zip" = none) : FnOk P w K mg base CX0 (k + 1) f fd ["pattern"] spSteps := by
  refine F.ok sc__steps (fun vs H Q E h => ?_) (fun cdv A outer s H vs Q E hr h => ?_)
  · obtain ⟨t, _, _, rfl, _⟩ := h
    rfl
  · obtain ⟨t, ds, n, rfl, et, hp, q⟩ := h
    refine ⟨_, (pss_one (ps_ret (Fa.pe_liZ rfl (by rfl) m_list (by rfl) m_zip (pa_cons (pv 0) (pa_cons (pe_slice (Fa.slTA K) (pv 0) (po_some pe_int) po_none) pa_nil))))), ?_⟩
    refine ⟨_, rfl, _, rfl, 1, rfl, ?_⟩
    show tNoPart _ _ _
    unfold tNoPart
    refine slA_ok (.inl (.inl et)) fun H1 t2 s1 h2 => ?_
    rw [cut_tail1] at h2
    refine ⟨t, t2, _, _, rfl, .inl (.inl (s1 _ _ et)), h2, fun H2 p ts s2 np e hP => ?_⟩
    refine q H2 p (s1.trans s2) (s1.free np) ⟨ts, e, ?_⟩
    rw [zip_ints] at hP
    exact paired_mapR (F := fun (t : Addr) (q : V × V) => H2 t = some (.tup [q.1, q.2])) (fun p : Int × Int => (V.int p.1, V.int p.2)) hP
def spJn : Sp := fun vs H Q _ => ∃ (g t : Addr) (n w : Nat) (f : Nat → List Int) (ds : List Int), vs = [.ref g, .ref t] ∧ ShAt H g n w f ∧ H t = some (.tup (ds.map V.int)) ∧ Pat n ds ∧ ∀ H', Same H H' → Q (.bl (jnB w ds)) H'
theorem ok_jn {f : Addr} {fd : FuncData} {k : Nat} (F : Fun K "_is_joined" "_is_joined" s__is_joined f fd) {f__steps : Addr} {d__steps : FuncData} (F__steps : Fun K "_steps" "_steps" s__steps f__steps d__steps) (G__steps : FnOk P w K mg base CX0 k f__steps d__steps ["pattern"] spSteps) (b__steps : Binds K d__steps ["pattern"] []) (g__steps : mg "_steps" = some (.ref f__steps)) (m_any : mg "any" = none) (m_len : mg "len" = none) : FnOk P w K mg base CX0 (k + 1) f fd ["sheet", "pattern"] spJn := by
  refine F.ok sc__is_joined (fun vs H Q E h => ?_) (fun cdv A outer s H vs Q E hr h => ?_)
  · obtain ⟨g, t, _, _, _, _, rfl, _⟩ := h
    rfl
  · obtain ⟨g, t, n, m, f, ds, rfl, hS, et, hp, q⟩ := h
    refine ⟨_, (pss_one (ps_ret (pe_callB (anyQ K rfl) (by rfl) m_any b_any (pa_cons (pe_lc (own := [("first", 2), ("second", 3)]) (g := (gTup K 2 (gCons (gName 2) (gCons (gName 3) gNil)))) (tt := tYes) rfl sc__is_joined.nd (Fa.listQ K (pe_call G__steps (hr.mono (by omega)) (by rfl) g__steps F__steps.kp b__steps .nil pass0 (pa_cons (pv 1) pa_nil))) (blkOk_by (N := N__is_joined) (sc := defScope s__is_joined) (by decide +kernel)) (fun _ _ _ _ _ => (Fa.pgTQ K rfl (pgs_cons (pg_name (i := 2) sc__is_joined.nd rfl (by first | exact Or.inl rfl | exact Or.inr rfl)) (pgs_cons (pg_name (i := 3) sc__is_joined.nd rfl (by first | exact Or.inl rfl | exact Or.inr rfl)) pgs_nil)))) (fun _ _ _ _ _ => pts_nil) (fun _ _ _ _ _ => (pe_cmpR op_ge (pe_op op_sub (pv 3) (pv 2)) (pe_callB (Fa.lenQ K) (by rfl) m_len PySem.boot_len (pa_cons (pe_ix (Fa.ixL K) (pv 0) (pe_un un_neg pe_int) (fun _ _ => rfl)) pa_nil)) (nomark _)))) pa_nil)))), ?_⟩
    have n30 := hS.2.n30
    refine ⟨_, rfl, t, ds, n, rfl, et, hp, fun H1 l s1 nl hP => ?_⟩
    have sl := stp_len hp (by omega)
    obtain ⟨ts, el, pr⟩ := hP
    refine ⟨l, rfl, ⟨_, .inl (.inl el)⟩, fun D nD => ?_⟩
    have hS1 := hS.same s1
    refine lc_listV (ys := (stp ds).map fun p => V.bl (decide (p.2 - p.1 ≥ (m : Int)))) (by rw [List.length_map, List.length_map, pr.length]) (by rw [List.length_map, pr.length]; omega) s1 (.inl (.inl el)) nD (fun i x y H2 Qe N ex ey s2 qe => ?_) fun H2 s2 e2 => ?_
    · obtain ⟨u, p, rfl, ep, eu⟩ := pr_at pr ex
      rw [List.getElem?_map, ep] at ey
      cases ey
      have hS2 := hS1.same s2
      obtain ⟨⟨rows, G⟩, hf⟩ := id hS2
      obtain ⟨r, ea, er, hr'⟩ := G.last hf.n1
      refine ⟨u, _, rfl, .inl (.inl (s2 _ _ eu)), rfl, _, _, rfl, _, _, rfl, rfl, rfl, yes_if ?_⟩
      refine ⟨_, rfl, _, rfl, _, _, rfl, rfl, _, rfl, 1, rfl, g, _, _, _, rfl, rfl, .inl (.inl G.top), ea, r, _, rfl, .inl (.inl (.inl hr')), _, _, rfl, rfl, ?_⟩
      rw [List.length_map, hf.last]
      exact qe _ (Same.refl _)
    · refine ⟨D, (stp ds).map fun p => decide (p.2 - p.1 ≥ (m : Int)), rfl, .inl (.inl (by rw [e2, List.map_map]; rfl)), ?_⟩
      have e : ((stp ds).map fun p => decide (p.2 - p.1 ≥ (m : Int))).any id = jnB m ds := by
        unfold jnB
        rw [List.any_map]
        rfl
      rw [e]
      exact q _ s2
def spMstB : Sp := fun vs H Q _ => ∃ (g : Addr) (n w : Nat) (f : Nat → List Int) (a b : Int), vs = [.ref g, .int a, .int b] ∧ ShAt H g n w f ∧ 0 ≤ a ∧ a < b ∧ b < n ∧ Q (.int (mstB f n w (a, b))) H
theorem ok_mstb {f : Addr} {fd : FuncData} {k : Nat} (F : Fun K "_most_between" "_most_between" s__most_between f fd) {f_gap_between : Addr} {d_gap_between : FuncData} (F_gap_between : Fun K "gap_between" "gap_between" s_gap_between f_gap_between d_gap_between) (G_gap_between : FnOk P w K mg base CX0 k f_gap_between d_gap_between ["sheet", "first", "second"] spGapB) (b_gap_between : Binds K d_gap_between ["sheet", "first", "second"] []) (g_gap_between : mg "gap_between" = some (.ref f_gap_between)) {f_away_from : Addr} {d_away_from : FuncData} (F_away_from : Fun K "away_from" "away_from" s_away_from f_away_from d_away_from) (G_away_from : FnOk P w K mg base CX0 k f_away_from d_away_from ["sheet", "day"] spAwF) (b_away_from : Binds K d_away_from ["sheet", "day"] []) (g_away_from : mg "away_from" = some (.ref f_away_from)) {f_fresh_on : Addr} {d_fresh_on : FuncData} (F_fresh_on : Fun K "fresh_on" "fresh_on" s_fresh_on f_fresh_on d_fresh_on) (G_fresh_on : FnOk P w K mg base CX0 k f_fresh_on d_fresh_on ["sheet", "day"] spFrO) (b_fresh_on : Binds K d_fresh_on ["sheet", "day"] []) (g_fresh_on : mg "fresh_on" = some (.ref f_fresh_on)) (m_len : mg "len" = none) (m_min : mg "min" = none) : FnOk P w K mg base CX0 (k + 1) f fd ["sheet", "first", "second"] spMstB := by
  refine F.ok sc__most_between (fun vs H Q E h => ?_) (fun cdv A outer s H vs Q E hr h => ?_)
  · obtain ⟨g, _, _, _, _, _, rfl, _⟩ := h
    rfl
  · obtain ⟨g, n, m, f, a, b, rfl, hS, a0, ab, bn, q⟩ := h
    refine ⟨_, (pss_cons (ps_if (pt_cmpR op_lt (pe_op op_sub (pv 2) (pv 1)) (pe_callB (Fa.lenQ K) (by rfl) m_len PySem.boot_len (pa_cons (pe_ix (Fa.ixL K) (pv 0) (pe_un un_neg pe_int) (fun _ _ => rfl)) pa_nil)) (nomark _)) (pss_one (ps_ret (pe_call G_gap_between (hr.mono (by omega)) (by rfl) g_gap_between F_gap_between.kp b_gap_between .nil pass0 (pa_cons (pv 0) (pa_cons (pv 1) (pa_cons (pv 2) pa_nil)))))) pss_nil)
  (pss_one (ps_ret (pe_callB (call_min2 rfl) (by rfl) m_min PyProof.Rows.boot_min (pa_cons (pe_call G_away_from (hr.mono (by omega)) (by rfl) g_away_from F_away_from.kp b_away_from .nil pass0 (pa_cons (pv 0) (pa_cons (pv 1) pa_nil))) (pa_cons (pe_call G_fresh_on (hr.mono (by omega)) (by rfl) g_fresh_on F_fresh_on.kp b_fresh_on .nil pass0 (pa_cons (pv 0) (pa_cons (pv 2) pa_nil))) pa_nil)))))), ?_⟩
    obtain ⟨⟨rows, G⟩, hf⟩ := id hS
    obtain ⟨r, ea, er, hr'⟩ := G.last hf.n1
    unfold mstB at q
    dsimp only at q
    refine ⟨_, rfl, _, rfl, _, _, rfl, rfl, _, rfl, 1, rfl, g, _, _, _, rfl, rfl, .inl (.inl G.top), ea, r, _, rfl, .inl (.inl (.inl hr')), _, _, rfl, rfl, _, rfl, ?_⟩
    rw [List.length_map, hf.last]
    by_cases c : b - a < (m : Int)
    · rw [if_pos c] at q
      exact iteDS c ⟨_, rfl, _, rfl, _, rfl, g, n, m, f, a, b, rfl, hS, a0, ab, bn, c, q⟩
    · rw [if_neg c] at q
      exact iteDF c ⟨_, rfl, _, rfl, g, n, m, f, a, rfl, hS, a0, by omega, _, rfl, _, rfl, g, n, m, f, b, rfl, hS, by omega, bn, _, _, rfl, q⟩
theorem jn_step {w : Nat} {ds : List Int} (h : ¬ jnB w ds = true) {p : Int × Int} (hp : p ∈ stp ds) : p.2 - p.1 < (w : Int) := by
  by_cases c : p.2 - p.1 < (w : Int)
  · exact c
  · exact absurd (List.any_eq_true.mpr ⟨p, hp, decide_eq_true (by omega)⟩) h
def spLeast : Sp := fun vs H Q _ => ∃ (g t : Addr) (n w : Nat) (f : Nat → List Int) (ds : List Int), vs = [.ref g, .ref t] ∧ ShAt H g n w f ∧ H t = some (.tup (ds.map V.int)) ∧ Pat n ds ∧ ∀ H', Same H H' → Q (.int (prL f n w ds)) H'
theorem ok_least {f : Addr} {fd : FuncData} {k : Nat} (F : Fun K "_least_of" "_least_of" s__least_of f fd) {f__is_joined : Addr} {d__is_joined : FuncData} (F__is_joined : Fun K "_is_joined" "_is_joined" s__is_joined f__is_joined d__is_joined) (G__is_joined : FnOk P w K mg base CX0 k f__is_joined d__is_joined ["sheet", "pattern"] spJn) (b__is_joined : Binds K d__is_joined ["sheet", "pattern"] []) (g__is_joined : mg "_is_joined" = some (.ref f__is_joined)) {f_new_on : Addr} {d_new_on : FuncData} (F_new_on : Fun K "new_on" "new_on" s_new_on f_new_on d_new_on) (G_new_on : FnOk P w K mg base CX0 k f_new_on d_new_on ["sheet", "day"] spNewOn) (b_new_on : Binds K d_new_on ["sheet", "day"] []) (g_new_on : mg "new_on" = some (.ref f_new_on)) {f_gone_from : Addr} {d_gone_from : FuncData} (F_gone_from : Fun K "gone_from" "gone_from" s_gone_from f_gone_from d_gone_from) (G_gone_from : FnOk P w K mg base CX0 k f_gone_from d_gone_from ["sheet", "day"] spGoneF) (b_gone_from : Binds K d_gone_from ["sheet", "day"] []) (g_gone_from : mg "gone_from" = some (.ref f_gone_from)) {f__steps : Addr} {d__steps : FuncData} (F__steps : Fun K "_steps" "_steps" s__steps f__steps d__steps) (G__steps : FnOk P w K mg base CX0 k f__steps d__steps ["pattern"] spSteps) (b__steps : Binds K d__steps ["pattern"] []) (g__steps : mg "_steps" = some (.ref f__steps)) {f_gap_between : Addr} {d_gap_between : FuncData} (F_gap_between : Fun K "gap_between" "gap_between" s_gap_between f_gap_between d_gap_between) (G_gap_between : FnOk P w K mg base CX0 k f_gap_between d_gap_between ["sheet", "first", "second"] spGapB) (b_gap_between : Binds K d_gap_between ["sheet", "first", "second"] []) (g_gap_between : mg "gap_between" = some (.ref f_gap_between)) {f_told_number : Addr} {d_told_number : FuncData} (F_told_number : Fun K "told_number" "told_number" s_told_number f_told_number d_told_number) (G_told_number : FnOk P w K mg base CX0 k f_told_number d_told_number ["sheet", "first", "last"] spU) (b_told_number : Binds K d_told_number ["sheet", "first", "last"] []) (g_told_number : mg "told_number" = some (.ref f_told_number)) (m_sum : mg "sum" = none) (m_max : mg "max" = none) : FnOk P w K mg base CX0 (k + 1) f fd ["sheet", "pattern"] spLeast := by
  refine F.ok sc__least_of (fun vs H Q E h => ?_) (fun cdv A outer s H vs Q E hr h => ?_)
  · obtain ⟨g, t, _, _, _, _, rfl, _⟩ := h
    rfl
  · obtain ⟨g, t, n, m, f, ds, rfl, hS, et, hp, q⟩ := h
    refine ⟨_, (pss_cons (ps_if (pt_val (pe_call G__is_joined (hr.mono (by omega)) (by rfl) g__is_joined F__is_joined.kp b__is_joined .nil pass0 (pa_cons (pv 0) (pa_cons (pv 1) pa_nil)))) (pss_one (ps_ret pe_int)) pss_nil)
  (pss_cons (ps_asg (pe_call G_new_on (hr.mono (by omega)) (by rfl) g_new_on F_new_on.kp b_new_on .nil pass0 (pa_cons (pv 0) (pa_cons (pe_ix (Fa.ixT K) (pv 1) pe_int (fun _ _ => rfl)) pa_nil))) (pg_tup rfl (pgs_cons (pg_name (i := 2) sc__least_of.nd rfl (by first | exact Or.inl rfl | exact Or.inr rfl)) (pgs_cons (pg_name (i := 3) sc__least_of.nd rfl (by first | exact Or.inl rfl | exact Or.inr rfl)) pgs_nil))))
  (pss_cons (ps_asg (pe_call G_gone_from (hr.mono (by omega)) (by rfl) g_gone_from F_gone_from.kp b_gone_from .nil pass0 (pa_cons (pv 0) (pa_cons (pe_ix (Fa.ixT K) (pv 1) (pe_un un_neg pe_int) (fun _ _ => rfl)) pa_nil))) (pg_tup rfl (pgs_cons (pg_name (i := 4) sc__least_of.nd rfl (by first | exact Or.inl rfl | exact Or.inr rfl)) (pgs_cons (pg_name (i := 3) sc__least_of.nd rfl (by first | exact Or.inl rfl | exact Or.inr rfl)) pgs_nil))))
  (pss_cons (ps_set (i := 5) sc__least_of.nd rfl (by first | exact Or.inl rfl | exact Or.inr rfl) (pe_callB (Fa.sumQ K rfl) (by rfl) m_sum Fa.b_sum (pa_cons (pe_lc (own := [("first", 6), ("second", 7)]) (g := (gTup K 2 (gCons (gName 6) (gCons (gName 7) gNil)))) (tt := tYes) rfl sc__least_of.nd (Fa.listQ K (pe_call G__steps (hr.mono (by omega)) (by rfl) g__steps F__steps.kp b__steps .nil pass0 (pa_cons (pv 1) pa_nil))) (blkOk_by (N := N__least_of) (sc := defScope s__least_of) (by decide +kernel)) (fun _ _ _ _ _ => (Fa.pgTQ K rfl (pgs_cons (pg_name (i := 6) sc__least_of.nd rfl (by first | exact Or.inl rfl | exact Or.inr rfl)) (pgs_cons (pg_name (i := 7) sc__least_of.nd rfl (by first | exact Or.inl rfl | exact Or.inr rfl)) pgs_nil)))) (fun _ _ _ _ _ => pts_nil) (fun _ _ _ _ _ => (pe_call G_gap_between (hr.mono (by omega)) (by rfl) g_gap_between F_gap_between.kp b_gap_between .nil pass0 (pa_cons (pv 0) (pa_cons (pv 6) (pa_cons (pv 7) pa_nil)))))) pa_nil)))
  (pss_one (ps_ret (pe_callB (call_max2 rfl) (by rfl) m_max PyProof.Rows.boot_max (pa_cons pe_int (pa_cons (pe_op op_sub (pe_op op_add (pe_op op_add (pv 2) (pv 5)) (pv 4)) (pe_callB (Fa.sumQ K rfl) (by rfl) m_sum Fa.b_sum (pa_cons (pe_lc (own := [("day", 8)]) (g := (gName 8)) (tt := tYes) rfl sc__least_of.nd (Fa.tupIQ K (pv 1)) (blkOk_by (N := N__least_of) (sc := defScope s__least_of) (by decide +kernel)) (fun _ _ _ _ _ => (pg_name (i := 8) sc__least_of.nd rfl (by first | exact Or.inl rfl | exact Or.inr rfl))) (fun _ _ _ _ _ => pts_nil) (fun _ _ _ _ _ => (pe_call G_told_number (hr.mono (by omega)) (by rfl) g_told_number F_told_number.kp b_told_number .nil pass0 (pa_cons (pv 0) (pa_cons (pv 8) (pa_cons (pv 8) pa_nil)))))) pa_nil))) pa_nil))))))))), ?_⟩
    have n30 := hS.2.n30
    have w1 := hS.2.w1
    unfold prL at q
    refine ⟨_, rfl, _, rfl, g, t, n, m, f, ds, rfl, hS, et, hp, fun H1 s1 => ⟨_, rfl, ite2 (fun e => ?_) (fun e => ?_)⟩⟩
    · rw [if_pos e] at q
      exact q _ s1
    rw [if_neg e] at q
    obtain ⟨f1, f2⟩ := pat_fst hp
    obtain ⟨l1, l2⟩ := pat_lst hp
    have fb := hp.bd _ f2
    have lb := hp.bd _ l2
    refine ⟨_, rfl, _, rfl, t, _, _, _, rfl, rfl, .inl (.inl (s1 _ _ et)), f1, g, n, m, f, fstD ds, rfl, hS.same s1, fb.1, fb.2, fun H2 x s2 hx => ?_⟩
    obtain ⟨t2, rfl, e2⟩ := hx
    refine ⟨t2, _, rfl, .inl (.inl e2), rfl, _, _, rfl, _, _, rfl, rfl, ?_⟩
    have s12 := s1.trans s2
    refine ⟨_, rfl, _, rfl, 1, rfl, t, _, _, _, rfl, rfl, .inl (.inl (s12 _ _ et)), l1, g, n, m, f, lstD ds, rfl, hS.same s12, lb.1, lb.2, fun H3 x s3 hx => ?_⟩
    obtain ⟨t3, rfl, e3⟩ := hx
    refine ⟨t3, _, rfl, .inl (.inl e3), rfl, _, _, rfl, _, _, rfl, rfl, ?_⟩
    have s13 := s12.trans s3
    have sl := stp_len hp (by omega)
    refine ⟨_, rfl, t, ds, n, rfl, s13 _ _ et, hp, fun H4 l s4 nl hP => ?_⟩
    obtain ⟨ts, el, pr⟩ := hP
    have s14 := s13.trans s4
    refine ⟨l, rfl, ⟨_, .inl (.inl el)⟩, fun D nD => ?_⟩
    refine lc_listV (ys := ((stp ds).map fun p => gp f p.1 p.2).map V.int) (by rw [List.length_map, List.length_map, List.length_map, pr.length]) (by rw [List.length_map, pr.length]; omega) s14 (.inl (.inl el)) nD (fun i x y H5 Qe N ex ey s5 qe => ?_) fun H5 s5 e5 => ?_
    · obtain ⟨u, p, rfl, ep, eu⟩ := pr_at pr ex
      rw [List.getElem?_map, List.getElem?_map, ep] at ey
      cases ey
      obtain ⟨p0, p1, p2⟩ := stp_mem hp (List.mem_of_getElem? ep)
      have pw := jn_step e (List.mem_of_getElem? ep)
      refine ⟨u, _, rfl, .inl (.inl (s5 _ _ eu)), rfl, _, _, rfl, _, _, rfl, rfl, rfl, yes_if ?_⟩
      exact ⟨_, rfl, _, rfl, _, rfl, g, n, m, f, p.1, p.2, rfl, hS.same (s14.trans s5), p0, p1, p2, pw, qe _ (Same.refl _)⟩
    · generalize ((stp ds).map fun p => gp f p.1 p.2) = gs at q e5
      refine ⟨D, gs, rfl, .inl (.inl e5), ?_⟩
      refine ⟨_, rfl, _, rfl, _, _, rfl, rfl, _, rfl, _, _, rfl, rfl, _, rfl, t, rfl, ⟨_, .inl (.inl (s5 _ _ et))⟩, fun D2 nD2 => ?_⟩
      refine lc_it (walk_tup (xs := ds.map V.int)) (fun j H' => Same H5 H' ∧ H' D2 = some (.lst (((ds.take j).map fun d => uu f d d).map V.int))) ?_ ?_ ?_ ?_
      · exact ⟨same_new nD2, upd_same⟩
      · rintro j H' _ ⟨s', _⟩
        exact .inl (.inl (s' _ _ (s5 _ _ et)))
      · rintro j u _ H' hj ⟨s', eD⟩ ⟨rfl, eu⟩
        obtain ⟨d, ed, rfl⟩ := int_at eu
        have bd := hp.bd d (List.mem_of_getElem? ed)
        have dl := hp.len
        refine ⟨rfl, yes_if ⟨_, rfl, _, rfl, _, rfl, g, n, m, f, d, d, rfl, hS.same (s5.trans s'), fun _ => ⟨by omega, by omega, by omega⟩, _, eD, ?_, fun b o z => ?_, ?_⟩⟩
        · rw [List.length_map, List.length_map, List.length_take]
          exact small1000 (by omega)
        · rw [upd_ne (ne_of_none z nD2)]
          exact s' _ _ z
        · rw [upd_same, List.take_add_one, ed, List.map_append, List.map_append]
          rfl
      · rintro H6 ⟨s6, eD⟩
        rw [List.length_map, List.take_length] at eD
        refine ⟨D2, ds.map fun d => uu f d d, rfl, .inl (.inl eD), _, _, rfl, rfl, 0, _, rfl, ?_⟩
        have := q _ (s5.trans s6)
        unfold mx0 at this
        exact this
def spRangeOf : Sp := fun vs H Q _ => ∃ (g t : Addr) (n w : Nat) (f : Nat → List Int) (ds : List Int), vs = [.ref g, .ref t] ∧ ShAt H g n w f ∧ H t = some (.tup (ds.map V.int)) ∧ Pat n ds ∧ ∀ H' x, Same H H' → TwoAt H' x (prR f n w ds) → Q x H'
theorem ok_rangeof {f : Addr} {fd : FuncData} {k : Nat} (F : Fun K "_range_of" "_range_of" s__range_of f fd) {f_away_from : Addr} {d_away_from : FuncData} (F_away_from : Fun K "away_from" "away_from" s_away_from f_away_from d_away_from) (G_away_from : FnOk P w K mg base CX0 k f_away_from d_away_from ["sheet", "day"] spAwF) (b_away_from : Binds K d_away_from ["sheet", "day"] []) (g_away_from : mg "away_from" = some (.ref f_away_from)) {f_fresh_on : Addr} {d_fresh_on : FuncData} (F_fresh_on : Fun K "fresh_on" "fresh_on" s_fresh_on f_fresh_on d_fresh_on) (G_fresh_on : FnOk P w K mg base CX0 k f_fresh_on d_fresh_on ["sheet", "day"] spFrO) (b_fresh_on : Binds K d_fresh_on ["sheet", "day"] []) (g_fresh_on : mg "fresh_on" = some (.ref f_fresh_on)) {f__most_between : Addr} {d__most_between : FuncData} (F__most_between : Fun K "_most_between" "_most_between" s__most_between f__most_between d__most_between) (G__most_between : FnOk P w K mg base CX0 k f__most_between d__most_between ["sheet", "first", "second"] spMstB) (b__most_between : Binds K d__most_between ["sheet", "first", "second"] []) (g__most_between : mg "_most_between" = some (.ref f__most_between)) {f__steps : Addr} {d__steps : FuncData} (F__steps : Fun K "_steps" "_steps" s__steps f__steps d__steps) (G__steps : FnOk P w K mg base CX0 k f__steps d__steps ["pattern"] spSteps) (b__steps : Binds K d__steps ["pattern"] []) (g__steps : mg "_steps" = some (.ref f__steps)) {f__least_of : Addr} {d__least_of : FuncData} (F__least_of : Fun K "_least_of" "_least_of" s__least_of f__least_of d__least_of) (G__least_of : FnOk P w K mg base CX0 k f__least_of d__least_of ["sheet", "pattern"] spLeast) (b__least_of : Binds K d__least_of ["sheet", "pattern"] []) (g__least_of : mg "_least_of" = some (.ref f__least_of)) (m_min : mg "min" = none) : FnOk P w K mg base CX0 (k + 1) f fd ["sheet", "pattern"] spRangeOf := by
  refine F.ok sc__range_of (fun vs H Q E h => ?_) (fun cdv A outer s H vs Q E hr h => ?_)
  · obtain ⟨g, t, _, _, _, _, rfl, _⟩ := h
    rfl
  · obtain ⟨g, t, n, m, f, ds, rfl, hS, et, hp, q⟩ := h
    refine ⟨_, (pss_cons (ps_set (i := 2) sc__range_of.nd rfl (by first | exact Or.inl rfl | exact Or.inr rfl) (pe_call G_away_from (hr.mono (by omega)) (by rfl) g_away_from F_away_from.kp b_away_from .nil pass0 (pa_cons (pv 0) (pa_cons (pe_ix (Fa.ixT K) (pv 1) (pe_un un_neg pe_int) (fun _ _ => rfl)) pa_nil))))
  (pss_cons (ps_set (i := 3) sc__range_of.nd rfl (by first | exact Or.inl rfl | exact Or.inr rfl) (pe_call G_fresh_on (hr.mono (by omega)) (by rfl) g_fresh_on F_fresh_on.kp b_fresh_on .nil pass0 (pa_cons (pv 0) (pa_cons (pe_ix (Fa.ixT K) (pv 1) pe_int (fun _ _ => rfl)) pa_nil))))
  (pss_cons (ps_set (i := 4) sc__range_of.nd rfl (by first | exact Or.inl rfl | exact Or.inr rfl) (pe_op op_cat (pe_lst (pa_cons (pv 3) (pa_cons (pv 2) pa_nil))) (pe_lc (own := [("first", 5), ("second", 6)]) (g := (gTup K 2 (gCons (gName 5) (gCons (gName 6) gNil)))) (tt := tYes) rfl sc__range_of.nd (Fa.listQ K (pe_call G__steps (hr.mono (by omega)) (by rfl) g__steps F__steps.kp b__steps .nil pass0 (pa_cons (pv 1) pa_nil))) (blkOk_by (N := N__range_of) (sc := defScope s__range_of) (by decide +kernel)) (fun _ _ _ _ _ => (Fa.pgTQ K rfl (pgs_cons (pg_name (i := 5) sc__range_of.nd rfl (by first | exact Or.inl rfl | exact Or.inr rfl)) (pgs_cons (pg_name (i := 6) sc__range_of.nd rfl (by first | exact Or.inl rfl | exact Or.inr rfl)) pgs_nil)))) (fun _ _ _ _ _ => pts_nil) (fun _ _ _ _ _ => (pe_call G__most_between (hr.mono (by omega)) (by rfl) g__most_between F__most_between.kp b__most_between .nil pass0 (pa_cons (pv 0) (pa_cons (pv 5) (pa_cons (pv 6) pa_nil))))))))
  (pss_one (ps_ret (pe_tup (pa_cons (pe_call G__least_of (hr.mono (by omega)) (by rfl) g__least_of F__least_of.kp b__least_of .nil pass0 (pa_cons (pv 0) (pa_cons (pv 1) pa_nil))) (pa_cons (pe_callB (mnQ K rfl) (by rfl) m_min PyProof.Rows.boot_min (pa_cons (pv 4) pa_nil)) pa_nil)))))))), ?_⟩
    have n30 := hS.2.n30
    obtain ⟨f1, f2⟩ := pat_fst hp
    obtain ⟨l1, l2⟩ := pat_lst hp
    have fb := hp.bd _ f2
    have lb := hp.bd _ l2
    refine ⟨_, rfl, _, rfl, 1, rfl, t, _, _, _, rfl, rfl, .inl (.inl et), l1, g, n, m, f, lstD ds, rfl, hS, lb.1, lb.2, ?_⟩
    refine ⟨_, rfl, _, rfl, t, _, _, _, rfl, rfl, .inl (.inl et), f1, g, n, m, f, fstD ds, rfl, hS, fb.1, fb.2, ?_⟩
    refine ⟨_, rfl, _, rfl, by show 2 ≤ sizeLine; decide, fun L nL => ?_⟩
    have s1 := same_new (o := .lst [.int (fr f m (fstD ds)), .int (aw f n m (lstD ds))]) nL
    have eL : upd H L (.lst [.int (fr f m (fstD ds)), .int (aw f n m (lstD ds))]) L = some (.lst [.int (fr f m (fstD ds)), .int (aw f n m (lstD ds))]) := upd_same
    generalize upd H L (.lst [.int (fr f m (fstD ds)), .int (aw f n m (lstD ds))]) = H1 at s1 eL ⊢
    have sl := stp_len hp (by omega)
    refine ⟨_, rfl, t, ds, n, rfl, s1 _ _ et, hp, fun H4 l s4 nl hP => ?_⟩
    obtain ⟨ts, el, pr⟩ := hP
    have s14 := s1.trans s4
    refine ⟨l, rfl, ⟨_, .inl (.inl el)⟩, fun D nD => ?_⟩
    refine lc_listV (ys := ((stp ds).map (mstB f n m)).map V.int) (by rw [List.length_map, List.length_map, List.length_map, pr.length]) (by rw [List.length_map, pr.length]; omega) (Same.refl H4) (.inl (.inl el)) nD (fun i x y H5 Qe N ex ey s5 qe => ?_) fun H5 s5 e5 => ?_
    · obtain ⟨u, p, rfl, ep, eu⟩ := pr_at pr ex
      rw [List.getElem?_map, List.getElem?_map, ep] at ey
      cases ey
      obtain ⟨p0, p1, p2⟩ := stp_mem hp (List.mem_of_getElem? ep)
      refine ⟨u, _, rfl, .inl (.inl (s5 _ _ eu)), rfl, _, _, rfl, _, _, rfl, rfl, rfl, yes_if ?_⟩
      exact ⟨_, rfl, _, rfl, _, rfl, g, n, m, f, p.1, p.2, rfl, hS.same (s14.trans s5), p0, p1, p2, qe _ (Same.refl _)⟩
    · refine ⟨L, D, _, _, rfl, rfl, s5 _ _ (s4 _ _ eL), e5, ?_, fun L2 nL2 => ?_⟩
      · rw [List.length_map, List.length_map]
        exact Nat.le_of_lt (small1000 (by show 2 + _ ≤ 1000; omega))
      have eB : upd H5 L2 (.lst ([.int (fr f m (fstD ds)), .int (aw f n m (lstD ds))] ++ ((stp ds).map (mstB f n m)).map V.int)) L2 = some (.lst ((bndL f n m ds).map V.int)) := by
        rw [upd_same]
        unfold bndL
        rw [List.map_append]
        rfl
      have s6 := (s14.trans s5).trans (same_new (o := .lst ([.int (fr f m (fstD ds)), .int (aw f n m (lstD ds))] ++ ((stp ds).map (mstB f n m)).map V.int)) nL2)
      show gName 4 (V.ref L2) _ (upd H5 L2 (.lst ([.int (fr f m (fstD ds)), .int (aw f n m (lstD ds))] ++ ((stp ds).map (mstB f n m)).map V.int))) _
      generalize upd H5 L2 (.lst ([.int (fr f m (fstD ds)), .int (aw f n m (lstD ds))] ++ ((stp ds).map (mstB f n m)).map V.int)) = H6 at eB s6 ⊢
      refine ⟨_, rfl, _, rfl, g, t, n, m, f, ds, rfl, hS.same s6, s6 _ _ et, hp, fun H7 s7 => ?_⟩
      refine ⟨_, rfl, L2, bndL f n m ds, rfl, .inl (.inl (s7 _ _ eB)), Nat.zero_lt_succ _, fun mm m1 m2 => ⟨by show 2 ≤ sizeLine; decide, fun T nT => ?_⟩⟩
      obtain ⟨k1, k2⟩ := mnL_ok (bndL f n m ds) (List.cons_ne_nil _ _)
      have e : mm = mnL (bndL f n m ds) := by
        have := k2 mm m1
        have := m2 _ k1
        omega
      subst e
      exact q _ _ ((s6.trans s7).trans (same_new nT)) ⟨T, rfl, upd_same⟩
def spCkPat : Sp := fun vs H Q _ => ∃ (g t : Addr) (n w : Nat) (f : Nat → List Int) (ds : List Int), vs = [.ref g, .ref t] ∧ ShAt H g n w f ∧ H t = some (.tup (ds.map V.int)) ∧ Pat n ds ∧ ∀ H', Same H H' → Q .non H'
theorem ok_ckpat {f : Addr} {fd : FuncData} {k : Nat} (F : Fun K "check_pattern" "check_pattern" s_check_pattern f fd) {f_is_pattern : Addr} {d_is_pattern : FuncData} (F_is_pattern : Fun K "is_pattern" "is_pattern" s_is_pattern f_is_pattern d_is_pattern) (G_is_pattern : FnOk P w K mg base CX0 k f_is_pattern d_is_pattern ["thing", "count"] spPat) (b_is_pattern : Binds K d_is_pattern ["thing", "count"] []) (g_is_pattern : mg "is_pattern" = some (.ref f_is_pattern)) (m_len : mg "len" = none) : FnOk P w K mg base CX0 (k + 1) f fd ["sheet", "pattern"] spCkPat := by
  refine F.ok sc_check_pattern (fun vs H Q E h => ?_) (fun cdv A outer s H vs Q E hr h => ?_)
  · obtain ⟨g, t, _, _, _, _, rfl, _⟩ := h
    rfl
  · obtain ⟨g, t, n, m, f, ds, rfl, hS, et, hp, q⟩ := h
    refine ⟨_, (pss_one (ps_if (pt_not (pt_val (pe_call G_is_pattern (hr.mono (by omega)) (by rfl) g_is_pattern F_is_pattern.kp b_is_pattern .nil pass0 (pa_cons (pv 1) (pa_cons (pe_callB (Fa.lenQ K) (by rfl) m_len PySem.boot_len (pa_cons (pv 0) pa_nil)) pa_nil))))) Fa.pss_never pss_nil)), ?_⟩
    have n30 := hS.2.n30
    obtain ⟨⟨rows, G⟩, hf⟩ := id hS
    refine ⟨_, rfl, _, rfl, g, _, rfl, .inl (.inl (.inl G.top)), t, ds, n, ?_, et, hp, by omega, fun H1 s1 => ⟨_, rfl, iteN0 rfl (q _ s1)⟩⟩
    rw [List.length_map, G.cnt]
    rfl
def spPatR : Sp := fun vs H Q _ => ∃ (g t : Addr) (n w : Nat) (f : Nat → List Int) (ds : List Int), vs = [.ref g, .ref t] ∧ ShAt H g n w f ∧ NN f n w ∧ H t = some (.tup (ds.map V.int)) ∧ Pat n ds ∧ ∀ H' x, Same H H' → TwoAt H' x (prR f n w ds) → Q x H'
theorem ok_patr {f : Addr} {fd : FuncData} {k : Nat} (F : Fun K "pattern_range" "pattern_range" s_pattern_range f fd) {f_check_sheet : Addr} {d_check_sheet : FuncData} (F_check_sheet : Fun K "check_sheet" "check_sheet" s_check_sheet f_check_sheet d_check_sheet) (G_check_sheet : FnOk P w K mg base CX0 k f_check_sheet d_check_sheet ["sheet"] spCkSh) (b_check_sheet : Binds K d_check_sheet ["sheet"] []) (g_check_sheet : mg "check_sheet" = some (.ref f_check_sheet)) {f_check_pattern : Addr} {d_check_pattern : FuncData} (F_check_pattern : Fun K "check_pattern" "check_pattern" s_check_pattern f_check_pattern d_check_pattern) (G_check_pattern : FnOk P w K mg base CX0 k f_check_pattern d_check_pattern ["sheet", "pattern"] spCkPat) (b_check_pattern : Binds K d_check_pattern ["sheet", "pattern"] []) (g_check_pattern : mg "check_pattern" = some (.ref f_check_pattern)) {f_check_possible : Addr} {d_check_possible : FuncData} (F_check_possible : Fun K "check_possible" "check_possible" s_check_possible f_check_possible d_check_possible) (G_check_possible : FnOk P w K mg base CX0 k f_check_possible d_check_possible ["sheet"] spPoss) (b_check_possible : Binds K d_check_possible ["sheet"] []) (g_check_possible : mg "check_possible" = some (.ref f_check_possible)) {f__range_of : Addr} {d__range_of : FuncData} (F__range_of : Fun K "_range_of" "_range_of" s__range_of f__range_of d__range_of) (G__range_of : FnOk P w K mg base CX0 k f__range_of d__range_of ["sheet", "pattern"] spRangeOf) (b__range_of : Binds K d__range_of ["sheet", "pattern"] []) (g__range_of : mg "_range_of" = some (.ref f__range_of)) : FnOk P w K mg base CX0 (k + 1) f fd ["sheet", "pattern"] spPatR := by
  refine F.ok sc_pattern_range (fun vs H Q E h => ?_) (fun cdv A outer s H vs Q E hr h => ?_)
  · obtain ⟨g, t, _, _, _, _, rfl, _⟩ := h
    rfl
  · obtain ⟨g, t, n, m, f, ds, rfl, hS, hN, et, hp, q⟩ := h
    refine ⟨_, (pss_cons (ps_expr (pe_call G_check_sheet (hr.mono (by omega)) (by rfl) g_check_sheet F_check_sheet.kp b_check_sheet .nil pass0 (pa_cons (pv 0) pa_nil)))
  (pss_cons (ps_expr (pe_call G_check_pattern (hr.mono (by omega)) (by rfl) g_check_pattern F_check_pattern.kp b_check_pattern .nil pass0 (pa_cons (pv 0) (pa_cons (pv 1) pa_nil))))
  (pss_cons (ps_expr (pe_call G_check_possible (hr.mono (by omega)) (by rfl) g_check_possible F_check_possible.kp b_check_possible .nil pass0 (pa_cons (pv 0) pa_nil)))
  (pss_one (ps_ret (pe_call G__range_of (hr.mono (by omega)) (by rfl) g__range_of F__range_of.kp b__range_of .nil pass0 (pa_cons (pv 0) (pa_cons (pv 1) pa_nil)))))))), ?_⟩
    refine ⟨_, rfl, g, n, m, f, rfl, hS, fun H1 s1 => ⟨_, rfl, _, rfl, g, t, n, m, f, ds, rfl, hS.same s1, s1 _ _ et, hp, fun H2 s2 => ?_⟩⟩
    have s12 := s1.trans s2
    refine ⟨_, rfl, g, n, m, f, rfl, hS.same s12, hN, fun H3 s3 => ?_⟩
    have s13 := s12.trans s3
    exact ⟨_, rfl, _, rfl, g, t, n, m, f, ds, rfl, hS.same s13, s13 _ _ et, hp, fun H4 x s4 hx => q _ _ (s13.trans s4) hx⟩
/-- all days -/
def allD (n : Nat) : List Int := (List.range n).map fun i : Nat => (i : Int)
theorem allD_pat {n : Nat} (n1 : 1 ≤ n) : Pat n (allD n) := by
  refine ⟨fun z => ?_, ?_, fun d hd => ?_⟩
  · have := congrArg List.length z
    unfold allD at this
    rw [List.length_map, List.length_range] at this
    simp only [List.length_nil] at this
    omega
  · unfold allD
    rw [List.pairwise_map]
    exact List.pairwise_lt_range.imp fun {a b} h => by omega
  · obtain ⟨i, hi, rfl⟩ := List.mem_map.mp hd
    have := List.mem_range.mp hi
    omega
def spDayR : Sp := fun vs H Q _ => ∃ (g : Addr) (n w : Nat) (f : Nat → List Int), vs = [.ref g] ∧ ShAt H g n w f ∧ NN f n w ∧ ∀ H' x, Same H H' → TwoAt H' x (prR f n w (allD n)) → Q x H'
theorem ok_dayr {f : Addr} {fd : FuncData} {k : Nat} (F : Fun K "daily_range" "daily_range" s_daily_range f fd) {f_check_sheet : Addr} {d_check_sheet : FuncData} (F_check_sheet : Fun K "check_sheet" "check_sheet" s_check_sheet f_check_sheet d_check_sheet) (G_check_sheet : FnOk P w K mg base CX0 k f_check_sheet d_check_sheet ["sheet"] spCkSh) (b_check_sheet : Binds K d_check_sheet ["sheet"] []) (g_check_sheet : mg "check_sheet" = some (.ref f_check_sheet)) {f_check_possible : Addr} {d_check_possible : FuncData} (F_check_possible : Fun K "check_possible" "check_possible" s_check_possible f_check_possible d_check_possible) (G_check_possible : FnOk P w K mg base CX0 k f_check_possible d_check_possible ["sheet"] spPoss) (b_check_possible : Binds K d_check_possible ["sheet"] []) (g_check_possible : mg "check_possible" = some (.ref f_check_possible)) {f__range_of : Addr} {d__range_of : FuncData} (F__range_of : Fun K "_range_of" "_range_of" s__range_of f__range_of d__range_of) (G__range_of : FnOk P w K mg base CX0 k f__range_of d__range_of ["sheet", "pattern"] spRangeOf) (b__range_of : Binds K d__range_of ["sheet", "pattern"] []) (g__range_of : mg "_range_of" = some (.ref f__range_of)) (m_tuple : mg "tuple" = none) (m_range : mg "range" = none) (m_len : mg "len" = none) : FnOk P w K mg base CX0 (k + 1) f fd ["sheet"] spDayR := by
  refine F.ok sc_daily_range (fun vs H Q E h => ?_) (fun cdv A outer s H vs Q E hr h => ?_)
  · obtain ⟨g, _, _, _, rfl, _⟩ := h
    rfl
  · obtain ⟨g, n, m, f, rfl, hS, hN, q⟩ := h
    refine ⟨_, (pss_cons (ps_expr (pe_call G_check_sheet (hr.mono (by omega)) (by rfl) g_check_sheet F_check_sheet.kp b_check_sheet .nil pass0 (pa_cons (pv 0) pa_nil)))
  (pss_cons (ps_expr (pe_call G_check_possible (hr.mono (by omega)) (by rfl) g_check_possible F_check_possible.kp b_check_possible .nil pass0 (pa_cons (pv 0) pa_nil)))
  (pss_one (ps_ret (pe_call G__range_of (hr.mono (by omega)) (by rfl) g__range_of F__range_of.kp b__range_of .nil pass0 (pa_cons (pv 0) (pa_cons (pe_tupRg rfl (by rfl) m_tuple (prg_1 (by rfl) m_range (pe_callB (Fa.lenQ K) (by rfl) m_len PySem.boot_len (pa_cons (pv 0) pa_nil)))) pa_nil))))))), ?_⟩
    refine ⟨_, rfl, g, n, m, f, rfl, hS, fun H1 s1 => ⟨_, rfl, g, n, m, f, rfl, hS.same s1, hN, fun H2 s2 => ?_⟩⟩
    have s12 := s1.trans s2
    have hS2 := hS.same s12
    obtain ⟨⟨rows, G⟩, hf⟩ := id hS2
    have n1 := hf.n1
    have n30 := hf.n30
    refine ⟨_, rfl, _, rfl, g, _, rfl, .inl (.inl (.inl G.top)), _, rfl, ?_⟩
    rw [List.length_map, G.cnt]
    refine ⟨RgOk.of_le (by omega) (by omega) (by omega) (by omega), fun T nT => ?_⟩
    rw [rg0]
    exact ⟨g, T, n, m, f, allD n, rfl, hS2.same (same_new nT), upd_same, allD_pat n1, fun H3 x s3 hx => q _ _ ((s12.trans (same_new nT)).trans s3) hx⟩
end
end K21

set_option maxHeartbeats 0
namespace K21
open PySem PySem.Spec PyProof.Rows L2 Fa
/-! full sheets: the visitors of one day only -/
def onR (f : Nat → List Int) (n : Nat) : Two := (sa (fun i => (prR f n n [(i : Int)]).1) n, sa (fun i => (prR f n n [(i : Int)]).2) n)
theorem jA_full {f : Nat → List Int} {n i : Nat} (hi : i < n) : jA f n n (i : Int) = 0 := by
  unfold jA
  rw [show ((i : Int) - (n : Int) + 1).toNat = 0 by omega]
  rfl
theorem jF_full {f : Nat → List Int} {n i : Nat} : jF f n n (i : Int) = 0 := by
  unfold jF
  rw [show ((n : Int) - ((i : Int) + (n : Int))).toNat = 0 by omega]
  rfl
theorem prR_one {f : Nat → List Int} {n i : Nat} (hN : NN f n n) (hi : i < n) : prR f n n [(i : Int)] = (mx0 (fr f n i + aw f n n i - uu f i i), mn2 (fr f n i) (aw f n n i)) := by
  have f0 := hN.f0 i (by omega) (by omega)
  have a0 := hN.a0 i (by omega) (by omega)
  have e1 : prL f n n [(i : Int)] = mx0 (fr f n i + aw f n n i - uu f i i) := by
    show mx0 ((newR f n n i).1 + 0 + (goneR f n n i).1 - (uu f i i + 0)) = _
    unfold newR goneR
    rw [jA_full hi, jF_full]
    have m1 : mx0 (fr f n i - 0) = fr f n i := by
      unfold mx0
      split <;> omega
    have m2 : mx0 (aw f n n i - 0) = aw f n n i := by
      unfold mx0
      split <;> omega
    show mx0 (mx0 (fr f n i - 0) + 0 + mx0 (aw f n n i - 0) - (uu f i i + 0)) = _
    rw [m1, m2, Int.add_zero, Int.add_zero]
  show (prL f n n [(i : Int)], mn2 (fr f n i) (aw f n n i)) = _
  rw [e1]
/-! the groups of nobody yet are dealt last or first -/
def nilP (p : List Int) : Bool := p.isEmpty
def NilL : Fm → Prop
  | [] => True
  | p :: st => (p.1 = [] → st = []) ∧ NilL st
theorem tot_le {φ : List Int → Bool} : ∀ {F : Fm}, (∀ p ∈ F, 0 ≤ p.2) → tot φ F ≤ tot all' F
  | [], _ => Int.le_refl _
  | p :: F, h => by
    have := tot_le (φ := φ) (F := F) fun q hq => h q (List.mem_cons_of_mem _ hq)
    have := h p List.mem_cons_self
    rw [tot_cons, tot_cons]
    show (if φ p.1 then p.2 else 0) + _ ≤ p.2 + _
    split <;> omega
theorem serve_z {st : Fm} {l : Int} (h : l ≤ 0) : serve st l = ([], st) := by
  cases st with
  | nil => rfl
  | cons p st =>
    unfold serve
    rw [if_pos h]
theorem serve_nil : ∀ {st : Fm} {l : Int}, (∀ p ∈ st, 1 ≤ p.2) → NilL st → 0 ≤ l → l ≤ tot all' st → NilL (serve st l).2 ∧ tot nilP (serve st l).2 = mn2 (tot nilP st) (tot all' st - l)
  | [], l, _, _, h0, h1 => by
    have : l = 0 := by
      have : l ≤ 0 := h1
      omega
    subst this
    exact ⟨trivial, rfl⟩
  | (p, m) :: st, l, hp, hn, h0, h1 => by
    have m1 := hp (p, m) List.mem_cons_self
    have m1 : 1 ≤ m := m1
    have hp' : ∀ q ∈ st, 1 ≤ q.2 := fun q hq => hp q (List.mem_cons_of_mem _ hq)
    have le := tot_le (φ := nilP) (F := st) fun q hq => by have := hp' q hq; omega
    have n0 := tot_nonneg (φ := nilP) (F := st) fun q hq => by have := hp' q hq; omega
    have eT : tot all' ((p, m) :: st) = m + tot all' st := rfl
    have eN : tot nilP ((p, m) :: st) = (if nilP p then m else 0) + tot nilP st := rfl
    have nil0 : nilP p = true → tot nilP st = 0 ∧ tot all' st = 0 ∧ st = [] := fun z => by
      have : st = [] := hn.1 (List.isEmpty_iff.mp z)
      subst this
      exact ⟨rfl, rfl, rfl⟩
    unfold serve
    by_cases c : l ≤ 0
    · rw [if_pos c]
      refine ⟨hn, ?_⟩
      rw [eT, eN]
      unfold mn2
      split <;> split <;> omega
    · rw [if_neg c]
      by_cases c2 : l < m
      · rw [if_pos c2]
        refine ⟨hn, ?_⟩
        show tot nilP ((p, m - l) :: st) = _
        rw [eT, eN, tot_cons]
        show (if nilP p then m - l else 0) + tot nilP st = _
        unfold mn2
        by_cases z : nilP p = true
        · obtain ⟨z1, z2, _⟩ := nil0 z
          rw [if_pos z, if_pos z, z1, z2]
          split <;> omega
        · rw [if_neg z, if_neg z]
          split <;> omega
      · rw [if_neg c2]
        obtain ⟨i1, i2⟩ := serve_nil (st := st) (l := l - m) hp' hn.2 (by omega) (by omega)
        refine ⟨i1, ?_⟩
        show tot nilP (serve st (l - m)).2 = _
        rw [i2, eT, eN]
        by_cases z : nilP p = true
        · obtain ⟨z1, z2, z3⟩ := nil0 z
          rw [if_pos z, z1, z2]
          unfold mn2
          split <;> split <;> omega
        · rw [if_neg z]
          unfold mn2
          split <;> split <;> omega
def isNone (s : Option Int) : Bool := decide (s = none)
theorem sum_nn : ∀ {ws : List Way}, (∀ q ∈ ws, 0 ≤ q.2) → 0 ≤ (ws.map (·.2)).sum
  | [], _ => Int.le_refl _
  | q :: ws, h => by
    rw [List.map_cons, List.sum_cons]
    have := sum_nn fun q hq => h q (List.mem_cons_of_mem _ hq)
    have := h q List.mem_cons_self
    omega
theorem deal_last : ∀ {ws : List Way} {st : Fm} {g : Int}, (∀ p ∈ st, 1 ≤ p.2) → NilL st → (∀ q ∈ ws, 0 ≤ q.2 ∧ q.1 ≠ none) → 0 ≤ g → (ws.map (·.2)).sum + g = tot all' st → totD nilP isNone (deal st (ws ++ [((none : Option Int), g)])) = mn2 (tot nilP st) g
  | [], st, g, hp, hn, _, g0, hs => by
    have hs : g = tot all' st := by
      have : (0 : Int) + g = tot all' st := hs
      omega
    have t := serve_tot nilP st g
    obtain ⟨_, i2⟩ := serve_nil hp hn g0 (by omega)
    have n0 := tot_nonneg (φ := nilP) (F := st) fun q hq => by have := hp q hq; omega
    have le := tot_le (φ := nilP) (F := st) fun q hq => by have := hp q hq; omega
    show totD nilP isNone (((serve st g).1.map fun q => (q.1, none, q.2)) ++ []) = _
    rw [List.append_nil, totD_way, if_pos (show isNone none = true from rfl)]
    rw [i2] at t
    unfold mn2 at t ⊢
    split at t <;> split <;> omega
  | (s, l) :: ws, st, g, hp, hn, hw, g0, hs => by
    obtain ⟨l0, sn⟩ := hw (s, l) List.mem_cons_self
    have l0 : 0 ≤ l := l0
    have hw' : ∀ q ∈ ws, 0 ≤ q.2 ∧ q.1 ≠ none := fun q hq => hw q (List.mem_cons_of_mem _ hq)
    have w0 := sum_nn fun q hq => (hw' q hq).1
    rw [List.map_cons, List.sum_cons] at hs
    have hs : l + (ws.map (·.2)).sum + g = tot all' st := hs
    have t := serve_tot all' st l
    have ss := serve_sum hp l0 (by omega)
    obtain ⟨i1, i2⟩ := serve_nil hp hn l0 (by omega)
    have ih := deal_last (ws := ws) (st := (serve st l).2) (g := g) (serve_pos hp).2 i1 hw' g0 (by omega)
    show totD nilP isNone (((serve st l).1.map fun q => (q.1, s, q.2)) ++ deal (serve st l).2 (ws ++ [((none : Option Int), g)])) = _
    rw [totD_app, totD_way, ih, i2, if_neg (by
      have : isNone s = false := decide_eq_false sn
      rw [this]
      exact Bool.false_ne_true)]
    unfold mn2
    split <;> split <;> (try split) <;> omega
theorem totD_none {ws : List Way} {st : Fm} (hp : ∀ p ∈ st, 1 ≤ p.2) (hw : ∀ q ∈ ws, q.1 ≠ none) : totD nilP isNone (deal st ws) = 0 := by
  rw [totD_vsum]
  have : ∀ D : List Part, (∀ q ∈ D, q.2.1 ≠ none) → vsum (fun q => if nilP q.1 && isNone q.2.1 then q.2.2 else 0) D = 0 := fun D => by
    induction D with
    | nil => exact fun _ => rfl
    | cons q D ih =>
      intro z
      rw [vsum_cons, ih fun p hp => z p (List.mem_cons_of_mem _ hp)]
      have : isNone q.2.1 = false := decide_eq_false (z q List.mem_cons_self)
      rw [this, Bool.and_false, if_neg Bool.false_ne_true]
      rfl
  refine this _ fun q hq => ?_
  obtain ⟨_, _, c⟩ := deal_mem hp hq
  obtain ⟨v, hv, e⟩ := List.mem_map.mp c
  rw [← e]
  exact hw v hv
theorem deal_first {ws : List Way} {st : Fm} {g : Int} (hp : ∀ p ∈ st, 1 ≤ p.2) (hn : NilL st) (hw : ∀ q ∈ ws, q.1 ≠ none) (g0 : 0 ≤ g) (hs : g ≤ tot all' st) : totD nilP isNone (deal st (((none : Option Int), g) :: ws)) = mx0 (tot nilP st + g - tot all' st) := by
  have t := serve_tot nilP st g
  obtain ⟨_, i2⟩ := serve_nil hp hn g0 hs
  show totD nilP isNone (((serve st g).1.map fun q => (q.1, none, q.2)) ++ deal (serve st g).2 ws) = _
  rw [totD_app, totD_way, if_pos (show isNone none = true from rfl), totD_none (serve_pos hp).2 hw]
  rw [i2] at t
  unfold mn2 at t
  unfold mx0
  split at t <;> split <;> omega
end K21

/-! the first rows of a sheet; pairs of numbers as data -/
namespace Fa
open PySem PySem.Spec PyProof.Rows L2
theorem GridAt.head {H : Hp} {g p : Addr} {rows : List Addr} {n c : Nat} {f : Nat → List Int} (G : GridAt H g rows n f) (cn : c ≤ n) (np : H p = none) : GridAt (upd H p (.lst (cutV (rows.map V.ref) none (some (c : Int))))) p (rows.take c) c f := by
  have at' : ∀ s r, (rows.take c)[s]? = some r → rows[s]? = some r := fun s r e => by
    rw [List.getElem?_take] at e
    split at e
    · exact e
    · cases e
  have ne : ∀ r ∈ rows.take c, p ≠ r := fun r hr z => by
    obtain ⟨j, hj, e⟩ := List.mem_iff_getElem.mp hr
    have := G.row j r (at' j r (by rw [List.getElem?_eq_getElem hj, e]))
    rw [← z, np] at this
    cases this
  refine ⟨?_, ?_, ?_, fun z => ne p z rfl, fun s r e => ?_⟩
  · rw [upd_same, cut_to, ← List.map_take]
  · rw [List.length_take, G.cnt]
    omega
  · exact G.nd.sublist (List.take_sublist _ _)
  · have hr : r ∈ rows.take c := List.mem_of_getElem? e
    rw [upd_ne (ne r hr).symm]
    exact G.row s r (at' s r e)
theorem twoD_shp (p : Two) : Shp 1 (twoD p) := shp_tuple fun e he => by
  simp only [List.mem_cons, List.not_mem_nil, or_false] at he
  rcases he with rfl | rfl <;> exact shp_int _ _
theorem TwoAt.same {H H' : Hp} {x : V} {p : Two} (h : TwoAt H x p) (s : Same H H') : TwoAt H' x p := by
  obtain ⟨t, e, ht⟩ := h
  exact ⟨t, e, s _ _ ht⟩
theorem TwoAt.dp {K : PySem.W.Frag} {H : Hp} {x : V} {p : Two} (h : TwoAt H x p) : Dp K H x (twoD p) := by
  obtain ⟨t, rfl, ht⟩ := h
  exact two_dp ht
end Fa

/-! [range(x) for x in (a, b, c)]: tuples of two numbers -/
namespace Fa
open PySem PySem.Spec PyProof.Rows L2
theorem TwoAt.lst {H : Hp} {D : Addr} {xs ys : List V} {x : V} {p : Two} (h : TwoAt H x p) (e : H D = some (.lst xs)) : TwoAt (upd H D (.lst ys)) x p := by
  obtain ⟨t, rfl, ht⟩ := h
  refine ⟨t, rfl, ?_⟩
  rw [upd_ne (fun z => by rw [z, e] at ht; cases ht)]
  exact ht
theorem lc_tupTwo {K : PySem.W.Frag} {a : Addr} {xs : List V} {ys : List Two} {g : TG} {te : TE} {vs : List Nat} {σ : L2.St} {H0 H1 : Hp} {D : Addr} {Qd : Hp → Prop} (hl : ys.length = xs.length) (hn : xs.length ≤ 900) (s0 : Same H0 H1) (ha : SqT K H1 a xs) (nD : H1 D = none)
    (hs : ∀ (i : Nat) (x : V) (y : Two) (H : Hp) (Qe : VK) (N : Hp → Prop), xs[i]? = some x → ys[i]? = some y → Same H1 H → (∀ H4 u, Same H H4 → TwoAt H4 u y → Qe u H4) → g x (wipe σ vs) H fun σ2 H2 => wipe σ2 vs = wipe σ vs ∧ tYes σ2 H2 fun b H3 => if b = true then te σ2 H3 Qe else N H3)
    (hd : ∀ H us, Same H0 H → H D = some (.lst us) → Paired (TwoAt H) us ys → Qd H) :
    ∃ W : Nat → Nat → Hp → Prop, (∃ m, W 0 m (upd H1 D (.lst []))) ∧ ∀ i m H, W i m H →
      ((Itt K a).stop i H ∧ Qd H) ∨ ((Itt K a).go i H ∧ ∃ Nx : Hp → Prop, (∀ H', Nx H' → ∃ m', m' < m ∧ W (i + 1) m' H') ∧ ∀ x H', (Itt K a).yld i H x H' → g x (wipe σ vs) H' fun σ2 H2 => wipe σ2 vs = wipe σ vs ∧ tYes σ2 H2 fun b H3 =>
        if b = true then te σ2 H3 fun y H4 => ∃ acc, H4 D = some (.lst acc) ∧ acc.length < sizeLine ∧ Nx (upd H4 D (.lst (acc ++ [y]))) else Nx H3) := by
  refine lc_it (walk_tup (xs := xs)) (fun i H => Same H1 H ∧ ∃ us, H D = some (.lst us) ∧ Paired (TwoAt H) us (ys.take i)) ⟨same_new nD, [], upd_same, .nil⟩ (fun i H _ h => sqT_same h.1 ha) ?_ ?_
  · rintro i x H H' hi ⟨s, us, e, hP⟩ ⟨rfl, hx⟩
    have hy : ys[i]? = some ys[i] := List.getElem?_eq_getElem (by omega)
    refine hs i x ys[i] H' _ _ hx hy s fun H4 u s4 hu => ⟨us, s4 _ _ e, ?_, fun b o z => ?_, us ++ [u], upd_same, ?_⟩
    · rw [paired_len hP, List.length_take]
      exact small1000 (by omega)
    · rw [upd_ne (ne_of_none z nD)]
      exact s4 _ _ (s _ _ z)
    · rw [List.take_add_one, hy]
      exact paired_snoc (L2.Paired.mapP hP fun _ _ z => (z.same s4).lst (s4 _ _ e)) (hu.lst (s4 _ _ e))
  · rintro H ⟨s, us, e, hP⟩
    rw [← hl, List.take_length] at hP
    exact hd H us (s0.trans s) e hP
end Fa
namespace Fa
open PySem PySem.Spec PyProof.Rows L2
theorem lc_tupV {K : PySem.W.Frag} {a : Addr} {xs ys : List V} {g : TG} {te : TE} {vs : List Nat} {σ : L2.St} {H0 H1 : Hp} {D : Addr} {Qd : Hp → Prop} (hl : ys.length = xs.length) (hn : xs.length ≤ 900) (s0 : Same H0 H1) (ha : SqT K H1 a xs) (nD : H1 D = none)
    (hs : ∀ (i : Nat) (x y : V) (H : Hp) (Qe : VK) (N : Hp → Prop), xs[i]? = some x → ys[i]? = some y → Same H1 H → (∀ H4, Same H H4 → Qe y H4) → g x (wipe σ vs) H fun σ2 H2 => wipe σ2 vs = wipe σ vs ∧ tYes σ2 H2 fun b H3 => if b = true then te σ2 H3 Qe else N H3)
    (hd : ∀ H, Same H0 H → H D = some (.lst ys) → Qd H) :
    ∃ W : Nat → Nat → Hp → Prop, (∃ m, W 0 m (upd H1 D (.lst []))) ∧ ∀ i m H, W i m H →
      ((Itt K a).stop i H ∧ Qd H) ∨ ((Itt K a).go i H ∧ ∃ Nx : Hp → Prop, (∀ H', Nx H' → ∃ m', m' < m ∧ W (i + 1) m' H') ∧ ∀ x H', (Itt K a).yld i H x H' → g x (wipe σ vs) H' fun σ2 H2 => wipe σ2 vs = wipe σ vs ∧ tYes σ2 H2 fun b H3 =>
        if b = true then te σ2 H3 fun y H4 => ∃ acc, H4 D = some (.lst acc) ∧ acc.length < sizeLine ∧ Nx (upd H4 D (.lst (acc ++ [y]))) else Nx H3) := by
  refine lc_it (walk_tup (xs := xs)) (fun i H => Same H1 H ∧ H D = some (.lst (ys.take i))) ⟨same_new nD, upd_same⟩ (fun i H _ h => sqT_same h.1 ha) ?_ ?_
  · rintro i x H H' hi ⟨s, e⟩ ⟨rfl, hx⟩
    have hy : ys[i]? = some ys[i] := List.getElem?_eq_getElem (by omega)
    refine hs i x ys[i] H' _ _ hx hy s fun H4 s4 => ⟨_, s4 _ _ e, ?_, fun b o z => ?_, ?_⟩
    · rw [List.length_take]
      exact small1000 (by omega)
    · rw [upd_ne (ne_of_none z nD)]
      exact s4 _ _ (s _ _ z)
    · rw [upd_same, List.take_add_one, hy]
      rfl
  · rintro H ⟨s, e⟩
    rw [← hl, List.take_length] at e
    exact hd H (s0.trans s) e
end Fa

set_option maxHeartbeats 0
namespace K21
open PySem PySem.Spec PyProof.Rows L2 Fa
abbrev s_once_range : Stmt := topS 46
abbrev N_once_range : List Str := ["sheet", "days", "ranges", "day", "least", "_", "greatest"]
theorem sc_once_range : FnScope N_once_range ["sheet"] (defScope s_once_range) := ⟨rfl, rfl, rfl, by decide +kernel, rfl, by decide +kernel, by decide +kernel⟩
section
variable {P : Program} {w : World} {K : PySem.W.Frag} {mg : Str → Option Value} {base : Heap}
def spOnce : Sp := fun vs H Q _ => ∃ (g : Addr) (n : Nat) (f : Nat → List Int), vs = [.ref g] ∧ ShAt H g n n f ∧ NN f n n ∧ ∀ H' x, Same H H' → TwoAt H' x (onR f n) → Q x H'
theorem ok_once {f : Addr} {fd : FuncData} {k : Nat} (F : Fun K "once_range" "once_range" s_once_range f fd) {f_check_sheet : Addr} {d_check_sheet : FuncData} (F_check_sheet : Fun K "check_sheet" "check_sheet" s_check_sheet f_check_sheet d_check_sheet) (G_check_sheet : FnOk P w K mg base CX0 k f_check_sheet d_check_sheet ["sheet"] spCkSh) (b_check_sheet : Binds K d_check_sheet ["sheet"] []) (g_check_sheet : mg "check_sheet" = some (.ref f_check_sheet)) {f_check_possible : Addr} {d_check_possible : FuncData} (F_check_possible : Fun K "check_possible" "check_possible" s_check_possible f_check_possible d_check_possible) (G_check_possible : FnOk P w K mg base CX0 k f_check_possible d_check_possible ["sheet"] spPoss) (b_check_possible : Binds K d_check_possible ["sheet"] []) (g_check_possible : mg "check_possible" = some (.ref f_check_possible)) {f__range_of : Addr} {d__range_of : FuncData} (F__range_of : Fun K "_range_of" "_range_of" s__range_of f__range_of d__range_of) (G__range_of : FnOk P w K mg base CX0 k f__range_of d__range_of ["sheet", "pattern"] spRangeOf) (b__range_of : Binds K d__range_of ["sheet", "pattern"] []) (g__range_of : mg "_range_of" = some (.ref f__range_of)) (m_len : mg "len" = none) (m_range : mg "range" = none) (m_sum : mg "sum" = none) : FnOk P w K mg base CX0 (k + 1) f fd ["sheet"] spOnce := by
  refine F.ok sc_once_range (fun vs H Q E h => ?_) (fun cdv A outer s H vs Q E hr h => ?_)
  · obtain ⟨g, _, _, rfl, _⟩ := h
    rfl
  · obtain ⟨g, n, f, rfl, hS, hN, q⟩ := h
    refine ⟨_, (pss_cons (ps_expr (pe_call G_check_sheet (hr.mono (by omega)) (by rfl) g_check_sheet F_check_sheet.kp b_check_sheet .nil pass0 (pa_cons (pv 0) pa_nil)))
  (pss_cons (ps_set (i := 1) sc_once_range.nd rfl (by first | exact Or.inl rfl | exact Or.inr rfl) (pe_callB (Fa.lenQ K) (by rfl) m_len PySem.boot_len (pa_cons (pv 0) pa_nil)))
  (pss_cons (ps_if (pt_cmpR op_lt (pe_callB (Fa.lenQ K) (by rfl) m_len PySem.boot_len (pa_cons (pe_ix (Fa.ixL K) (pv 0) (pe_un un_neg pe_int) (fun _ _ => rfl)) pa_nil)) (pv 1) (nomark _)) Fa.pss_never pss_nil)
  (pss_cons (ps_expr (pe_call G_check_possible (hr.mono (by omega)) (by rfl) g_check_possible F_check_possible.kp b_check_possible .nil pass0 (pa_cons (pv 0) pa_nil)))
  (pss_cons (ps_setLc (i := 2) (own := [("day", 3)]) (g := (gName 3)) (tt := tYes) rfl sc_once_range.nd rfl rfl (sw_true rfl rfl rfl (by decide +kernel)) (pi_range1 (by rfl) m_range (pa_cons (pv 1) pa_nil)) (blkOk_by (N := N_once_range) (sc := defScope s_once_range) (by decide +kernel)) (fun _ _ _ _ _ => (pg_name (i := 3) sc_once_range.nd rfl (by first | exact Or.inl rfl | exact Or.inr rfl))) (fun _ _ _ _ _ => pts_nil) (fun _ _ _ _ _ => (pe_call G__range_of (hr.mono (by omega)) (by rfl) g__range_of F__range_of.kp b__range_of .nil pass0 (pa_cons (pv 0) (pa_cons (pe_tup (pa_cons (pv 3) pa_nil)) pa_nil)))))
  (pss_one (ps_ret (pe_tup (pa_cons (pe_callB (Fa.sumQ K rfl) (by rfl) m_sum Fa.b_sum (pa_cons (pe_lc (own := [("least", 4), ("_", 5)]) (g := (gTup K 2 (gCons (gName 4) (gCons (gName 5) gNil)))) (tt := tYes) rfl sc_once_range.nd (Fa.listQ K (pv 2)) (blkOk_by (N := N_once_range) (sc := defScope s_once_range) (by decide +kernel)) (fun _ _ _ _ _ => (Fa.pgTQ K rfl (pgs_cons (pg_name (i := 4) sc_once_range.nd rfl (by first | exact Or.inl rfl | exact Or.inr rfl)) (pgs_cons (pg_name (i := 5) sc_once_range.nd rfl (by first | exact Or.inl rfl | exact Or.inr rfl)) pgs_nil)))) (fun _ _ _ _ _ => pts_nil) (fun _ _ _ _ _ => (pv 4))) pa_nil)) (pa_cons (pe_callB (Fa.sumQ K rfl) (by rfl) m_sum Fa.b_sum (pa_cons (pe_lc (own := [("_", 5), ("greatest", 6)]) (g := (gTup K 2 (gCons (gName 5) (gCons (gName 6) gNil)))) (tt := tYes) rfl sc_once_range.nd (Fa.listQ K (pv 2)) (blkOk_by (N := N_once_range) (sc := defScope s_once_range) (by decide +kernel)) (fun _ _ _ _ _ => (Fa.pgTQ K rfl (pgs_cons (pg_name (i := 5) sc_once_range.nd rfl (by first | exact Or.inl rfl | exact Or.inr rfl)) (pgs_cons (pg_name (i := 6) sc_once_range.nd rfl (by first | exact Or.inl rfl | exact Or.inr rfl)) pgs_nil)))) (fun _ _ _ _ _ => pts_nil) (fun _ _ _ _ _ => (pv 6))) pa_nil)) pa_nil)))))))))), ?_⟩
    refine ⟨_, rfl, g, n, n, f, rfl, hS, fun H1 s1 => ?_⟩
    have hS1 := hS.same s1
    obtain ⟨⟨rows, G⟩, hf⟩ := id hS1
    have n30 := hf.n30
    have n1 := hf.n1
    have rl : (rows.map V.ref).length = n := by rw [List.length_map, G.cnt]
    obtain ⟨r, ea, er, hr'⟩ := G.last n1
    have lw : ((f (n - 1)).map V.int).length = n := by rw [List.length_map, hf.last]
    refine ⟨_, rfl, g, _, rfl, .inl (.inl (.inl G.top)), ?_⟩
    rw [rl]
    refine ⟨_, rfl, 1, rfl, g, _, _, _, rfl, rfl, .inl (.inl G.top), ea, r, _, rfl, .inl (.inl (.inl hr')), _, rfl, _, _, rfl, rfl, _, rfl, iteDF (by rw [lw]; omega) ?_⟩
    refine ⟨_, rfl, g, n, n, f, rfl, hS1, hN, fun H2 s2 => ?_⟩
    have hS2 := hS1.same s2
    refine ⟨_, rfl, n, rfl, by omega, by omega, fun D nD => ?_⟩
    rw [Int.toNat_natCast]
    refine lc_it (walk_range (lo := 0) (n := n)) (fun i H' => Same H2 H' ∧ ∃ us, H' D = some (.lst us) ∧ Paired (TwoAt H') us ((List.range i).map fun j : Nat => prR f n n [(j : Int)])) ?_ ?_ ?_ ?_
    · exact ⟨same_new nD, [], upd_same, .nil⟩
    · exact fun _ _ _ _ => trivial
    · rintro i v _ H3 hi ⟨s3, us, eD, hU⟩ ⟨rfl, rfl⟩
      refine ⟨rfl, yes_if ⟨_, rfl, _, rfl, by show 1 ≤ sizeLine; decide, fun T nT => ?_⟩⟩
      have sT := same_new (o := .tup [.int (0 + (i : Int))]) nT
      refine ⟨g, T, n, n, f, [0 + (i : Int)], rfl, (hS2.same s3).same sT, upd_same, ⟨List.cons_ne_nil _ _, List.pairwise_singleton _ _, fun d hd => by rw [List.mem_singleton.mp hd]; omega⟩, fun H4 x s4 hx => ?_⟩
      rw [Int.zero_add] at hx
      have sT4 := sT.trans s4
      have lu := paired_len hU
      rw [List.length_map, List.length_range] at lu
      have eD4 := sT4 _ _ eD
      refine ⟨us, eD4, small1000 (by omega), fun c o y => ?_, us ++ [x], upd_same, ?_⟩
      · rw [upd_ne (ne_of_none y nD)]
        exact sT4 _ _ (s3 _ _ y)
      · rw [List.range_succ, List.map_append]
        exact paired_snoc (L2.Paired.mapP hU fun _ _ z => (z.same sT4).lst eD4) (hx.lst eD4)
    · rintro H3 ⟨s3, us, eD, hU⟩
      have lu := paired_len hU
      rw [List.length_map, List.length_range] at lu
      refine ⟨_, rfl, D, rfl, ⟨_, .inl (.inl eD)⟩, fun D2 nD2 => ?_⟩
      refine lc_listV (K := K) (xs := us) (ys := (((List.range n).map fun j : Nat => prR f n n [(j : Int)]).map (·.1)).map V.int) (by rw [List.length_map, List.length_map, List.length_map, List.length_range, lu]) (by omega) (Same.refl H3) (.inl (.inl eD)) nD2 (fun j x y H' Qe N ex ey s' qe => ?_) fun H4 s4 e4 => ?_
      · obtain ⟨t2, et2, t, rfl, ht⟩ := paired_at hU ex
        rw [List.map_map, List.getElem?_map, et2] at ey
        cases ey
        exact ⟨t, _, rfl, .inl (.inl (s' _ _ ht)), rfl, _, _, rfl, _, _, rfl, rfl, rfl, yes_if ⟨_, rfl, qe _ (Same.refl _)⟩⟩
      refine ⟨D2, _, rfl, .inl (.inl e4), ?_⟩
      refine ⟨_, rfl, D, rfl, ⟨_, .inl (.inl (s4 _ _ eD))⟩, fun D3 nD3 => ?_⟩
      refine lc_listV (K := K) (xs := us) (ys := (((List.range n).map fun j : Nat => prR f n n [(j : Int)]).map (·.2)).map V.int) (by rw [List.length_map, List.length_map, List.length_map, List.length_range, lu]) (by omega) (Same.refl H4) (.inl (.inl (s4 _ _ eD))) nD3 (fun j x y H' Qe N ex ey s' qe => ?_) fun H5 s5 e5 => ?_
      · obtain ⟨t2, et2, t, rfl, ht⟩ := paired_at hU ex
        rw [List.map_map, List.getElem?_map, et2] at ey
        cases ey
        exact ⟨t, _, rfl, .inl (.inl (s' _ _ (s4 _ _ ht))), rfl, _, _, rfl, _, _, rfl, rfl, rfl, yes_if ⟨_, rfl, qe _ (Same.refl _)⟩⟩
      refine ⟨D3, _, rfl, .inl (.inl e5), by show 2 ≤ sizeLine; decide, fun T nT => ?_⟩
      refine q _ _ ((((s1.trans s2).trans s3).trans (s4.trans s5)).trans (same_new nT)) ⟨T, rfl, ?_⟩
      unfold onR
      rw [← sa_sum, ← sa_sum, upd_same, List.map_map, List.map_map]
      rfl
end
end K21

set_option maxHeartbeats 0
namespace K21
open PySem PySem.Spec PyProof.Rows L2 Fa
/-! the family that is built day by day -/
def posF (F : Fm) : Fm := F.filter fun p : List Int × Int => decide (p.2 > 0)
theorem posF_pos {F : Fm} : ∀ p ∈ posF F, 1 ≤ p.2 := fun p hp => by
  have := of_decide_eq_true (List.mem_filter.mp hp).2
  omega
abbrev PS : Type := Fm × Fm × Int
def pstep (s : PS) (p : List Int × Int) : PS := (if mn2 p.2 s.2.2 > 0 then s.1 ++ [(p.1, mn2 p.2 s.2.2)] else s.1, s.2.1 ++ [(p.1, p.2 - mn2 p.2 s.2.2)], s.2.2 - mn2 p.2 s.2.2)
theorem serve_c (p : List Int) (m : Int) (st : Fm) (l : Int) : serve ((p, m) :: st) l = if l ≤ 0 then ([], (p, m) :: st) else if l < m then ([(p, l)], (p, m - l) :: st) else ((p, m) :: (serve st (l - m)).1, (serve st (l - m)).2) := rfl
theorem pour_eq : ∀ (st A B : Fm) (r : Int), (∀ p ∈ st, 0 ≤ p.2) → 0 ≤ r → (st.foldl pstep (A, B, r)).1 = A ++ (serve (posF st) r).1 ∧ ∃ C, (st.foldl pstep (A, B, r)).2.1 = B ++ C ∧ posF C = (serve (posF st) r).2 ∧ (∀ p ∈ C, 0 ≤ p.2) ∧ C.length = st.length
  | [], A, B, r, _, _ => ⟨(List.append_nil _).symm, [], (List.append_nil _).symm, rfl, fun p hp => (nomatch hp), rfl⟩
  | (p, m) :: st, A, B, r, h, r0 => by
    have m0 := h (p, m) List.mem_cons_self
    have m0 : 0 ≤ m := m0
    have h' : ∀ q ∈ st, 0 ≤ q.2 := fun q hq => h q (List.mem_cons_of_mem _ hq)
    rw [List.foldl_cons]
    have es : pstep (A, B, r) (p, m) = (if mn2 m r > 0 then A ++ [(p, mn2 m r)] else A, B ++ [(p, m - mn2 m r)], r - mn2 m r) := rfl
    rw [es]
    obtain ⟨i1, C, i2, i3, i4, i5⟩ := pour_eq st (if mn2 m r > 0 then A ++ [(p, mn2 m r)] else A) (B ++ [(p, m - mn2 m r)]) (r - mn2 m r) h' (by unfold mn2; split <;> omega)
    rw [i1, i2]
    by_cases mz : m = 0
    · subst mz
      have e : mn2 0 r = 0 := by
        unfold mn2
        rw [if_neg (by omega)]
      have ep : posF ((p, 0) :: st) = posF st := rfl
      rw [e] at i2 i3 ⊢
      rw [ep, if_neg (by decide)]
      rw [Int.sub_zero] at i3 ⊢
      exact ⟨rfl, (p, 0) :: C, by rw [List.append_assoc]; rfl, i3, fun q hq => by
        rcases List.mem_cons.mp hq with rfl | hq
        · exact Int.le_refl _
        · exact i4 q hq, by rw [List.length_cons, List.length_cons, i5]⟩
    · have ep : posF ((p, m) :: st) = (p, m) :: posF st := List.filter_cons_of_pos (decide_eq_true (show m > 0 by omega))
      rw [ep, serve_c]
      by_cases rz : r ≤ 0
      · have : r = 0 := by omega
        subst this
        have e : mn2 m 0 = 0 := by
          unfold mn2
          rw [if_pos (by omega)]
        rw [e] at i2 i3 ⊢
        rw [if_neg (by decide), if_pos (Int.le_refl _)]
        rw [Int.sub_zero] at i3 ⊢
        rw [serve_z (Int.le_refl _)] at i3 ⊢
        refine ⟨rfl, (p, m - 0) :: C, by rw [List.append_assoc]; rfl, ?_, fun q hq => ?_, by rw [List.length_cons, List.length_cons, i5]⟩
        · show posF ((p, m - 0) :: C) = (p, m) :: posF st
          have i3 : posF C = posF st := i3
          rw [Int.sub_zero, ← i3]
          exact List.filter_cons_of_pos (decide_eq_true (show m > 0 by omega))
        · rcases List.mem_cons.mp hq with rfl | hq
          · show 0 ≤ m - 0
            omega
          · exact i4 q hq
      · rw [if_neg rz]
        by_cases c : r < m
        · have e : mn2 m r = r := by
            unfold mn2
            rw [if_pos c]
          rw [e] at i2 i3 ⊢
          rw [if_pos (by omega), if_pos c]
          rw [serve_z (show r - r ≤ 0 by omega)] at i3 ⊢
          refine ⟨by rw [List.append_nil], (p, m - r) :: C, by rw [List.append_assoc]; rfl, ?_, fun q hq => ?_, by rw [List.length_cons, List.length_cons, i5]⟩
          · show posF ((p, m - r) :: C) = (p, m - r) :: posF st
            have i3 : posF C = posF st := i3
            rw [← i3]
            exact List.filter_cons_of_pos (decide_eq_true (show m - r > 0 by omega))
          · rcases List.mem_cons.mp hq with rfl | hq
            · show 0 ≤ m - r
              omega
            · exact i4 q hq
        · have e : mn2 m r = m := by
            unfold mn2
            rw [if_neg c]
          rw [e] at i2 i3 ⊢
          rw [if_pos (by omega), if_neg c]
          refine ⟨by rw [List.append_assoc]; rfl, (p, m - m) :: C, by rw [List.append_assoc]; rfl, ?_, fun q hq => ?_, by rw [List.length_cons, List.length_cons, i5]⟩
          · show posF ((p, m - m) :: C) = _
            rw [← i3]
            exact List.filter_cons_of_neg (by rw [decide_eq_false (show ¬ m - m > 0 by omega)]; exact Bool.false_ne_true)
          · rcases List.mem_cons.mp hq with rfl | hq
            · show 0 ≤ m - m
              omega
            · exact i4 q hq
abbrev DS : Type := List Part × Fm
def wayP (s : Option Int) (p : List Int × Int) : Part := (p.1, s, p.2)
def dstep (s : DS) (q : Way) : DS := (s.1 ++ (s.2.foldl pstep ([], [], q.2)).1.map (wayP q.1), (s.2.foldl pstep ([], [], q.2)).2.1)
theorem dstep_ok {s : DS} {q : Way} (h : ∀ p ∈ s.2, 0 ≤ p.2) (h0 : 0 ≤ q.2) : (dstep s q).1 = s.1 ++ (serve (posF s.2) q.2).1.map (wayP q.1) ∧ posF (dstep s q).2 = (serve (posF s.2) q.2).2 ∧ (∀ p ∈ (dstep s q).2, 0 ≤ p.2) ∧ (dstep s q).2.length = s.2.length := by
  obtain ⟨i1, C, i2, i3, i4, i5⟩ := pour_eq s.2 [] [] q.2 h h0
  have e : (dstep s q).2 = C := i2
  refine ⟨?_, by rw [e]; exact i3, by rw [e]; exact i4, by rw [e]; exact i5⟩
  show s.1 ++ (s.2.foldl pstep ([], [], q.2)).1.map (wayP q.1) = _
  rw [i1]
  rfl
theorem day_eq : ∀ (ws : List Way) (s : DS), (∀ p ∈ s.2, 0 ≤ p.2) → (∀ q ∈ ws, 0 ≤ q.2) → (ws.foldl dstep s).1 = s.1 ++ deal (posF s.2) ws ∧ (∀ p ∈ (ws.foldl dstep s).2, 0 ≤ p.2) ∧ (ws.foldl dstep s).2.length = s.2.length
  | [], s, h, _ => ⟨(List.append_nil _).symm, h, rfl⟩
  | q :: ws, s, h, hw => by
    obtain ⟨e1, e2, e3, e4⟩ := dstep_ok (q := q) h (hw q List.mem_cons_self)
    obtain ⟨i1, i2, i3⟩ := day_eq ws (dstep s q) e3 fun x hx => hw x (List.mem_cons_of_mem _ hx)
    rw [List.foldl_cons]
    refine ⟨?_, i2, by rw [i3, e4]⟩
    rw [i1, e1, e2, List.append_assoc]
    rfl
theorem deal_flt : ∀ (ws : List Way) (st : Fm), (∀ q ∈ ws, 0 ≤ q.2) → deal st (ws.filter fun q => decide (q.2 ≠ 0)) = deal st ws
  | [], _, _ => rfl
  | (s, l) :: ws, st, h => by
    have h' : ∀ q ∈ ws, 0 ≤ q.2 := fun q hq => h q (List.mem_cons_of_mem _ hq)
    by_cases z : l = 0
    · subst z
      rw [List.filter_cons_of_neg (by show ¬ decide ((0 : Int) ≠ 0) = true; decide), deal_flt ws st h']
      show _ = ((serve st 0).1.map fun q => (q.1, s, q.2)) ++ deal (serve st 0).2 ws
      rw [serve_z (Int.le_refl _)]
      rfl
    · rw [List.filter_cons_of_pos (a := (s, l)) (p := fun q : Way => decide (q.2 ≠ 0)) (decide_eq_true z)]
      show _ ++ deal (serve st l).2 _ = _ ++ deal (serve st l).2 ws
      rw [deal_flt ws _ h']
section
variable {f : Nat → List Int} {n : Nat}
def outW (f : Nat → List Int) (n i : Nat) : List Way := (List.range (n - (i + 1))).map fun j : Nat => (some ((i : Int) + 1 + (j : Int)), gp f i ((i : Int) + 1 + (j : Int)))
def vB (b : Bool) (f : Nat → List Int) (n i : Nat) : List Way := if b = true then outW f n i ++ [((none : Option Int), aw f n n i)] else [((none : Option Int), aw f n n i)] ++ outW f n i
abbrev LL (f : Nat → List Int) (n : Nat) : List Tri := gAll f n n n ++ []
def vR (b : Bool) (f : Nat → List Int) (n i : Nat) : List Way := if b = true then ways (LL f n) i ++ [((none : Option Int), goneN (r0 f) (LL f n) i)] else [((none : Option Int), goneN (r0 f) (LL f n) i)] ++ ways (LL f n) i
theorem gRow_self {a i m : Nat} : (gRow f a m).filter (frm i) = if a = i then gRow f a m else [] := by
  by_cases e : a = i
  · rw [if_pos e]
    refine List.filter_eq_self.mpr fun p hp => ?_
    have := (gRow_in hp).1
    exact decide_eq_true (by omega)
  · rw [if_neg e]
    refine List.filter_eq_nil_iff.mpr fun p hp => ?_
    have := (gRow_in hp).1
    unfold frm
    rw [decide_eq_false (by omega)]
    exact Bool.false_ne_true
theorem gAll_self {i w : Nat} : ∀ k : Nat, (gAll f n w k).filter (frm i) = if i < k then gRow f i (min (i + w) n - (i + 1)) else []
  | 0 => by
    rw [if_neg (by omega)]
    rfl
  | k + 1 => by
    rw [gAll_succ, List.filter_append, gAll_self k, gRow_self]
    by_cases h : i < k
    · rw [if_pos h, if_neg (by omega), if_pos (by omega), List.append_nil]
    · rw [if_neg h]
      by_cases e : k = i
      · subst e
        rw [if_pos rfl, if_pos (by omega)]
        rfl
      · rw [if_neg e, if_neg (by omega)]
        rfl
theorem ways_full {i : Nat} (hi : i < n) : ways (LL f n) i = (outW f n i).filter fun q => decide (q.2 ≠ 0) := by
  unfold ways LL
  rw [List.append_nil, gAll_self, if_pos hi, show min (i + n) n - (i + 1) = n - (i + 1) by omega]
  unfold gRow outW
  rw [List.filter_map, List.filter_map, List.map_map]
  rfl
theorem gone_full {i : Nat} (hi : i < n) : goneN (r0 f) (LL f n) i = aw f n n i := by
  unfold goneN LL
  rw [List.append_nil, gAll_out hi (by omega)]
  omega
theorem new_full {i : Nat} (hi : i < n) : newN (r0 f) (LL f n) i = fr f n i := by
  unfold newN LL
  rw [List.append_nil, gAll_inn hi (by omega)]
  omega
abbrev oB : Nat → Fm → Fm := fun _ g => g.reverse
theorem ord_b (b : Bool) : Ord n (r0 f) (LL f n) oB (vR b f n) := ⟨fun _ g => List.reverse_perm g, fun i _ => by
  unfold vR
  cases b with
  | true => exact List.Perm.refl _
  | false => exact List.perm_append_comm⟩
theorem stk_b {i : Nat} {g : Fm} (hi : i < n) : stk (r0 f) (LL f n) oB i g = posF (g ++ [(([] : List Int), fr f n i)]) := by
  unfold stk
  show ((List.filter _ (List.reverse _)).reverse) = _
  rw [List.filter_reverse, List.reverse_reverse, new_full hi]
  rfl
theorem outW_nn {i : Nat} (hN : NN f n n) (hi : i < n) : ∀ q ∈ outW f n i, 0 ≤ q.2 ∧ q.1 ≠ none := fun q hq => by
  obtain ⟨j, hj, rfl⟩ := List.mem_map.mp hq
  have := List.mem_range.mp hj
  exact ⟨hN.g0 _ _ (by omega) (by omega) (by omega) (by omega), fun z => by cases z⟩
theorem vB_nn {b : Bool} {i : Nat} (hN : NN f n n) (hi : i < n) : ∀ q ∈ vB b f n i, 0 ≤ q.2 := fun q hq => by
  have a0 := hN.a0 i (by omega) (by omega)
  unfold vB at hq
  split at hq
  · rcases List.mem_append.mp hq with z | z
    · exact (outW_nn hN hi q z).1
    · rw [List.mem_singleton.mp z]
      exact a0
  · rcases List.mem_append.mp hq with z | z
    · rw [List.mem_singleton.mp z]
      exact a0
    · exact (outW_nn hN hi q z).1
theorem day_is {b : Bool} {i : Nat} {g : Fm} (hN : NN f n n) (hi : i < n) (hg : ∀ p ∈ g, 0 ≤ p.2) : dayD (r0 f) (LL f n) oB (vR b f n) i g = ((vB b f n i).foldl dstep ([], g ++ [(([] : List Int), fr f n i)])).1 := by
  have f0 := hN.f0 i (by omega) (by omega)
  have a0 := hN.a0 i (by omega) (by omega)
  unfold dayD
  rw [stk_b hi, (day_eq (vB b f n i) ([], g ++ [(([] : List Int), fr f n i)]) (fun p hp => by
    rcases List.mem_append.mp hp with z | z
    · exact hg p z
    · rw [List.mem_singleton.mp z]
      exact f0) (vB_nn hN hi)).1, List.nil_append]
  have hv : ∀ q ∈ vR b f n i, 0 ≤ q.2 := fun q hq => by
    unfold vR at hq
    rw [ways_full hi, gone_full hi] at hq
    have key : ∀ q ∈ (outW f n i).filter (fun q => decide (q.2 ≠ 0)), 0 ≤ q.2 := fun q hq => (outW_nn hN hi q (List.mem_filter.mp hq).1).1
    split at hq
    · rcases List.mem_append.mp hq with z | z
      · exact key q z
      · rw [List.mem_singleton.mp z]
        exact a0
    · rcases List.mem_append.mp hq with z | z
      · rw [List.mem_singleton.mp z]
        exact a0
      · exact key q z
  rw [← deal_flt _ _ hv, ← deal_flt _ _ (vB_nn hN hi)]
  congr 1
  unfold vR vB
  rw [ways_full hi, gone_full hi]
  cases b with
  | true =>
    rw [if_pos rfl, if_pos rfl, List.filter_append, List.filter_append, List.filter_filter]
    simp
  | false =>
    rw [if_neg Bool.false_ne_true, if_neg Bool.false_ne_true, List.filter_append, List.filter_append, List.filter_filter]
    simp
abbrev GG (b : Bool) (f : Nat → List Int) (n i : Nat) : (Nat → Fm) × Fm := route (r0 f) (LL f n) oB (vR b f n) i
theorem gg_ok (b : Bool) (hN : NN f n n) (n1 : 1 ≤ n) {i : Nat} (hi : i ≤ n) : Rt n (r0 f) (LL f n) i (GG b f n i).1 (GG b f n i).2 := route_ok (ord_b b) (links_of hN (jok_nil hN) n1) i hi
def lenOne (p : List Int) : Bool := decide (p.length = 1)
theorem nilL_app : ∀ {g : Fm} {q : List Int × Int}, (∀ p ∈ g, p.1 ≠ []) → NilL (posF (g ++ [q]))
  | [], q, _ => by
    show NilL (posF [q])
    unfold posF
    rw [List.filter_cons]
    split
    · exact ⟨fun _ => rfl, trivial⟩
    · exact trivial
  | p :: g, q, h => by
    have ih := nilL_app (g := g) (q := q) fun x hx => h x (List.mem_cons_of_mem _ hx)
    show NilL (posF (p :: (g ++ [q])))
    unfold posF at ih ⊢
    rw [List.filter_cons]
    split
    · exact ⟨fun z => absurd z (h p List.mem_cons_self), ih⟩
    · exact ih
theorem one_day {b : Bool} (hN : NN f n n) (n1 : 1 ≤ n) {i : Nat} (hi : i < n) : tot lenOne (stA (dayD (r0 f) (LL f n) oB (vR b f n) i ((GG b f n i).1 i)) i none) = if b = true then (prR f n n [(i : Int)]).2 else (prR f n n [(i : Int)]).1 := by
  have R := gg_ok b hN n1 (i := i) (by omega)
  have L := links_of hN (jok_nil hN) n1
  have f0 := hN.f0 i (by omega) (by omega)
  have a0 := hN.a0 i (by omega) (by omega)
  have hg : ∀ p ∈ (GG b f n i).1 i, p.1 ≠ [] := fun p hp => (R.A i p hp).2.ne
  have sup := R.sup (ord_b b) L hi
  have tt := R.stk_tot (ord_b b) L hi nilP
  have z0 : tot nilP ((GG b f n i).1 i) = 0 := tot_zero fun p hp => by
    have := hg p hp
    cases e : p.1 with
    | nil => exact absurd e this
    | cons _ _ => rfl
  rw [z0, if_pos (show nilP [] = true from rfl), new_full hi, Int.zero_add] at tt
  have ps : ∀ p ∈ stk (r0 f) (LL f n) oB i ((GG b f n i).1 i), 1 ≤ p.2 := by
    rw [stk_b hi]
    exact posF_pos
  have nl : NilL (stk (r0 f) (LL f n) oB i ((GG b f n i).1 i)) := by
    rw [stk_b hi]
    exact nilL_app hg
  have wn : ∀ q ∈ ways (LL f n) i, 0 ≤ q.2 ∧ q.1 ≠ none := fun q hq => by
    rw [ways_full hi] at hq
    exact outW_nn hN hi q (List.mem_filter.mp hq).1
  have ws : ((ways (LL f n) i).map (·.2)).sum = r0 f i - aw f n n i := by
    have := ways_sum (fun _ => true) (LL f n) i
    have e : lsum (fun p : Tri => frm i p && true) (LL f n) = r0 f i - goneN (r0 f) (LL f n) i := by
      rw [lsum_ext (Q := frm i) fun p _ => Bool.and_true _]
      unfold goneN
      omega
    rw [e, gone_full hi] at this
    rw [← this]
    congr 1
  have e1 : tot lenOne (stA (dayD (r0 f) (LL f n) oB (vR b f n) i ((GG b f n i).1 i)) i none) = totD nilP isNone (dayD (r0 f) (LL f n) oB (vR b f n) i ((GG b f n i).1 i)) := by
    rw [tot_stA, totD_vsum]
    refine vsum_ext fun q _ => ?_
    have en : lenOne (q.1 ++ [(i : Int)]) = nilP q.1 := by
      unfold lenOne nilP
      rw [List.length_append]
      cases q.1 with
      | nil => rfl
      | cons x r => exact decide_eq_false (by rw [List.length_cons]; show ¬ (r.length + 1 + 1 = 1); omega)
    by_cases z : q.2.1 = none
    · rw [if_pos z, en, show isNone q.2.1 = true from decide_eq_true z, Bool.and_true]
    · rw [if_neg z, show isNone q.2.1 = false from decide_eq_false z, Bool.and_false, if_neg Bool.false_ne_true]
  rw [e1, prR_one hN hi]
  unfold dayD vR
  cases b with
  | true =>
    rw [if_pos rfl, if_pos rfl, gone_full hi, deal_last ps nl wn a0 (by rw [ws, sup]; omega), tt]
  | false =>
    rw [if_neg Bool.false_ne_true, if_neg Bool.false_ne_true, gone_full hi]
    have le : aw f n n i ≤ r0 f i := by
      have := sum_nn fun q hq => (wn q hq).1
      omega
    have := deal_first (ws := ways (LL f n) i) ps nl (fun q hq => (wn q hq).2) a0 (by rw [sup]; exact le)
    refine this.trans ?_
    rw [tt, sup]
    rfl
theorem one_tot {b : Bool} (hN : NN f n n) (n1 : 1 ≤ n) : ∀ {i : Nat}, i ≤ n → tot lenOne (GG b f n i).2 = sa (fun j => if b = true then (prR f n n [(j : Int)]).2 else (prR f n n [(j : Int)]).1) i
  | 0, _ => rfl
  | i + 1, hi => by
    show tot lenOne ((GG b f n i).2 ++ stA _ i none) = _
    rw [tot_app, one_tot hN n1 (by omega), one_day hN n1 (by omega)]
    rfl
end
end K21

namespace K21
open PySem PySem.Spec PyProof.Rows L2 Fa
abbrev s__law_u : Stmt := topS 61
abbrev N__law_u : List Str := ["sheet_here", "begin", "end"]
theorem sc__law_u : FnScope N__law_u ["sheet_here", "begin", "end"] (defScope s__law_u) := ⟨rfl, rfl, rfl, by decide +kernel, rfl, by decide +kernel, by decide +kernel⟩
abbrev s__law_gap : Stmt := topS 62
abbrev N__law_gap : List Str := ["sheet_here", "one", "two", "less"]
theorem sc__law_gap : FnScope N__law_gap ["sheet_here", "one", "two"] (defScope s__law_gap) := ⟨rfl, rfl, rfl, by decide +kernel, rfl, by decide +kernel, by decide +kernel⟩
abbrev s__law_away : Stmt := topS 63
abbrev N__law_away : List Str := ["sheet_here", "one", "end"]
theorem sc__law_away : FnScope N__law_away ["sheet_here", "one"] (defScope s__law_away) := ⟨rfl, rfl, rfl, by decide +kernel, rfl, by decide +kernel, by decide +kernel⟩
abbrev s__law_fresh : Stmt := topS 64
abbrev N__law_fresh : List Str := ["sheet_here", "two", "begin"]
theorem sc__law_fresh : FnScope N__law_fresh ["sheet_here", "two"] (defScope s__law_fresh) := ⟨rfl, rfl, rfl, by decide +kernel, rfl, by decide +kernel, by decide +kernel⟩
section
variable {P : Program} {w : World} {K : PySem.W.Frag} {mg : Str → Option Value} {base : Heap}
theorem ok_lu {f : Addr} {fd : FuncData} {k : Nat} (F : Fun K "_law_u" "_law_u" s__law_u f fd) : FnOk P w K mg base CX0 (k + 1) f fd ["sheet_here", "begin", "end"] spU := by
  refine F.ok sc__law_u (fun vs H Q E h => ?_) (fun cdv A outer s H vs Q E hr h => ?_)
  · obtain ⟨g, _, _, _, _, _, rfl, _⟩ := h
    rfl
  · obtain ⟨g, n, m, f, a, b, rfl, ⟨⟨rows, G⟩, hS⟩, ht, q⟩ := h
    refine ⟨_, (pss_one (ps_ret (pe_ifExp (pt_cmpR op_le (pv 1) (pv 2) (nomark _)) (pe_ix (Fa.ixL K) (pe_ix (Fa.ixL K) (pv 0) (pv 2) (fun _ _ => rfl)) (pe_op op_sub (pv 2) (pv 1)) (fun _ _ => rfl)) pe_int))), ?_⟩
    by_cases ab : a ≤ b
    · obtain ⟨t1, t2, t3⟩ := ht ab
      obtain ⟨r, er, _, hrow⟩ := G.get (s := b.toNat) (by omega)
      have at1 : atI (rows.map V.ref) b = some (.ref r) := atI_int (by omega) (by rw [List.getElem?_map, er]; rfl)
      have at2 : atI ((f b.toNat).map V.int) (b - a) = some (.int (uu f a b)) := atI_int (by omega) (by rw [List.getElem?_map, uu_get hS ab ht]; rfl)
      exact ⟨_, rfl, _, rfl, _, _, rfl, rfl, _, rfl, iteDS ab ⟨_, rfl, _, rfl, g, _, _, _, rfl, rfl, .inl (.inl G.top), at1, _, rfl, _, rfl, _, _, rfl, rfl, r, _, _, _, rfl, rfl, .inl (.inl hrow), at2, q⟩⟩
    · refine ⟨_, rfl, _, rfl, _, _, rfl, rfl, _, rfl, iteDF ab ?_⟩
      unfold uu at q
      rw [if_neg ab] at q
      exact q
variable {fU : Addr} {dU : FuncData} {k : Nat} (F__law_u : Fun K "_law_u" "_law_u" s__law_u fU dU) (G__law_u : FnOk P w K mg base CX0 k fU dU ["sheet_here", "begin", "end"] spU) (b__law_u : Binds K dU ["sheet_here", "begin", "end"] []) (g__law_u : mg "_law_u" = some (.ref fU))
include F__law_u G__law_u b__law_u g__law_u
theorem ok_lgap {f : Addr} {fd : FuncData} (F : Fun K "_law_gap" "_law_gap" s__law_gap f fd) : FnOk P w K mg base CX0 (k + 1) f fd ["sheet_here", "one", "two"] spGapB := by
  refine F.ok sc__law_gap (fun vs H Q E h => ?_) (fun cdv A outer s H vs Q E hr h => ?_)
  · obtain ⟨g, _, _, _, _, _, rfl, _⟩ := h
    rfl
  · obtain ⟨g, n, m, f, a, b, rfl, hS, h0, h1, h2, h3, q⟩ := h
    refine ⟨_, (pss_cons (ps_set (i := 3) sc__law_gap.nd rfl (by first | exact Or.inl rfl | exact Or.inr rfl) (pe_op op_add (pe_call G__law_u (hr.mono (by omega)) (by rfl) g__law_u F__law_u.kp b__law_u .nil pass0 (pa_cons (pv 0) (pa_cons (pe_op op_add (pv 1) pe_int) (pa_cons (pe_op op_sub (pv 2) pe_int) pa_nil)))) (pe_call G__law_u (hr.mono (by omega)) (by rfl) g__law_u F__law_u.kp b__law_u .nil pass0 (pa_cons (pv 0) (pa_cons (pv 1) (pa_cons (pv 2) pa_nil))))))
  (pss_one (ps_ret (pe_op op_sub (pe_op op_add (pe_call G__law_u (hr.mono (by omega)) (by rfl) g__law_u F__law_u.kp b__law_u .nil pass0 (pa_cons (pv 0) (pa_cons (pv 1) (pa_cons (pe_op op_sub (pv 2) pe_int) pa_nil)))) (pe_call G__law_u (hr.mono (by omega)) (by rfl) g__law_u F__law_u.kp b__law_u .nil pass0 (pa_cons (pv 0) (pa_cons (pe_op op_add (pv 1) pe_int) (pa_cons (pv 2) pa_nil))))) (pv 3))))), ?_⟩
    refine ⟨_, rfl, _, rfl, _, _, rfl, rfl, _, rfl, _, _, rfl, rfl, g, n, m, f, a + 1, b - 1, rfl, hS, fun _ => ⟨by omega, by omega, by omega⟩, _, rfl, _, rfl, _, rfl, g, n, m, f, a, b, rfl, hS, fun _ => ⟨by omega, by omega, by omega⟩, _, _, rfl, rfl, ?_⟩
    refine ⟨_, rfl, _, rfl, _, rfl, _, _, rfl, rfl, g, n, m, f, a, b - 1, rfl, hS, fun _ => ⟨by omega, by omega, by omega⟩, _, rfl, _, rfl, _, _, rfl, rfl, _, rfl, g, n, m, f, a + 1, b, rfl, hS, fun _ => ⟨by omega, by omega, by omega⟩, _, _, rfl, rfl, _, rfl, _, _, rfl, rfl, ?_⟩
    show Q (V.int (uu f a (b - 1) + uu f (a + 1) b - (uu f (a + 1) (b - 1) + uu f a b))) H
    have e : uu f a (b - 1) + uu f (a + 1) b - (uu f (a + 1) (b - 1) + uu f a b) = gp f a b := by
      unfold gp
      omega
    rw [e]
    exact q
theorem ok_laway {f : Addr} {fd : FuncData} (F : Fun K "_law_away" "_law_away" s__law_away f fd) (m_len : mg "len" = none) (m_min : mg "min" = none) : FnOk P w K mg base CX0 (k + 1) f fd ["sheet_here", "one"] spAwF := by
  refine F.ok sc__law_away (fun vs H Q E h => ?_) (fun cdv A outer s H vs Q E hr h => ?_)
  · obtain ⟨g, _, _, _, _, rfl, _⟩ := h
    rfl
  · obtain ⟨g, n, m, f, a, rfl, hS, h0, h1, q⟩ := h
    refine ⟨_, (pss_cons (ps_set (i := 2) sc__law_away.nd rfl (by first | exact Or.inl rfl | exact Or.inr rfl) (pe_op op_sub (pe_callB (call_min2 rfl) (by rfl) m_min PyProof.Rows.boot_min (pa_cons (pe_op op_add (pv 1) (pe_callB (Fa.lenQ K) (by rfl) m_len PySem.boot_len (pa_cons (pe_ix (Fa.ixL K) (pv 0) (pe_un un_neg pe_int) (fun _ _ => rfl)) pa_nil))) (pa_cons (pe_callB (Fa.lenQ K) (by rfl) m_len PySem.boot_len (pa_cons (pv 0) pa_nil)) pa_nil))) pe_int))
  (pss_one (ps_ret (pe_op op_sub (pe_call G__law_u (hr.mono (by omega)) (by rfl) g__law_u F__law_u.kp b__law_u .nil pass0 (pa_cons (pv 0) (pa_cons (pv 1) (pa_cons (pv 2) pa_nil)))) (pe_call G__law_u (hr.mono (by omega)) (by rfl) g__law_u F__law_u.kp b__law_u .nil pass0 (pa_cons (pv 0) (pa_cons (pe_op op_add (pv 1) pe_int) (pa_cons (pv 2) pa_nil)))))))), ?_⟩
    obtain ⟨⟨rows, G⟩, hf⟩ := id hS
    have w1 := hf.w1
    obtain ⟨r, ea, er, hr'⟩ := G.last hf.n1
    have e1 : eA n m a < n ∧ eA n m a - a < m := by
      unfold eA
      split <;> omega
    have e2 : (if ((rows.map V.ref).length : Int) < a + (((f (n - 1)).map V.int).length : Int) then ((rows.map V.ref).length : Int) else a + (((f (n - 1)).map V.int).length : Int)) - 1 = eA n m a := by
      rw [List.length_map, List.length_map, G.cnt, hf.last]
      unfold eA
      split <;> split <;> omega
    refine ⟨_, rfl, _, rfl, 1, rfl, g, _, _, _, rfl, rfl, .inl (.inl G.top), ea, r, _, rfl, .inl (.inl (.inl hr')), _, _, rfl, rfl, _, rfl, g, _, rfl, .inl (.inl (.inl G.top)), _, _, rfl, _, _, rfl, rfl, ?_⟩
    show gName 2 (V.int (_ - 1)) _ _ _
    rw [e2]
    exact ⟨_, rfl, _, rfl, _, rfl, g, n, m, f, a, eA n m a, rfl, hS, fun _ => ⟨h0, e1.1, e1.2⟩, _, rfl, _, rfl, _, _, rfl, rfl, _, rfl, g, n, m, f, a + 1, eA n m a, rfl, hS, fun _ => ⟨by omega, e1.1, by omega⟩, _, _, rfl, rfl, q⟩
theorem ok_lfresh {f : Addr} {fd : FuncData} (F : Fun K "_law_fresh" "_law_fresh" s__law_fresh f fd) (m_len : mg "len" = none) (m_max : mg "max" = none) : FnOk P w K mg base CX0 (k + 1) f fd ["sheet_here", "two"] spFrO := by
  refine F.ok sc__law_fresh (fun vs H Q E h => ?_) (fun cdv A outer s H vs Q E hr h => ?_)
  · obtain ⟨g, _, _, _, _, rfl, _⟩ := h
    rfl
  · obtain ⟨g, n, m, f, b, rfl, hS, h0, h1, q⟩ := h
    refine ⟨_, (pss_cons (ps_set (i := 2) sc__law_fresh.nd rfl (by first | exact Or.inl rfl | exact Or.inr rfl) (pe_callB (call_max2 rfl) (by rfl) m_max PyProof.Rows.boot_max (pa_cons pe_int (pa_cons (pe_op op_add (pe_op op_sub (pv 1) (pe_callB (Fa.lenQ K) (by rfl) m_len PySem.boot_len (pa_cons (pe_ix (Fa.ixL K) (pv 0) (pe_un un_neg pe_int) (fun _ _ => rfl)) pa_nil))) pe_int) pa_nil))))
  (pss_one (ps_ret (pe_op op_sub (pe_call G__law_u (hr.mono (by omega)) (by rfl) g__law_u F__law_u.kp b__law_u .nil pass0 (pa_cons (pv 0) (pa_cons (pv 2) (pa_cons (pv 1) pa_nil)))) (pe_call G__law_u (hr.mono (by omega)) (by rfl) g__law_u F__law_u.kp b__law_u .nil pass0 (pa_cons (pv 0) (pa_cons (pv 2) (pa_cons (pe_op op_sub (pv 1) pe_int) pa_nil)))))))), ?_⟩
    obtain ⟨⟨rows, G⟩, hf⟩ := id hS
    have w1 := hf.w1
    obtain ⟨r, ea, er, hr'⟩ := G.last hf.n1
    have e1 : 0 ≤ sF m b ∧ b - sF m b < m := by
      unfold sF
      split <;> omega
    refine ⟨_, rfl, _, rfl, 1, rfl, g, _, _, _, rfl, rfl, .inl (.inl G.top), ea, r, _, rfl, .inl (.inl (.inl hr')), _, _, rfl, rfl, _, _, rfl, rfl, 0, _, rfl, ?_⟩
    rw [List.length_map, hf.last]
    exact ⟨_, rfl, _, rfl, _, rfl, g, n, m, f, sF m b, b, rfl, hS, fun _ => ⟨e1.1, h1, e1.2⟩, _, rfl, _, rfl, _, rfl, _, _, rfl, rfl, g, n, m, f, sF m b, b - 1, rfl, hS, fun _ => ⟨e1.1, by omega, by omega⟩, _, _, rfl, rfl, q⟩
end
end K21

/-! statements one after another: what holds between them is said out loud -/
namespace Fa
open PySem PySem.Spec PyProof.Rows L2 LamX
theorem seq_cut {a b : TS} {D : Ends} {σ : L2.St} {H : Hp} (G : L2.St → Hp → Prop) (rest : ∀ σ' H', G σ' H' → b D σ' H') (use : ∀ N : L2.St → Hp → Prop, (∀ σ' H', G σ' H' → N σ' H') → a { D with nx := N } σ H) : tSeq a b D σ H := use (b D) rest
/-- the same behind a name's being set, and behind an empty way -/
theorem nm_cut {i : Nat} {v : V} {a b : TS} {D : Ends} {σ : L2.St} {H : Hp} (G : L2.St → Hp → Prop) (rest : ∀ σ' H', G σ' H' → b D σ' H') (use : ∀ N : L2.St → Hp → Prop, (∀ σ' H', G σ' H' → N σ' H') → a { D with nx := N } (σ.set i (some v)) H) : gName i v σ H (tSeq a b D) := use (b D) rest
theorem nx_cut {a b : TS} {D D0 : Ends} {σ : L2.St} {H : Hp} (e : D0.nx = tSeq a b D) (G : L2.St → Hp → Prop) (rest : ∀ σ' H', G σ' H' → b D σ' H') (use : ∀ N : L2.St → Hp → Prop, (∀ σ' H', G σ' H' → N σ' H') → a { D with nx := N } σ H) : tNext D0 σ H := by
  unfold tNext
  rw [e]
  exact use (b D) rest
section
variable {H H' : Hp} {b : Addr}
theorem xd (x : ExtN H H') {kvs : List (List Key × V)} (e : H b = some (.dT kvs)) : H' b = some (.dT kvs) := x _ _ e fun _ z => by cases z
end
end Fa

set_option maxHeartbeats 0
namespace K21
open PySem PySem.Spec PyProof.Rows L2 Fa
abbrev s__law_built : Stmt := topS 66
abbrev N__law_built : List Str := ["sheet_here", "is_many", "count_here", "lines", "found", "spot", "parts", "outs", "gone", "sequence_here", "later", "room", "rest", "one", "part", "more"]
theorem sc__law_built : FnScope N__law_built ["sheet_here", "is_many"] (defScope s__law_built) := ⟨rfl, rfl, rfl, by decide +kernel, rfl, by decide +kernel, by decide +kernel⟩

/-! what the lists and the dict hold -/
def kvF (F : Fm) : List (List Key × V) := F.map fun p => (p.1.map Sum.inl, V.int p.2)
theorem inl_inj : ∀ {l m : List Int}, l.map (Sum.inl : Int → Key) = m.map Sum.inl → l = m
  | [], [], _ => rfl
  | [], _ :: _, h => by cases h
  | _ :: _, [], h => by cases h
  | x :: l, y :: m, h => by
    rw [List.map_cons, List.map_cons] at h
    obtain ⟨h1, h2⟩ := List.cons.inj h
    rw [Sum.inl.inj h1, inl_inj h2]
theorem kvF_new {F : Fm} {p : List Int × Int} (nd : ((F ++ [p]).map (·.1)).Nodup) : p.1.map Sum.inl ∉ (kvF F).map (·.1) := fun z => by
  unfold kvF at z
  rw [List.map_map] at z
  obtain ⟨q, hq, e⟩ := List.mem_map.mp z
  have e := inl_inj e
  rw [List.map_append, List.nodup_append] at nd
  exact nd.2.2 _ (List.mem_map.mpr ⟨q, hq, rfl⟩) _ List.mem_cons_self e
theorem kvF_put {F : Fm} {p : List Int × Int} (nd : ((F ++ [p]).map (·.1)).Nodup) : putK (kvF F) (p.1.map Sum.inl) (.int p.2) = kvF (F ++ [p]) := by
  rw [putK_new (kvF_new nd)]
  unfold kvF
  rw [List.map_append]
  rfl
theorem kvF_get {F : Fm} {p : List Int × Int} (nd : ((F ++ [p]).map (·.1)).Nodup) : valV (kvF F) (p.1.map Sum.inl) = none := by
  unfold valV
  rw [List.find?_eq_none.mpr fun kv hkv z => kvF_new nd (List.mem_map.mpr ⟨kv, hkv, of_decide_eq_true z⟩)]
  rfl
theorem famOf_kvF (F : Fm) : famOf (kvF F) = F := by
  unfold famOf kvF
  rw [List.map_map]
  refine (List.map_congr_left fun p _ => ?_).trans (List.map_id _)
  show ((p.1.map Sum.inl).map _, p.2) = p
  rw [List.map_map]
  obtain ⟨a, b⟩ := p
  congr 1
  exact (List.map_congr_left fun x _ => rfl).trans (List.map_id _)
theorem kvF_ok {n : Nat} {F : Fm} (hF : ∀ q ∈ F, 1 ≤ q.2 ∧ Pat (n : Int) q.1) (nd : (F.map (·.1)).Nodup) : ∃ c : Int, KvOk n c F.length (kvF F) := by
  obtain ⟨c, hc⟩ := bnd_ex F
  refine ⟨c, ?_, by unfold kvF; rw [List.length_map]; exact Nat.le_refl _, fun kv hkv => ?_⟩
  · unfold kvF
    rw [List.map_map, show ((·.1) ∘ fun p : List Int × Int => (p.1.map (Sum.inl : Int → Key), V.int p.2)) = (fun l : List Int => l.map Sum.inl) ∘ (·.1) from rfl, ← List.map_map]
    exact List.pairwise_map.mpr (nd.imp fun h z => h (inl_inj z))
  · obtain ⟨p, hp, rfl⟩ := List.mem_map.mp hkv
    have h1 := (hF p hp).1
    have h2 := hc p hp
    have : 1 ≤ F.length := List.length_pos_iff.mpr (List.ne_nil_of_mem hp)
    refine ⟨p.1, p.2, rfl, (hF p hp).2, h1, Int.le_trans h2 ?_⟩
    have := Int.mul_le_mul_of_nonneg_left (show (1 : Int) ≤ (F.length : Int) by omega) (show 0 ≤ c by omega)
    rw [Int.mul_one] at this
    exact this
def sfx (i : Nat) (p : List Int × Int) : List Int × Int := (p.1 ++ [(i : Int)], p.2)
theorem stA_app (D E : List Part) (i : Nat) (s : Option Int) : stA (D ++ E) i s = stA D i s ++ stA E i s := by
  unfold stA
  rw [List.filter_append, List.map_append]
theorem stA_one (p : List Int) (s' : Option Int) (m : Int) (i : Nat) (s : Option Int) : stA [(p, s', m)] i s = if s' = s then [(p ++ [(i : Int)], m)] else [] := by
  unfold stA
  rw [List.filter_cons, List.filter_nil]
  by_cases z : s' = s
  · rw [if_pos z, if_pos (decide_eq_true z)]
    rfl
  · rw [if_neg z, if_neg (by show ¬ decide (s' = s) = true; rw [decide_eq_false z]; exact Bool.false_ne_true)]
    rfl
theorem ps_pre : ∀ (st : Fm) (s : PS), s.1 <+: (st.foldl pstep s).1
  | [], s => List.prefix_refl _
  | p :: st, s => by
    refine List.IsPrefix.trans ?_ (ps_pre st (pstep s p))
    unfold pstep
    dsimp only
    split
    · exact List.prefix_append _ _
    · exact List.prefix_refl _
theorem ps_len : ∀ (st : Fm) (s : PS), (st.foldl pstep s).2.1.length = s.2.1.length + st.length
  | [], s => rfl
  | p :: st, s => by
    rw [List.foldl_cons, ps_len st, List.length_cons]
    show (s.2.1 ++ [_]).length + _ = _
    rw [List.length_append, List.length_singleton]
    omega
theorem ds_pre : ∀ (ws : List Way) (s : DS), s.1 <+: (ws.foldl dstep s).1
  | [], s => List.prefix_refl _
  | q :: ws, s => (List.prefix_append _ _).trans (ds_pre ws (dstep s q))
theorem take_fold {α β : Type} (g : β → α → β) (b : β) {l : List α} {i : Nat} {x : α} (e : l[i]? = some x) : (l.take (i + 1)).foldl g b = g ((l.take i).foldl g b) x := by
  rw [List.take_add_one, e, List.foldl_append]
  rfl
theorem ds_in {ws : List Way} {s : DS} {j : Nat} {q : Way} (e : ws[j]? = some q) (k : Nat) : ((ws.take j).foldl dstep s).1 ++ (((((ws.take j).foldl dstep s).2.take k).foldl pstep ([], [], q.2)).1.map (wayP q.1)) <+: (ws.foldl dstep s).1 := by
  have h1 : (ws.foldl dstep s) = (ws.drop (j + 1)).foldl dstep (dstep ((ws.take j).foldl dstep s) q) := by
    rw [← take_fold dstep s e, ← List.foldl_append, List.take_append_drop]
  rw [h1]
  refine List.IsPrefix.trans ?_ (ds_pre _ _)
  show _ <+: ((ws.take j).foldl dstep s).1 ++ _
  refine (List.prefix_append_right_inj _).mpr (List.IsPrefix.map _ ?_)
  have h2 := ps_pre (((ws.take j).foldl dstep s).2.drop k) ((((ws.take j).foldl dstep s).2.take k).foldl pstep ([], [], q.2))
  rw [← List.foldl_append, List.take_append_drop] at h2
  exact h2
theorem stA_pre {D' D : List Part} (h : D' <+: D) (i : Nat) (s : Option Int) : stA D' i s <+: stA D i s := by
  obtain ⟨E, rfl⟩ := h
  rw [stA_app]
  exact List.prefix_append _ _
theorem vB_way {b : Bool} {f : Nat → List Int} {n i : Nat} : ∀ q ∈ vB b f n i, q.1 = none ∨ ∃ x : Nat, i < x ∧ x < n ∧ q.1 = some (x : Int) := fun q hq => by
  have key : ∀ q ∈ outW f n i, q.1 = none ∨ ∃ x : Nat, i < x ∧ x < n ∧ q.1 = some (x : Int) := fun q hq => by
    obtain ⟨j, hj, rfl⟩ := List.mem_map.mp hq
    have := List.mem_range.mp hj
    exact .inr ⟨i + 1 + j, by omega, by omega, congrArg some (by omega)⟩
  unfold vB at hq
  split at hq
  · rcases List.mem_append.mp hq with z | z
    · exact key q z
    · rw [List.mem_singleton.mp z]
      exact .inl rfl
  · rcases List.mem_append.mp hq with z | z
    · rw [List.mem_singleton.mp z]
      exact .inl rfl
    · exact key q z
theorem off_tup {l : List Addr} {H H' : Hp} (o : Off l H H') (h : ∀ a ∈ l, ∀ us, H a ≠ some (.tup us)) : Tup' H H' := fun b us e => o b _ (fun z => h b z us e) e
theorem arr_ntup {H : Hp} {A fo : Addr} {R : List Addr} {n : Nat} {arr : Nat → Fm} {kvs : List (List Key × V)} (h : ArrAt H A R n arr) (e : H fo = some (.dT kvs)) : ∀ a ∈ fo :: R, ∀ us, H a ≠ some (.tup us) := fun a ha us z => by
  rcases List.mem_cons.mp ha with rfl | ha
  · rw [e] at z
    cases z
  · obtain ⟨y, hy⟩ := List.getElem?_of_mem ha
    obtain ⟨_, e, _⟩ := h.row y a hy
    rw [e] at z
    cases z
theorem arr_new {H : Hp} {A fo p : Addr} {R : List Addr} {n : Nat} {arr : Nat → Fm} {kvs : List (List Key × V)} (h : ArrAt H A R n arr) (e : H fo = some (.dT kvs)) (np : H p = none) : p ∉ fo :: R := fun ha => by
  rcases List.mem_cons.mp ha with rfl | ha
  · rw [e] at np
    cases np
  · obtain ⟨y, hy⟩ := List.getElem?_of_mem ha
    obtain ⟨_, e, _⟩ := h.row y p hy
    rw [e] at np
    cases np
def wI (n : Nat) (q : Way) : Int × Int := (q.1.getD (n : Int), q.2)
section
variable {P : Program} {w : World} {K : PySem.W.Frag} {mg : Str → Option Value} {base : Heap}
def spBuilt : Sp := fun vs H Q _ => ∃ (g : Addr) (n : Nat) (f : Nat → List Int) (b : Bool), vs = [.ref g, .bl b] ∧ ShAt H g n n f ∧ NN f n n ∧
  ∀ H' a fam, Same H H' → H a = none → FamAt H' a fam → fam.Perm (GG b f n n).2 → fam.Pairwise (fun p q => HT.lexLt p.1 q.1 = true) → Q (.ref a) H'
theorem ok_built {f : Addr} {fd : FuncData} {k : Nat} (F : Fun K "_law_built" "_law_built" s__law_built f fd) {f__law_gap : Addr} {d__law_gap : FuncData} (F__law_gap : Fun K "_law_gap" "_law_gap" s__law_gap f__law_gap d__law_gap) (G__law_gap : FnOk P w K mg base CX0 k f__law_gap d__law_gap ["sheet_here", "one", "two"] spGapB) (b__law_gap : Binds K d__law_gap ["sheet_here", "one", "two"] []) (g__law_gap : mg "_law_gap" = some (.ref f__law_gap)) {f__law_away : Addr} {d__law_away : FuncData} (F__law_away : Fun K "_law_away" "_law_away" s__law_away f__law_away d__law_away) (G__law_away : FnOk P w K mg base CX0 k f__law_away d__law_away ["sheet_here", "one"] spAwF) (b__law_away : Binds K d__law_away ["sheet_here", "one"] []) (g__law_away : mg "_law_away" = some (.ref f__law_away)) {f__law_fresh : Addr} {d__law_fresh : FuncData} (F__law_fresh : Fun K "_law_fresh" "_law_fresh" s__law_fresh f__law_fresh d__law_fresh) (G__law_fresh : FnOk P w K mg base CX0 k f__law_fresh d__law_fresh ["sheet_here", "two"] spFrO) (b__law_fresh : Binds K d__law_fresh ["sheet_here", "two"] []) (g__law_fresh : mg "_law_fresh" = some (.ref f__law_fresh)) (m_len : mg "len" = none) (m_range : mg "range" = none) (m_min : mg "min" = none) (m_sorted : mg "sorted" = none) : FnOk P w K mg base CX0 (k + 1) f fd ["sheet_here", "is_many"] spBuilt := by
  have b_sorted : bootBuiltins "sorted" = some (.builtin "sorted") := by decide +kernel
  refine F.ok sc__law_built (fun vs H Q E h => ?_) (fun cdv A outer s H vs Q E hr h => ?_)
  · obtain ⟨g, _, _, _, rfl, _⟩ := h
    rfl
  · obtain ⟨g, n, f, b, rfl, hS, hN, q⟩ := h
    refine ⟨_, (pss_cons (ps_set (i := 2) sc__law_built.nd rfl (by first | exact Or.inl rfl | exact Or.inr rfl) (pe_callB (Fa.lenQ K) (by rfl) m_len PySem.boot_len (pa_cons (pv 0) pa_nil)))
  (pss_cons (ps_asg (pe_tup (pa_cons (pe_lc (own := [("spot", 5)]) (g := (gName 5)) (tt := tYes) rfl sc__law_built.nd (pi_range1 (by rfl) m_range (pa_cons (pv 2) pa_nil)) (blkOk_by (N := N__law_built) (sc := defScope s__law_built) (by decide +kernel)) (fun _ _ _ _ _ => (pg_name (i := 5) sc__law_built.nd rfl (by first | exact Or.inl rfl | exact Or.inr rfl))) (fun _ _ _ _ _ => pts_nil) (fun _ _ _ _ _ => (pe_lst pa_nil))) (pa_cons pe_dnewT pa_nil))) (pg_tup rfl (pgs_cons (pg_name (i := 3) sc__law_built.nd rfl (by first | exact Or.inl rfl | exact Or.inr rfl)) (pgs_cons (pg_name (i := 4) sc__law_built.nd rfl (by first | exact Or.inl rfl | exact Or.inr rfl)) pgs_nil))))
  (pss_cons (ps_for PassesOwn.never rfl (pi_range1 (by rfl) m_range (pa_cons (pv 2) pa_nil)) (pg_name (i := 5) sc__law_built.nd rfl (by first | exact Or.inl rfl | exact Or.inr rfl)) (pss_cons (ps_setLc (i := 6) (own := [("one", 13), ("part", 14)]) (g := (gTup K 2 (gCons (gName 13) (gCons (gName 14) gNil)))) (tt := tYes) rfl sc__law_built.nd rfl rfl (sw_true rfl rfl rfl (by decide +kernel)) (Fa.listQ K (pe_ix (Fa.ixL K) (pv 3) (pv 5) (fun _ _ => rfl))) (blkOk_by (N := N__law_built) (sc := defScope s__law_built) (by decide +kernel)) (fun _ _ _ _ _ => (Fa.pgTQ K rfl (pgs_cons (pg_name (i := 13) sc__law_built.nd rfl (by first | exact Or.inl rfl | exact Or.inr rfl)) (pgs_cons (pg_name (i := 14) sc__law_built.nd rfl (by first | exact Or.inl rfl | exact Or.inr rfl)) pgs_nil)))) (fun _ _ _ _ _ => pts_nil) (fun _ _ _ _ _ => (pe_tup (pa_cons (pe_op (Fa.catTA K) (pv 13) (pe_tup (pa_cons (pv 5) pa_nil))) (pa_cons (pv 14) pa_nil)))))
  (pss_cons (ps_expr (pe_bm PySem.F.plainAttrs_list PySem.F.slot_list_append PySem.F.type_list_append mt_append (pv 6) (pa_cons (pe_tup (pa_cons (pe_tup (pa_cons (pv 5) pa_nil)) (pa_cons (pe_call G__law_fresh (hr.mono (by omega)) (by rfl) g__law_fresh F__law_fresh.kp b__law_fresh .nil pass0 (pa_cons (pv 0) (pa_cons (pv 5) pa_nil))) pa_nil))) pa_nil)))
  (pss_cons (ps_setLc (i := 7) (own := [("later", 10)]) (g := (gName 10)) (tt := tYes) rfl sc__law_built.nd rfl rfl (sw_true rfl rfl rfl (by decide +kernel)) (pi_range2 (by rfl) m_range (pa_cons (pe_op op_add (pv 5) pe_int) (pa_cons (pv 2) pa_nil))) (blkOk_by (N := N__law_built) (sc := defScope s__law_built) (by decide +kernel)) (fun _ _ _ _ _ => (pg_name (i := 10) sc__law_built.nd rfl (by first | exact Or.inl rfl | exact Or.inr rfl))) (fun _ _ _ _ _ => pts_nil) (fun _ _ _ _ _ => (pe_tup (pa_cons (pv 10) (pa_cons (pe_call G__law_gap (hr.mono (by omega)) (by rfl) g__law_gap F__law_gap.kp b__law_gap .nil pass0 (pa_cons (pv 0) (pa_cons (pv 5) (pa_cons (pv 10) pa_nil)))) pa_nil)))))
  (pss_cons (ps_set (i := 8) sc__law_built.nd rfl (by first | exact Or.inl rfl | exact Or.inr rfl) (pe_lst (pa_cons (pe_tup (pa_cons (pv 2) (pa_cons (pe_call G__law_away (hr.mono (by omega)) (by rfl) g__law_away F__law_away.kp b__law_away .nil pass0 (pa_cons (pv 0) (pa_cons (pv 5) pa_nil))) pa_nil))) pa_nil)))
  (pss_cons (ps_set (i := 9) sc__law_built.nd rfl (by first | exact Or.inl rfl | exact Or.inr rfl) (pe_ifExp (pt_val (pv 1)) (pe_op op_cat (pv 7) (pv 8)) (pe_op op_cat (pv 8) (pv 7))))
  (pss_one (ps_for PassesOwn.never rfl (Fa.listQ K (pv 9)) (pg_tup rfl (pgs_cons (pg_name (i := 10) sc__law_built.nd rfl (by first | exact Or.inl rfl | exact Or.inr rfl)) (pgs_cons (pg_name (i := 11) sc__law_built.nd rfl (by first | exact Or.inl rfl | exact Or.inr rfl)) pgs_nil))) (pss_cons (ps_set (i := 12) sc__law_built.nd rfl (by first | exact Or.inl rfl | exact Or.inr rfl) (pe_lst pa_nil))
  (pss_cons (ps_for PassesOwn.never rfl (Fa.listQ K (pv 6)) (pg_tup rfl (pgs_cons (pg_name (i := 13) sc__law_built.nd rfl (by first | exact Or.inl rfl | exact Or.inr rfl)) (pgs_cons (pg_name (i := 14) sc__law_built.nd rfl (by first | exact Or.inl rfl | exact Or.inr rfl)) pgs_nil))) (pss_cons (ps_set (i := 15) sc__law_built.nd rfl (by first | exact Or.inl rfl | exact Or.inr rfl) (pe_callB (call_min2 rfl) (by rfl) m_min PyProof.Rows.boot_min (pa_cons (pv 14) (pa_cons (pv 11) pa_nil))))
  (pss_cons (ps_set (i := 11) sc__law_built.nd rfl (by first | exact Or.inl rfl | exact Or.inr rfl) (pe_op op_sub (pv 11) (pv 15)))
  (pss_cons (ps_if (PW.pt (pw_and (pt_cmpR op_gt (pv 15) pe_int (nomark _)) (pw_and1 (pt_cmpR op_eq (pv 10) (pv 2) (nomark _))))) (pss_one (ps_dput (hu_of hr) (pv 4) (pv 13) (pe_op op_add (pe_dget2 (hu_of hr) (pv 4) (pv 13) pe_int (by constructor <;> rfl)) (pv 15)) rfl)) (pss_one (ps_if (pt_cmpR op_gt (pv 15) pe_int (nomark _)) (pss_one (ps_expr (pe_bm PySem.F.plainAttrs_list PySem.F.slot_list_append PySem.F.type_list_append mt_append (pe_ix (Fa.ixL K) (pv 3) (pv 10) (fun _ _ => rfl)) (pa_cons (pe_tup (pa_cons (pv 13) (pa_cons (pv 15) pa_nil))) pa_nil)))) pss_nil)))
  (pss_one (ps_expr (pe_bm PySem.F.plainAttrs_list PySem.F.slot_list_append PySem.F.type_list_append mt_append (pv 12) (pa_cons (pe_tup (pa_cons (pv 13) (pa_cons (pe_op op_sub (pv 14) (pv 15)) pa_nil))) pa_nil))))))))
  (pss_one (ps_set (i := 6) sc__law_built.nd rfl (by first | exact Or.inl rfl | exact Or.inr rfl) (pv 12)))))))))))))
  (pss_one (ps_ret (pe_callB (Fa.sortF K hr.units) (by rfl) m_sorted b_sorted (pa_cons (pe_lock (pe_lc (own := [("one", 13)]) (g := gName 13) (tt := tYes) rfl sc__law_built.nd (pi_keys (pv 4)) (blkOk_by (N := N__law_built) (sc := defScope s__law_built) (by decide +kernel)) (fun _ _ _ _ _ => (pg_name (i := 13) sc__law_built.nd rfl (by first | exact Or.inl rfl | exact Or.inr rfl))) (fun _ _ _ _ _ => pts_nil) (fun _ _ _ _ _ => (pe_tup (pa_cons (pv 13) (pa_cons (pe_dget (hu_of hr) (pv 4) (pv 13) (fun _ _ => rfl)) pa_nil)))))) pa_nil))))))), ?_⟩
    obtain ⟨⟨rows, G0⟩, hf⟩ := id hS
    have n1 := hf.n1
    have n30 := hf.n30
    refine ⟨_, rfl, g, _, rfl, .inl (.inl (.inl G0.top)), ?_⟩
    rw [List.length_map, G0.cnt]
    refine ⟨_, rfl, n, rfl, by omega, by omega, fun A nA => ?_⟩
    rw [Int.toNat_natCast]
    refine lc_it (walk_range (lo := 0) (n := n)) (fun i H' => Same H H' ∧ ∃ rs, GridAt H' A rs i (fun _ => []) ∧ ∀ r ∈ rs, H r = none) ?_ ?_ ?_ ?_
    · exact ⟨same_new nA, [], gridAt_nil upd_same, fun r z => (List.not_mem_nil z).elim⟩
    · exact fun _ _ _ _ => trivial
    · rintro i v _ H' hi ⟨s', rs, G', fr'⟩ ⟨rfl, rfl⟩
      refine ⟨rfl, yes_if ⟨Nat.zero_le _, fun e ne => ?_⟩⟩
      obtain ⟨a1, a2, a3, a4⟩ := grow_step (l := []) s' nA G' ne rfl (by omega)
      refine ⟨_, a1, a2, a3, _, a4, fun y hy => ?_⟩
      rcases List.mem_append.mp hy with z | z
      · exact fr' y z
      · rw [List.mem_singleton.mp z]
        exact s'.free ne
    rintro H3 ⟨s3, R, GR, frR⟩
    have AR3 := arr_of_grid GR
    refine fun fo nfo => ⟨by show 2 ≤ sizeLine; decide, fun T nT => ⟨T, _, rfl, .inl (.inl upd_same), rfl, _, _, rfl, _, _, rfl, rfl, ?_⟩⟩
    obtain ⟨foA, foR⟩ := GR.noRow nfo
    have s34 : Same H3 (upd (upd H3 fo (.dT [])) T (.tup [.ref A, .ref fo])) := (same_new nfo).trans (same_new nT)
    have efo : upd (upd H3 fo (.dT [])) T (.tup [.ref A, .ref fo]) fo = some (.dT []) := by
      rw [upd_ne (fun z => by rw [← z, upd_same] at nT; cases nT)]
      exact upd_same
    have nfoH : H fo = none := s3.free nfo
    have s4 := s3.trans s34
    have AR4 := AR3.same s34
    generalize upd (upd H3 fo (.dT [])) T (.tup [.ref A, .ref fo]) = H4 at s4 AR4 efo ⊢
    clear s34 nT nfo AR3 GR s3 nA
    have out : ∀ b u, H b = some u → b ∉ fo :: R := fun b u e z => by
      rcases List.mem_cons.mp z with rfl | z
      · rw [nfoH] at e
        cases e
      · rw [frR b z] at e
        cases e
    have hsame : ∀ {H' : Hp}, Off (fo :: R) H4 H' → Same H H' := fun o b u e => o b u (out b u e) (s4 _ _ e)
    have lk := links_of hN (jok_nil hN) n1
    refine ⟨_, rfl, n, rfl, by omega, by omega, ?_⟩
    rw [Int.toNat_natCast]
    refine for_range (lo := 0) (fun i σ H' => Off (fo :: R) H4 H' ∧ ArrAt H' A R n (GG b f n i).1 ∧ H' fo = some (.dT (kvF (GG b f n i).2)) ∧ ∃ x5 x6 x7 x8 x9 x10 x11 x12 x13 x14 x15, σ = [some (.ref g), some (.bl b), some (.int n), some (.ref A), some (.ref fo), x5, x6, x7, x8, x9, x10, x11, x12, x13, x14, x15]) ?_ ?_ ?_
    · exact ⟨Off.refl _ _, AR4, efo, none, none, none, none, none, none, none, none, none, none, none, rfl⟩
    · rintro i σ H5 hi ⟨o5, AR5, ef5, x5, x6, x7, x8, x9, x10, x11, x12, x13, x14, x15, rfl⟩
      rw [Int.zero_add]
      have R5 := gg_ok b hN n1 (i := i) (by omega)
      have R6 := gg_ok b hN n1 (i := i + 1) (by omega)
      obtain ⟨r, us, er, hr', eus, hU⟩ := AR5.get hi
      have atA : atI (R.map V.ref) (i : Int) = some (.ref r) := atI_nat (by rw [List.getElem?_map, er]; rfl)
      have l0 := R5.len
      have l2 := gAll_len f (w := n) n30 n
      have l1 : ((LL f n).filter fun p : Tri => decide (p.1 < (i : Int))).length ≤ 900 := by
        have := List.length_filter_le (fun p : Tri => decide (p.1 < (i : Int))) (LL f n)
        have e : (LL f n).length = (gAll f n n n).length := congrArg List.length (List.append_nil _)
        omega
      have lA : ((GG b f n i).1 i).length ≤ 960 := by
        have l3 := sa_head (fun x => (((GG b f n i).1 (i + x)).length : Int)) (n - i - 1)
        rw [show n - i - 1 + 1 = n - i by omega] at l3
        have l4 : 0 ≤ sa (fun x => (((GG b f n i).1 (i + (x + 1))).length : Int)) (n - i - 1) := sa_nonneg fun _ _ => by omega
        have l5 : (((GG b f n i).1 (i + 0)).length : Int) = (((GG b f n i).1 i).length : Int) := rfl
        omega
      have lu := paired_len hU
      have l6 : (GG b f n (i + 1)).2.length ≤ 960 ∧ ∀ x, i < x → x < n → ((GG b f n (i + 1)).1 x).length ≤ 960 := by
        have k0 := R6.len
        have k1 : ((LL f n).filter fun p : Tri => decide (p.1 < ((i + 1 : Nat) : Int))).length ≤ 900 := by
          have := List.length_filter_le (fun p : Tri => decide (p.1 < ((i + 1 : Nat) : Int))) (LL f n)
          have e : (LL f n).length = (gAll f n n n).length := congrArg List.length (List.append_nil _)
          omega
        have k2 : 0 ≤ sa (fun x => (((GG b f n (i + 1)).1 (i + 1 + x)).length : Int)) (n - (i + 1)) := sa_nonneg fun _ _ => by omega
        refine ⟨by omega, fun x ix xn => ?_⟩
        have k3 := sa_term (g := fun x => (((GG b f n (i + 1)).1 (i + 1 + x)).length : Int)) (m := n - (i + 1)) (x := x - (i + 1)) (fun _ _ => by omega) (by omega)
        rw [show i + 1 + (x - (i + 1)) = x by omega] at k3
        omega
      obtain ⟨l6, l6x⟩ := l6
      refine ⟨_, rfl, _, rfl, A, _, _, _, rfl, rfl, .inl (.inl AR5.top), atA, r, rfl, ⟨us, .inl (.inl eus)⟩, fun pl npl => ?_⟩
      refine lc_it (walk_list (xs := us)) (fun j H' => Same H5 H' ∧ ∃ vs, H' pl = some (.lst vs) ∧ Paired (FmAt H') vs (((GG b f n i).1 i).take j |>.map (sfx i))) ?_ ?_ ?_ ?_
      · exact ⟨same_new npl, [], upd_same, .nil⟩
      · rintro j H' _ ⟨s', _⟩
        exact .inl (.inl (s' _ _ eus))
      · rintro j u _ H' hj ⟨s', vs, epl, hV⟩ ⟨rfl, eu⟩
        obtain ⟨p, ep, t, bb, rfl, ht, hb⟩ := paired_at hU eu
        have lv := paired_len hV
        rw [List.length_map, List.length_take] at lv
        refine ⟨t, _, rfl, .inl (.inl (s' _ _ ht)), rfl, _, _, rfl, _, _, rfl, rfl, rfl, yes_if ⟨_, rfl, _, rfl, by show 1 ≤ sizeLine; decide, fun T nT => ?_⟩⟩
        have sT := same_new (o := .tup [.int (i : Int)]) nT
        have lp : p.1.length ≤ 30 := by
          have := (R5.A i p (List.mem_of_getElem? ep)).2.len
          omega
        refine catA_new (sT _ _ (s' _ _ hb)) upd_same (List.cons_ne_nil _ _) (by rw [List.length_map]; show p.1.length + 1 ≤ sizeLine; exact small1000 (by omega)) fun H'' t2 s'' e'' => ⟨_, rfl, by show 2 ≤ sizeLine; decide, fun T2 nT2 => ?_⟩
        have s3 := (sT.trans s'').trans (same_new (o := .tup [.ref t2, .int p.2]) nT2)
        have e3 := s3 _ _ epl
        have kt : Tup' H' (upd (upd H'' T2 (.tup [.ref t2, .int p.2])) pl (.lst (vs ++ [.ref T2]))) := (tup_same s3).trans (tup_lst e3)
        refine ⟨vs, e3, small1000 (by omega), fun c o z => ?_, vs ++ [.ref T2], upd_same, ?_⟩
        · rw [upd_ne (ne_of_none z npl)]
          exact s3 _ _ (s' _ _ z)
        · rw [List.take_add_one, ep, List.map_append]
          refine paired_snoc (fms_keep hV kt) ⟨T2, t2, rfl, tup_lst e3 _ _ upd_same, tup_lst e3 _ _ ?_⟩
          rw [upd_ne (ne_of_none e'' nT2), e'']
          show _ = some (HO.tup ((p.1 ++ [(i : Int)]).map V.int))
          rw [List.map_append]
          rfl
      rintro H6 ⟨s6, vs, epl, hV⟩
      rw [List.take_of_length_le (by omega)] at hV
      have lv := paired_len hV
      rw [List.length_map] at lv
      refine ⟨_, rfl, .inl ⟨rfl, _, .inl (.inl epl)⟩, _, rfl, by show 1 ≤ sizeLine; decide, fun T1 nT1 => ?_⟩
      have sT1 := same_new (o := .tup [.int (i : Int)]) nT1
      have S6 : Same H H6 := (hsame o5).trans s6
      refine ⟨_, rfl, _, rfl, g, n, n, f, (i : Int), rfl, hS.same (S6.trans sT1), by omega, by omega, by show 2 ≤ sizeLine; decide, fun T2 nT2 => ?_⟩
      have s67 := sT1.trans (same_new (o := .tup [.ref T1, .int (fr f n i)]) nT2)
      have e7 := s67 _ _ epl
      refine ⟨pl, vs, _, rfl, rfl, e7, small1000 (by omega), ?_⟩
      have hV8 : Paired (FmAt (upd (upd (upd H6 T1 (.tup [.int (i : Int)])) T2 (.tup [.ref T1, .int (fr f n i)])) pl (.lst (vs ++ [.ref T2])))) (vs ++ [.ref T2]) (((GG b f n i).1 i ++ [(([] : List Int), fr f n i)]).map (sfx i)) := by
        have kt := (tup_same s67).trans (tup_lst (ys := vs ++ [.ref T2]) e7)
        rw [List.map_append]
        refine paired_snoc (fms_keep hV kt) ⟨T2, T1, rfl, tup_lst e7 _ _ upd_same, tup_lst e7 _ _ ?_⟩
        rw [upd_ne (fun z => by rw [← z, upd_same] at nT2; cases nT2)]
        exact upd_same
      have epl8 : upd (upd (upd H6 T1 (.tup [.int (i : Int)])) T2 (.tup [.ref T1, .int (fr f n i)])) pl (.lst (vs ++ [.ref T2])) pl = some (.lst (vs ++ [.ref T2])) := upd_same
      have s58 : Same H5 (upd (upd (upd H6 T1 (.tup [.int (i : Int)])) T2 (.tup [.ref T1, .int (fr f n i)])) pl (.lst (vs ++ [.ref T2]))) := fun c o z => by
        rw [upd_ne (ne_of_none z npl)]
        exact s67 _ _ (s6 _ _ z)
      generalize upd (upd (upd H6 T1 (.tup [.int (i : Int)])) T2 (.tup [.ref T1, .int (fr f n i)])) pl (.lst (vs ++ [.ref T2])) = H8 at hV8 epl8 s58 ⊢
      generalize vs ++ [.ref T2] = vs8 at hV8 epl8
      clear e7 s67 nT2 sT1 nT1 hV epl s6 lv S6
      have S8 : Same H H8 := (hsame o5).trans s58
      have hS8 := hS.same S8
      refine ⟨_, rfl, _, _, rfl, rfl, _, rfl, _, _, rfl, ⟨by omega, by omega, by omega, by omega⟩, fun D nD => ?_⟩
      rw [show ((n : Int) - ((i : Int) + 1)).toNat = n - (i + 1) by omega]
      have oat : ∀ j, j < n - (i + 1) → (outW f n i)[j]? = some (some ((i : Int) + 1 + (j : Int)), gp f i ((i : Int) + 1 + (j : Int))) := fun j hj => by
        unfold outW
        rw [List.getElem?_map, List.getElem?_range hj]
        rfl
      have ol : (outW f n i).length = n - (i + 1) := by
        unfold outW
        rw [List.length_map, List.length_range]
      refine lc_it (walk_range (lo := (i : Int) + 1) (n := n - (i + 1))) (fun j H' => Same H8 H' ∧ PrAt H' D (((outW f n i).take j).map (wI n))) ?_ ?_ ?_ ?_
      · exact ⟨same_new nD, [], upd_same, .nil⟩
      · exact fun _ _ _ _ => trivial
      · rintro j v _ H' hj ⟨s', ts, eD, hP⟩ ⟨rfl, rfl⟩
        have lt := paired_len hP
        rw [List.length_map, List.length_take] at lt
        refine ⟨rfl, yes_if ⟨_, rfl, _, rfl, _, rfl, _, rfl, g, n, n, f, (i : Int), (i : Int) + 1 + (j : Int), rfl, hS8.same s', by omega, by omega, by omega, by omega, by show 2 ≤ sizeLine; decide, fun T nT => ?_⟩⟩
        have sT := same_new (o := .tup [.int ((i : Int) + 1 + (j : Int)), .int (gp f i ((i : Int) + 1 + (j : Int)))]) nT
        have eD2 := sT _ _ eD
        refine ⟨_, eD2, ?_, fun c o z => ?_, ts ++ [T], ?_, ?_⟩
        · rw [List.length_map]
          exact small1000 (by omega)
        · rw [upd_ne (ne_of_none z nD)]
          exact sT _ _ (s' _ _ z)
        · rw [upd_same, List.map_append]
          rfl
        · rw [List.take_add_one, oat j hj, List.map_append]
          refine paired_snoc (L2.Paired.mapP hP fun t q z => tup_lst eD2 _ _ (sT _ _ z)) (tup_lst eD2 _ _ upd_same)
      rintro H9 ⟨s9, hP9⟩
      rw [List.take_of_length_le (by omega)] at hP9
      refine ⟨_, rfl, _, rfl, _, rfl, g, n, n, f, (i : Int), rfl, hS8.same s9, by omega, by omega, by show 2 ≤ sizeLine; decide, fun T nT => ⟨by show 1 ≤ sizeLine; decide, fun D2 nD2 => ?_⟩⟩
      have s910 := (same_new (o := .tup [.int n, .int (aw f n n i)]) nT).trans (same_new (o := .lst [.ref T]) nD2)
      have hP10 : PrAt (upd (upd H9 T (.tup [.int n, .int (aw f n n i)])) D2 (.lst [.ref T])) D2 ([((none : Option Int), aw f n n i)].map (wI n)) := ⟨[T], upd_same, .cons (same_new nD2 _ _ upd_same) .nil⟩
      have hO10 := hP9.same s910
      have s810 := s9.trans s910
      generalize upd (upd H9 T (.tup [.int n, .int (aw f n n i)])) D2 (.lst [.ref T]) = H10 at hP10 hO10 s810 ⊢
      clear hP9 s9 s910 nT nD nD2
      dsimp only
      refine nm_cut (fun σ' H' => Same H10 H' ∧ ∃ l y7 y8, H10 l = none ∧ PrAt H' l ((vB b f n i).map (wI n)) ∧ σ' = [some (.ref g), some (.bl b), some (.int n), some (.ref A), some (.ref fo), some (.int i), some (.ref pl), y7, y8, some (.ref l), x10, x11, x12, x13, x14, x15]) ?rs ?us
      case us =>
        intro N hN'
        refine ⟨_, rfl, b, rfl, ?_⟩
        obtain ⟨ts, eD, hp⟩ := hO10
        obtain ⟨us', eD2, hp2⟩ := hP10
        have lt := paired_len hp
        have lt2 := paired_len hp2
        rw [List.length_map] at lt lt2
        have lt2 : us'.length = 1 := lt2
        cases b with
        | true =>
          refine iteT ⟨_, rfl, _, rfl, D, D2, _, _, rfl, rfl, eD, eD2, ?_, fun l nl => ?_⟩
          · rw [List.length_map, List.length_map]
            exact Nat.le_of_lt (small1000 (by omega))
          · refine hN' _ _ ⟨same_new nl, l, _, _, nl, ⟨ts ++ us', ?_, ?_⟩, rfl⟩
            · rw [upd_same, List.map_append]
            · rw [vB, if_pos rfl, List.map_append]
              exact L2.Paired.mapP (paired_append hp hp2) fun _ _ z => same_new nl _ _ z
        | false =>
          refine iteF ⟨_, rfl, _, rfl, D2, D, _, _, rfl, rfl, eD2, eD, ?_, fun l nl => ?_⟩
          · rw [List.length_map, List.length_map]
            exact Nat.le_of_lt (small1000 (by omega))
          · refine hN' _ _ ⟨same_new nl, l, _, _, nl, ⟨us' ++ ts, ?_, ?_⟩, rfl⟩
            · rw [upd_same, List.map_append]
            · rw [vB, if_neg Bool.false_ne_true, List.map_append]
              exact L2.Paired.mapP (paired_append hp2 hp) fun _ _ z => same_new nl _ _ z
      rintro σ H11 ⟨s11, l, y7, y8, nl, hL, rfl⟩
      have AR10 := AR5.same (s58.trans s810)
      have ef10 := (s58.trans s810) _ _ ef5
      have lo : l ∉ fo :: R := fun z => by
        rcases List.mem_cons.mp z with rfl | z
        · rw [ef10] at nl
          cases nl
        · obtain ⟨y, hy⟩ := List.getElem?_of_mem z
          obtain ⟨_, e, _⟩ := AR10.row y l hy
          rw [e] at nl
          cases nl
      have plo : pl ∉ fo :: R := fun z => by
        rcases List.mem_cons.mp z with rfl | z
        · rw [ef5] at npl
          cases npl
        · obtain ⟨y, hy⟩ := List.getElem?_of_mem z
          obtain ⟨_, e, _⟩ := AR5.row y pl hy
          rw [e] at npl
          cases npl
      have s511 := (s58.trans s810).trans s11
      have o11 : Off (fo :: R) H4 H11 := fun c o z e => s511 _ _ (o5 c o z e)
      have AR11 := AR5.same s511
      have ef11 := s511 _ _ ef5
      have epl11 := (s810.trans s11) _ _ epl8
      have hV11 := fms_keep hV8 (tup_same (s810.trans s11))
      clear AR10 ef10 nl s810 hV8 epl8 hO10 hP10 S8 hS8 npl s58 s11 s511
      obtain ⟨ts, el, hp⟩ := id hL
      have lt := paired_len hp
      rw [List.length_map] at lt
      have hvn := vB_nn (b := b) hN (i := i) hi
      have st0n : ∀ p ∈ ((GG b f n i).1 i ++ [(([] : List Int), fr f n i)]), 0 ≤ p.2 := fun p hp => by
        rcases List.mem_append.mp hp with z | z
        · have := (R5.A i p z).1
          omega
        · rw [List.mem_singleton.mp z]
          exact hN.f0 i (by omega) (by omega)
      have eday : dayD (r0 f) (LL f n) oB (vR b f n) i ((GG b f n i).1 i) = ((vB b f n i).foldl dstep ([], (GG b f n i).1 i ++ [(([] : List Int), fr f n i)])).1 := day_is hN hi fun p hp => by
        have := (R5.A i p hp).1
        omega
      obtain ⟨st0, est⟩ : ∃ st0 : Fm, (GG b f n i).1 i ++ [(([] : List Int), fr f n i)] = st0 := ⟨_, rfl⟩
      rw [est] at st0n eday hV11
      have lst0 : st0.length ≤ 961 := by
        rw [← est, List.length_append, List.length_singleton]
        omega
      have e6a : (GG b f n (i + 1)).1 = fun x => (GG b f n i).1 x ++ stA ((vB b f n i).foldl dstep ([], st0)).1 i (some (x : Int)) := by
        rw [← eday]
        rfl
      have e6b : (GG b f n (i + 1)).2 = (GG b f n i).2 ++ stA ((vB b f n i).foldl dstep ([], st0)).1 i none := by
        rw [← eday]
        rfl
      refine ⟨_, rfl, l, rfl, ⟨_, .inl (.inl el)⟩, ?_⟩
      refine for_it (walk_list (xs := ts.map V.ref)) (fun j σ H' => Off (fo :: R) H11 H' ∧ ArrAt H' A R n (fun x => (GG b f n i).1 x ++ stA (((vB b f n i).take j).foldl dstep ([], st0)).1 i (some (x : Int))) ∧ H' fo = some (.dT (kvF ((GG b f n i).2 ++ stA (((vB b f n i).take j).foldl dstep ([], st0)).1 i none))) ∧ ∃ p' vs, p' ∉ fo :: R ∧ H' p' = some (.lst vs) ∧ Paired (FmAt H') vs ((((vB b f n i).take j).foldl dstep ([], st0)).2.map (sfx i)) ∧ ∃ x10 x11 x12 x13 x14 x15, σ = [some (.ref g), some (.bl b), some (.int n), some (.ref A), some (.ref fo), some (.int i), some (.ref p'), y7, y8, some (.ref l), x10, x11, x12, x13, x14, x15]) ?_ ?_ ?_ ?_
      · refine ⟨Off.refl _ _, AR11.ext fun x _ => ?_, ?_, pl, vs8, plo, epl11, hV11, _, _, _, _, _, _, rfl⟩
        · show _ = _ ++ []
          rw [List.append_nil]
        · rw [ef11]
          show _ = some (HO.dT (kvF ((GG b f n i).2 ++ [])))
          rw [List.append_nil]
      · rintro j σ H' _ ⟨o', _⟩
        exact .inl (.inl (o' _ _ lo el))
      · rintro j v σ _ H12 hj ⟨o12, AR12, ef12, p', vs, po, ep', hV, x10, x11, x12, x13, x14, x15, rfl⟩ ⟨rfl, ev⟩
        rw [List.length_map] at hj
        obtain ⟨t, et, rfl⟩ : ∃ t, ts[j]? = some t ∧ v = .ref t := by
          rw [List.getElem?_map] at ev
          cases e : ts[j]? with
          | none =>
            rw [e] at ev
            cases ev
          | some t =>
            rw [e] at ev
            exact ⟨t, rfl, (Option.some.inj ev).symm⟩
        obtain ⟨qq, eq, ht⟩ := paired_at hp et
        rw [List.getElem?_map] at eq
        obtain ⟨qw, eqw, rfl⟩ : ∃ qw, (vB b f n i)[j]? = some qw ∧ qq = wI n qw := by
          cases e : (vB b f n i)[j]? with
          | none =>
            rw [e] at eq
            cases eq
          | some t =>
            rw [e] at eq
            exact ⟨t, rfl, (Option.some.inj eq).symm⟩
        have ht12 := off_tup o12 (arr_ntup AR11 ef11) _ _ ht
        refine ⟨t, _, rfl, .inl (.inl ht12), rfl, _, _, rfl, _, _, rfl, rfl, ?_⟩
        refine ⟨Nat.zero_le _, fun rs0 nrs => ?_⟩
        have ns := same_new (o := .lst []) nrs
        have rso := arr_new AR12 ef12 nrs
        have rsp : p' ≠ rs0 := ne_of_none ep' nrs
        have rsA : A ≠ rs0 := ne_of_none AR12.top nrs
        have AR13 := AR12.same ns
        have ef13 := ns _ _ ef12
        have ep13 := ns _ _ ep'
        have hV13 := fms_keep hV (tup_same ns)
        have ers : upd H12 rs0 (.lst []) rs0 = some (.lst []) := upd_same
        show tSeq _ _ _ _ (upd H12 rs0 (.lst []))
        generalize upd H12 rs0 (.lst []) = H13 at ns AR13 ef13 ep13 hV13 ers ⊢
        have hpre := fun k => ds_in (s := (([], st0) : DS)) eqw k
        obtain ⟨_, sjn, sjl⟩ := day_eq ((vB b f n i).take j) ([], st0) st0n fun q hq => hvn q (List.mem_of_mem_take hq)
        have etk := take_fold dstep (([], st0) : DS) eqw
        obtain ⟨sj, esj⟩ : ∃ sj : DS, ((vB b f n i).take j).foldl dstep ([], st0) = sj := ⟨_, rfl⟩
        rw [esj] at AR13 ef13 hV13 hpre etk sjn sjl
        rw [etk]
        obtain ⟨D0, st⟩ := sj
        obtain ⟨s', room⟩ := qw
        have hway := vB_way _ (List.mem_of_getElem? eqw)
        have lst1 : st.length ≤ 961 := by
          have : st.length = st0.length := sjl
          omega
        have nt13 : ∀ a ∈ rs0 :: fo :: R, ∀ us, H13 a ≠ some (.tup us) := fun a ha us z => by
          rcases List.mem_cons.mp ha with rfl | ha
          · rw [ers] at z
            cases z
          · exact arr_ntup AR13 ef13 a ha us z
        have lvs := paired_len hV13
        rw [List.length_map] at lvs
        have po' : p' ∉ rs0 :: fo :: R := fun z => by
          rcases List.mem_cons.mp z with z | z
          · exact rsp z
          · exact po z
        refine ⟨_, rfl, p', rfl, ⟨_, .inl (.inl ep13)⟩, ?_⟩
        refine for_it (walk_list (xs := vs)) (fun k σ H' => Off (rs0 :: fo :: R) H13 H' ∧ ArrAt H' A R n (fun x => (GG b f n i).1 x ++ stA (D0 ++ (((st.take k).foldl pstep ([], [], room)).1.map (wayP s'))) i (some (x : Int))) ∧ H' fo = some (.dT (kvF ((GG b f n i).2 ++ stA (D0 ++ (((st.take k).foldl pstep ([], [], room)).1.map (wayP s'))) i none))) ∧ (∃ us, H' rs0 = some (.lst us) ∧ Paired (FmAt H') us (((st.take k).foldl pstep ([], [], room)).2.1.map (sfx i))) ∧ ∃ z13 z14 z15, σ = [some (.ref g), some (.bl b), some (.int n), some (.ref A), some (.ref fo), some (.int i), some (.ref p'), y7, y8, some (.ref l), some (.int (s'.getD (n : Int))), some (.int ((st.take k).foldl pstep ([], [], room)).2.2), some (.ref rs0), z13, z14, z15]) ?_ ?_ ?_ ?_
        · refine ⟨Off.refl _ _, AR13.ext fun x _ => ?_, ?_, ⟨[], ers, .nil⟩, _, _, _, rfl⟩
          · show _ = _ ++ stA (D0 ++ []) i _
            rw [List.append_nil]
          · rw [ef13]
            show _ = some (HO.dT (kvF ((GG b f n i).2 ++ stA (D0 ++ []) i none)))
            rw [List.append_nil]
        · rintro k σ H' _ ⟨o', _⟩
          exact .inl (.inl (o' _ _ po' ep13))
        · rintro k v σ _ H14 hk ⟨o14, AR14, ef14, ⟨us1, ers14, hR14⟩, z13, z14, z15, rfl⟩ ⟨rfl, ev⟩
          obtain ⟨pp, epp, tt, bb, rfl, ht, hb⟩ := paired_at hV13 ev
          rw [List.getElem?_map] at epp
          obtain ⟨p0, ep0, rfl⟩ : ∃ p0, st[k]? = some p0 ∧ pp = sfx i p0 := by
            cases e : st[k]? with
            | none =>
              rw [e] at epp
              cases epp
            | some t =>
              rw [e] at epp
              exact ⟨t, rfl, (Option.some.inj epp).symm⟩
          have kt13 := off_tup o14 nt13
          have ht14 := kt13 _ _ ht
          have hb14 := kt13 _ _ hb
          have hpk := hpre (k + 1)
          have ecu := take_fold pstep (([], [], room) : PS) ep0
          have lcu : ((st.take k).foldl pstep ([], [], room)).2.1.length ≤ 961 := by
            rw [ps_len, List.length_take]
            show 0 + _ ≤ 961
            omega
          have hpk : (D0 ++ (((st.take (k + 1)).foldl pstep ([], [], room)).1.map (wayP s'))) <+: ((vB b f n i).foldl dstep ([], st0)).1 := hpk
          rw [ecu] at hpk
          rw [ecu]
          obtain ⟨cu, ecu'⟩ : ∃ cu : PS, (st.take k).foldl pstep ([], [], room) = cu := ⟨_, rfl⟩
          rw [ecu'] at AR14 ef14 hR14 hpk lcu ⊢
          refine ⟨tt, _, rfl, .inl (.inl ht14), rfl, _, _, rfl, _, _, rfl, rfl, ?_⟩
          refine ⟨_, rfl, _, rfl, p0.2, cu.2.2, rfl, _, rfl, _, rfl, _, _, rfl, rfl, ?_⟩
          dsimp only
          obtain ⟨M, eM⟩ : ∃ M : Int, (if cu.2.2 < p0.2 then cu.2.2 else p0.2) = M := ⟨_, rfl⟩
          have eP : pstep cu p0 = (if M > 0 then cu.1 ++ [(p0.1, M)] else cu.1, cu.2.1 ++ [(p0.1, p0.2 - M)], cu.2.2 - M) := by
            unfold pstep
            rw [show mn2 p0.2 cu.2.2 = M from eM]
          rw [eM]
          rw [eP] at hpk ⊢
          have hpk : (D0 ++ (if M > 0 then cu.1 ++ [(p0.1, M)] else cu.1).map (wayP s')) <+: ((vB b f n i).foldl dstep ([], st0)).1 := hpk
          refine nm_cut (fun σ' H' => Off (rs0 :: fo :: R) H13 H' ∧ ArrAt H' A R n (fun x => (GG b f n i).1 x ++ stA (D0 ++ (if M > 0 then cu.1 ++ [(p0.1, M)] else cu.1).map (wayP s')) i (some (x : Int))) ∧ H' fo = some (.dT (kvF ((GG b f n i).2 ++ stA (D0 ++ (if M > 0 then cu.1 ++ [(p0.1, M)] else cu.1).map (wayP s')) i none))) ∧ (∃ us, H' rs0 = some (.lst us) ∧ Paired (FmAt H') us (cu.2.1.map (sfx i))) ∧ σ' = [some (.ref g), some (.bl b), some (.int n), some (.ref A), some (.ref fo), some (.int i), some (.ref p'), y7, y8, some (.ref l), some (.int (s'.getD (n : Int))), some (.int (cu.2.2 - M)), some (.ref rs0), some (.ref bb), some (.int p0.2), some (.int M)]) ?rt ?ut
          case ut =>
            intro N hN'
            by_cases M0 : M > 0
            · rw [if_pos M0] at hpk hN'
              have eD : (D0 ++ (cu.1 ++ [(p0.1, M)]).map (wayP s')) = (D0 ++ cu.1.map (wayP s')) ++ [(p0.1, s', M)] := by
                rw [List.map_append, ← List.append_assoc]
                rfl
              rw [eD] at hpk hN'
              refine ⟨_, rfl, _, _, rfl, rfl, _, rfl, iteDS M0 ⟨_, rfl, _, rfl, rfl, _, rfl, ?_⟩⟩
              rcases hway with e | ⟨x, ix, xn, e⟩
              · have e : s' = none := e
                subst e
                refine iteEq rfl ?_
                have hq := stA_pre hpk i none
                rw [stA_app, stA_one, if_pos rfl] at hq
                have hq2 : ((GG b f n i).2 ++ stA (D0 ++ cu.1.map (wayP none)) i none) ++ [(p0.1 ++ [(i : Int)], M)] <+: (GG b f n (i + 1)).2 := by
                  rw [e6b, List.append_assoc]
                  exact (List.prefix_append_right_inj _).mpr hq
                have nd := (hq2.sublist.map (·.1)).nodup R6.Df
                have ln := hq2.length_le
                rw [List.length_append, List.length_singleton] at ln
                have et' : H14 bb = some (.tup (((p0.1 ++ [(i : Int)]).map Sum.inl).map kV)) := by
                  rw [hb14, List.map_map]
                  rfl
                have eg : (valV (kvF ((GG b f n i).2 ++ stA (D0 ++ cu.1.map (wayP none)) i none)) ((p0.1 ++ [(i : Int)]).map Sum.inl)).getD (.int 0) = .int 0 := by
                  rw [kvF_get (p := (p0.1 ++ [(i : Int)], M)) nd]
                  rfl
                refine ⟨_, rfl, fo, rfl, .inr ⟨_, .inl ef14⟩, _, rfl, _, DGet.t ef14 et', _, rfl, 0, M, eg, rfl, _, rfl, _, rfl, fo, _, rfl, DPut.t ef14 et' (small1000 (by unfold kvF; rw [List.length_map]; omega)), ?_⟩
                have kt : Tup' H14 (upd H14 fo (.dT (putK (kvF ((GG b f n i).2 ++ stA (D0 ++ cu.1.map (wayP none)) i none)) ((p0.1 ++ [(i : Int)]).map Sum.inl) ((fun i j => V.int (i + j)) 0 M)))) := fun c us e => by
                  rw [upd_ne (ne_of e ef14 (fun z => by cases z))]
                  exact e
                refine hN' _ _ ⟨off_lst o14 (List.mem_cons_of_mem _ List.mem_cons_self), (AR14.keep (fun c us _ e => by rw [upd_ne (ne_of e ef14 (fun z => by cases z))]; exact e) kt).ext fun x _ => ?_, ?_, ⟨us1, ?_, fms_keep hR14 kt⟩, rfl⟩
                · rw [stA_app _ [(p0.1, none, M)], stA_one, if_neg (fun z => by cases z), List.append_nil]
                · rw [upd_same]
                  show some (HO.dT (putK _ _ (V.int (0 + M)))) = _
                  rw [Int.zero_add, kvF_put (p := (p0.1 ++ [(i : Int)], M)) nd, stA_app _ [(p0.1, none, M)], stA_one, if_pos rfl, List.append_assoc]
                · rw [upd_ne (ne_of ers14 ef14 (fun z => by cases z))]
                  exact ers14
              · have e : s' = some (x : Int) := e
                subst e
                refine iteDF (fun z => by have := V.int.inj z; have : (x : Int) = n := this; omega) ?_
                obtain ⟨r2, us2, er2, hr2, eus2, hU2⟩ := AR14.get xn
                have hq := stA_pre hpk i (some (x : Int))
                rw [stA_app, stA_one, if_pos rfl] at hq
                have ln : us2.length + 1 ≤ 960 := by
                  have h1 := ((List.prefix_append_right_inj ((GG b f n i).1 x)).mpr hq).length_le
                  have h2 := l6x x ix xn
                  rw [e6a] at h2
                  have h2 : ((GG b f n i).1 x ++ stA ((vB b f n i).foldl dstep ([], st0)).1 i (some (x : Int))).length ≤ 960 := h2
                  have h3 := paired_len hU2
                  rw [List.length_append] at h3
                  rw [List.length_append, List.length_append, List.length_singleton] at h1
                  omega
                refine ⟨_, rfl, _, _, rfl, rfl, _, rfl, iteDS M0 ⟨_, rfl, _, rfl, A, _, (x : Int), .ref r2, rfl, rfl, .inl (.inl AR14.top), atI_nat (by rw [List.getElem?_map, er2]; rfl), .inl ⟨rfl, _, .inl (.inl eus2)⟩, _, rfl, _, rfl, by show 2 ≤ sizeLine; decide, fun T2 nT2 => ?_⟩⟩
                have sT := same_new (o := .tup [.ref bb, .int M]) nT2
                refine ⟨r2, us2, _, rfl, rfl, sT _ _ eus2, small1000 (by omega), ?_⟩
                have eT2 : upd H14 T2 (.tup [.ref bb, .int M]) T2 = some (.tup [.ref bb, .int M]) := upd_same
                have AR2 := (AR14.same sT).push (p := (p0.1 ++ [(i : Int)], M)) er2 (sT _ _ eus2) eT2 (sT _ _ hb14)
                have eus3 := sT _ _ eus2
                have kt : Tup' H14 (upd (upd H14 T2 (.tup [.ref bb, .int M])) r2 (.lst (us2 ++ [.ref T2]))) := (tup_same sT).trans (tup_lst eus3)
                have rr : rs0 ≠ r2 := fun z => rso (List.mem_cons_of_mem _ (z ▸ hr2))
                refine hN' _ _ ⟨off_lst (off_new' o14 nT2) (List.mem_cons_of_mem _ (List.mem_cons_of_mem _ hr2)), AR2.ext fun y _ => ?_, ?_, ⟨us1, ?_, fms_keep hR14 kt⟩, rfl⟩
                · rw [stA_app _ [(p0.1, some (x : Int), M)], stA_one, ← List.append_assoc]
                  congr 1
                  by_cases z : y = x
                  · rw [if_pos z, if_pos (by rw [z])]
                  · rw [if_neg z, if_neg (fun u => z (by have := Option.some.inj u; omega))]
                · rw [upd_ne (fun z => by
                    have := sT _ _ ef14
                    rw [z, eus3] at this
                    cases this), stA_app _ [(p0.1, some (x : Int), M)], stA_one, if_neg (fun z => by cases z), List.append_nil]
                  exact sT _ _ ef14
                · rw [upd_ne rr]
                  exact sT _ _ ers14
            · rw [if_neg M0] at hN'
              refine ⟨_, rfl, _, _, rfl, rfl, _, rfl, iteDF M0 (iteF ⟨_, rfl, _, _, rfl, rfl, _, rfl, iteDF M0 (hN' _ _ ⟨o14, AR14, ef14, ⟨us1, ers14, hR14⟩, rfl⟩)⟩)⟩
          rintro σ H15 ⟨o15, AR15, ef15, ⟨us2, ers15, hR15⟩, rfl⟩
          have lus := paired_len hR15
          rw [List.length_map] at lus
          refine ⟨_, rfl, .inl ⟨rfl, _, .inl (.inl ers15)⟩, _, rfl, _, rfl, _, rfl, _, _, rfl, rfl, by show 2 ≤ sizeLine; decide, fun T3 nT3 => ?_⟩
          have sT := same_new (o := .tup [.ref bb, .int (p0.2 - M)]) nT3
          have ers16 := sT _ _ ers15
          have hb16 := off_tup o15 nt13 _ _ hb
          refine ⟨rs0, us2, _, rfl, rfl, ers16, small1000 (by omega), ?_⟩
          have kt : Tup' H15 (upd (upd H15 T3 (.tup [.ref bb, .int (p0.2 - M)])) rs0 (.lst (us2 ++ [.ref T3]))) := (tup_same sT).trans (tup_lst ers16)
          refine ⟨off_lst (off_new' o15 nT3) List.mem_cons_self, AR15.keep (fun c us hc e => ?_) kt, ?_, ⟨us2 ++ [.ref T3], upd_same, ?_⟩, _, _, _, rfl⟩
          · rw [upd_ne (fun z => by
              rcases hc with y | y
              · exact rsA (y.symm.trans z)
              · exact rso (List.mem_cons_of_mem _ (z ▸ y)))]
            exact sT _ _ e
          · rw [upd_ne (fun z => rso (by rw [← z]; exact List.mem_cons_self))]
            exact sT _ _ ef15
          · rw [List.map_append]
            exact paired_snoc (fms_keep hR15 kt) ⟨T3, bb, rfl, tup_lst ers16 _ _ upd_same, kt _ _ hb16⟩
        rintro σ H14 ⟨o14, AR14, ef14, ⟨us1, ers14, hR14⟩, z13, z14, z15, rfl⟩
        rw [lvs, List.take_of_length_le (Nat.le_refl _)] at AR14 ef14 hR14
        have o1214 : Off (fo :: R) H12 H14 := fun c o nc e => o14 _ _ (fun z => by
          rcases List.mem_cons.mp z with z | z
          · rw [z, nrs] at e
            cases e
          · exact nc z) (ns _ _ e)
        exact ⟨_, rfl, o12.trans o1214, AR14, ef14, rs0, us1, rso, ers14, hR14, _, _, _, _, _, _, rfl⟩
      rintro σ H12 ⟨o12, AR12, ef12, p', vs, po, ep', hV, x10, x11, x12, x13, x14, x15, rfl⟩
      rw [List.length_map, List.take_of_length_le (by omega)] at AR12 ef12
      rw [← e6a] at AR12
      rw [← e6b] at ef12
      exact ⟨o11.trans o12, AR12, ef12, _, _, _, _, _, _, _, _, _, _, _, rfl⟩
    · rintro σ H1 ⟨o5, AR5, e1, x5, x6, x7, x8, x9, x10, x11, x12, x13, x14, x15, rfl⟩
      have R5 := gg_ok b hN n1 (i := n) (Nat.le_refl _)
      obtain ⟨cc, hk⟩ := kvF_ok R5.C R5.Df
      have l0 := R5.len
      have l2 := gAll_len f (w := n) n30 n
      have l1 : ((LL f n).filter fun p : Tri => decide (p.1 < (n : Int))).length ≤ 900 := by
        have := List.length_filter_le (fun p : Tri => decide (p.1 < (n : Int))) (LL f n)
        have e : (LL f n).length = (gAll f n n n).length := congrArg List.length (List.append_nil _)
        omega
      rw [Nat.sub_self] at l0
      have l0 : ((GG b f n n).2.length : Int) + 0 ≤ 2 * (n : Int) + (((LL f n).filter fun p : Tri => decide (p.1 < (n : Int))).length : Int) := l0
      have lf : (GG b f n n).2.length ≤ 960 := by omega
      have s1 := hsame o5
      have efam := famOf_kvF (GG b f n n).2
      have lk : (kvF (GG b f n n).2).length ≤ 960 := by
        unfold kvF
        rw [List.length_map]
        exact lf
      have pmf : ∀ F : Fm, F.Perm (famOf (kvF (GG b f n n).2)) → F.Perm (GG b f n n).2 := fun F h => by
        rw [efam] at h
        exact h
      generalize kvF (GG b f n n).2 = kvs at e1 hk lk pmf
      clear efam
      refine ⟨fo, .dT kvs, e1, trivial, fun od => ⟨_, rfl, fo, od, rfl, .inr ⟨kvs, upd_same, fun D nD => ?_⟩⟩⟩
      have nD' : H1 D = none := by
        by_cases z : D = fo
        · rw [z, upd_same] at nD
          cases nD
        · rw [upd_ne z] at nD
          exact nD
      have nDf : D ≠ fo := fun z => by
        rw [z, upd_same] at nD
        cases nD
      refine lc_it walk_keysT (fun i H2 => H2 fo = some (.frz od (.dT kvs)) ∧ Same (upd H1 fo (.frz od (.dT kvs))) H2 ∧ ∃ xs, H2 D = some (.lst xs) ∧ Paired (FmAt H2) xs ((famOf kvs).take i)) ?_ ?_ ?_ ?_
      · exact ⟨same_new nD _ _ upd_same, same_new nD, [], upd_same, .nil⟩
      · rintro i H2 _ ⟨h, _⟩
        exact h
      · rintro i x H2 H2' hi ⟨hfz, s2, xs, eD, hP⟩ ⟨rfl, ky, v, q1, ek, rfl, hq⟩
        obtain ⟨ds, mm, rfl, rfl, ef⟩ := famOf_at hk ek
        have lx : xs.length = i := by
          rw [paired_len hP, List.length_take, (famOf_all hk).2.2]
          omega
        refine ⟨rfl, yes_if ⟨_, rfl, _, rfl, _, rfl, fo, _, rfl, .inr ⟨kvs, _, q1, .inr ⟨od, hfz⟩, rfl, hq, (valV_at hk.nd ek).symm⟩, by show 2 ≤ sizeLine; decide, fun T nT => ?_⟩⟩
        have nTD : D ≠ T := ne_of_none eD nT
        have tq : H2' q1 = some (.tup (ds.map V.int)) := by
          rw [hq, List.map_map]
          rfl
        refine ⟨xs, by rw [upd_ne nTD]; exact eD, by rw [lx]; exact small1000 (by omega), ?_, ?_, ?_⟩
        · rw [upd_ne nDf.symm, upd_ne (ne_of_none hfz nT)]
          exact hfz
        · intro c o e
          rw [upd_ne (ne_of_none e nD), upd_ne (ne_of_none (s2 _ _ e) nT)]
          exact s2 _ _ e
        · refine ⟨xs ++ [.ref T], upd_same, ?_⟩
          have kt : ∀ c us, H2' c = some (.tup us) → upd (upd H2' T (.tup [.ref q1, .int mm])) D (.lst (xs ++ [.ref T])) c = some (.tup us) := fun c us e => by
            rw [upd_ne (ne_of e eD (fun z => by cases z)), upd_ne (ne_of_none e nT)]
            exact e
          rw [List.take_add_one, ef]
          refine paired_snoc (L2.Paired.mapP hP fun _ _ z => z.keep kt) ⟨T, q1, rfl, ?_, kt _ _ tq⟩
          rw [upd_ne nTD.symm, upd_same]
      · rintro H2 ⟨hfz, s2, xs, eD, hP⟩
        rw [List.take_of_length_le (by rw [(famOf_all hk).2.2]; exact Nat.le_refl _)] at hP
        have s3 : Same H (upd H2 fo (.dT kvs)) := by
          intro c o e
          have nf : c ≠ fo := ne_of_none e nfoH
          rw [upd_ne nf]
          exact s2 _ _ (by rw [upd_ne nf]; exact s1 _ _ e)
        have eD2 : upd H2 fo (.dT kvs) D = some (.lst xs) := by
          rw [upd_ne nDf]
          exact eD
        have hP2 : Paired (FmAt (upd H2 fo (.dT kvs))) xs (famOf kvs) := L2.Paired.mapP hP fun _ _ z => z.keep fun c us e => by
          rw [upd_ne (ne_of e hfz (fun z => by cases z))]
          exact e
        refine ⟨hfz, ?_⟩
        generalize upd H2 fo (.dT kvs) = H3 at s3 eD2 hP2 ⊢
        obtain ⟨key, ekey, hkey⟩ := fm_key hP2
        refine ⟨D, xs, key, rfl, .inl (.inl eD2), fun x hx => ?_, fun ys r hs hp nr => ?_⟩
        · obtain ⟨t, c, e, h1, h2⟩ := hkey x hx
          exact ⟨t, c, e, h1, h2⟩
        obtain ⟨g1, g2, g3⟩ := fam_of_sorted hk ekey hkey hs hp
        have hpm : (ys.map key).Perm (famOf kvs) := by
          rw [← ekey]
          exact hp.map key
        refine q _ r (ys.map key) (s3.trans (same_new nr)) (s3.free nr) ⟨ys, upd_same, L2.Paired.mapP g1 fun _ _ z => z.keep fun c us e => by rw [upd_ne (ne_of_none e nr)]; exact e⟩ (pmf _ hpm) g2.asc
end
end K21

namespace K21
open PySem PySem.Spec PyProof.Rows L2 Fa
abbrev cBig : Int := 1200000000000000000000000000000
/-- the sheet's numbers are not great -/
def Bd (f : Nat → List Int) (n w : Nat) : Prop := ∀ a b : Int, Told n w a b → 0 ≤ uu f a b ∧ uu f a b ≤ cBig
theorem Bd.fr {f : Nat → List Int} {n w : Nat} (h : Bd f n w) (w1 : 1 ≤ w) {b : Int} (b0 : 0 ≤ b) (bn : b < n) : fr f w b ≤ cBig := by
  have e1 : 0 ≤ sF w b ∧ b - sF w b < w := by
    unfold sF
    split <;> omega
  have x := (h (sF w b) b fun _ => ⟨by omega, by omega, by omega⟩).2
  have y := (h (sF w b) (b - 1) fun _ => ⟨by omega, by omega, by omega⟩).1
  show uu f (sF w b) b - uu f (sF w b) (b - 1) ≤ cBig
  omega
theorem num200 {x : Int} (h0 : -(40 * cBig) ≤ x) (h : x ≤ 40 * cBig) : NumW x := by
  have e : (40 * 1200000000000000000000000000000 : Int) < 2 ^ 200 := by decide +kernel
  have e2 : ((2 ^ 200 : Nat) : Int) = (2 : Int) ^ 200 := by decide +kernel
  have h0 : -(40 * 1200000000000000000000000000000 : Int) ≤ x := h0
  have h : x ≤ (40 * 1200000000000000000000000000000 : Int) := h
  show x.natAbs < 2 ^ 200
  omega
theorem lgR_num {f : Nat → List Int} {n w : Nat} (hB : Bd f n w) (hN : NN f n w) (n30 : n ≤ 30) (w1 : 1 ≤ w) {a b : Int} (a0 : 0 ≤ a) (bn : b < n) (ab : a ≤ b) : NumW (lgR f n w a b).1 ∧ NumW (lgR f n w a b).2 := by
  unfold lgR
  by_cases c : b - a < (w : Int)
  · rw [if_pos c]
    have := hB a b fun _ => ⟨a0, bn, c⟩
    have : 0 ≤ uu f a b ∧ uu f a b ≤ (1200000000000000000000000000000 : Int) := this
    exact ⟨num200 (by show -(40 * 1200000000000000000000000000000 : Int) ≤ _; omega) (by show _ ≤ (40 * 1200000000000000000000000000000 : Int); omega), num200 (by show -(40 * 1200000000000000000000000000000 : Int) ≤ _; omega) (by show _ ≤ (40 * 1200000000000000000000000000000 : Int); omega)⟩
  · rw [if_neg c]
    have eM : (mS w a b : Int) = b - a - (w : Int) + 1 := by
      unfold mS
      omega
    have v0 := hB a (a + (w : Int) - 1) fun _ => ⟨a0, by omega, by omega⟩
    have v0 : 0 ≤ uu f a (a + (w : Int) - 1) ∧ uu f a (a + (w : Int) - 1) ≤ (1200000000000000000000000000000 : Int) := v0
    have s0 : 0 ≤ sa (frS f w a) (mS w a b) := sa_nonneg fun i hi => hN.f0 _ (by omega) (by omega)
    have s1 := sa_le (g := frS f w a) (c := cBig) (n := mS w a b) fun i hi => hB.fr w1 (by omega) (by omega)
    have s2 : cBig * (mS w a b : Int) ≤ cBig * 30 := Int.mul_le_mul_of_nonneg_left (by omega) (by decide)
    have s3 : sa (frS f w a) (mS w a b) ≤ (1200000000000000000000000000000 * 30 : Int) := Int.le_trans s1 s2
    obtain ⟨⟨t0, h0, e0⟩, h1⟩ := grd_least (awS f n w a) (frS f w a) (mS w a b)
    have g1 := h1 0 (Nat.zero_le _)
    have b0 : bd (awS f n w a) (frS f w a) (mS w a b) 0 = sa (frS f w a) (mS w a b) := by
      show (0 : Int) + (sa (frS f w a) (mS w a b) - 0) = _
      omega
    have g0 : 0 ≤ (grd (awS f n w a) (frS f w a) (mS w a b)).2 := by
      rw [← e0]
      have x := sa_nonneg (g := awS f n w a) (n := t0) fun i hi => hN.a0 _ (by omega) (by omega)
      have y := sa_nonneg (g := fun i => frS f w a (t0 + i)) (n := mS w a b - t0) fun i hi => hN.f0 _ (by omega) (by omega)
      rw [sa_shift, show t0 + (mS w a b - t0) = mS w a b by omega] at y
      show 0 ≤ sa _ t0 + (_ - _)
      omega
    rw [b0] at g1
    have ev : vS f w a b = uu f a (a + (w : Int) - 1) + sa (frS f w a) (mS w a b) := rfl
    refine ⟨num200 ?_ ?_, num200 ?_ ?_⟩
    · show -(40 * 1200000000000000000000000000000 : Int) ≤ vS f w a b - _
      omega
    · show vS f w a b - _ ≤ (40 * 1200000000000000000000000000000 : Int)
      omega
    · show -(40 * 1200000000000000000000000000000 : Int) ≤ vS f w a b
      omega
    · show vS f w a b ≤ (40 * 1200000000000000000000000000000 : Int)
      omega
theorem Bd.aw {f : Nat → List Int} {n w : Nat} (h : Bd f n w) (w1 : 1 ≤ w) {a : Int} (a0 : 0 ≤ a) (an : a < n) : aw f n w a ≤ cBig := by
  have e1 : eA n w a < n ∧ eA n w a - a < w := by
    unfold eA
    split <;> omega
  have x := (h a (eA n w a) fun _ => ⟨by omega, by omega, by omega⟩).2
  have y := (h (a + 1) (eA n w a) fun _ => ⟨by omega, by omega, by omega⟩).1
  show uu f a (eA n w a) - uu f (a + 1) (eA n w a) ≤ cBig
  omega
theorem mx0_bd {x y : Int} (h : x ≤ y) (y0 : 0 ≤ y) : 0 ≤ mx0 x ∧ mx0 x ≤ y := by
  unfold mx0
  split <;> omega
theorem numC {x : Int} (h0 : -(2 * cBig) ≤ x) (h : x ≤ 2 * cBig) : NumW x := by
  have h0 : -(2 * 1200000000000000000000000000000 : Int) ≤ x := h0
  have h : x ≤ (2 * 1200000000000000000000000000000 : Int) := h
  exact num200 (by show -(40 * 1200000000000000000000000000000 : Int) ≤ x; omega) (by show x ≤ (40 * 1200000000000000000000000000000 : Int); omega)
section
variable {f : Nat → List Int} {n w : Nat} (hB : Bd f n w) (hN : NN f n w) (w1 : 1 ≤ w)
include hB hN w1
theorem newR_num {d : Int} (d0 : 0 ≤ d) (dn : d < n) : (0 ≤ (newR f n w d).1 ∧ (newR f n w d).1 ≤ cBig) ∧ (0 ≤ (newR f n w d).2 ∧ (newR f n w d).2 ≤ cBig) := by
  have f0 := hN.f0 d d0 dn
  have f1 := hB.fr w1 d0 dn
  have j0 : 0 ≤ jA f n w d := sa_nonneg fun i hi => hN.a0 _ (by omega) (by omega)
  have m := mx0_bd (x := fr f w d - jA f n w d) (y := fr f w d) (by omega) f0
  exact ⟨⟨m.1, Int.le_trans m.2 f1⟩, f0, f1⟩
theorem goneR_num {d : Int} (d0 : 0 ≤ d) (dn : d < n) : (0 ≤ (goneR f n w d).1 ∧ (goneR f n w d).1 ≤ cBig) ∧ (0 ≤ (goneR f n w d).2 ∧ (goneR f n w d).2 ≤ cBig) := by
  have a0 := hN.a0 d d0 dn
  have a1 := hB.aw w1 d0 dn
  have j0 : 0 ≤ jF f n w d := sa_nonneg fun i hi => hN.f0 _ (by omega) (by omega)
  have m := mx0_bd (x := aw f n w d - jF f n w d) (y := aw f n w d) (by omega) a0
  exact ⟨⟨m.1, Int.le_trans m.2 a1⟩, a0, a1⟩
theorem nextR_num {a b : Int} (a0 : 0 ≤ a) (ab : a < b) (bn : b < n) : NumW (nextR f n w a b).1 ∧ NumW (nextR f n w a b).2 := by
  unfold nextR
  by_cases c : b - a < (w : Int)
  · rw [if_pos c]
    have g0 := hN.g0 a b a0 ab bn c
    have u1 := hB a (b - 1) fun _ => ⟨by omega, by omega, by omega⟩
    have u2 := hB (a + 1) b fun _ => ⟨by omega, by omega, by omega⟩
    have u3 := hB (a + 1) (b - 1) fun _ => ⟨by omega, by omega, by omega⟩
    have u4 := hB a b fun _ => ⟨by omega, by omega, by omega⟩
    have : gp f a b ≤ 2 * cBig := by
      unfold gp
      omega
    exact ⟨numC (Int.le_trans (by decide) g0) this, numC (Int.le_trans (by decide) g0) this⟩
  · rw [if_neg c]
    have f0 := hN.f0 b (by omega) bn
    have f1 := hB.fr w1 (b := b) (by omega) bn
    have a0' := hN.a0 a a0 (by omega)
    have a1 := hB.aw w1 a0 (by omega)
    refine ⟨numC (by show -(2 * cBig) ≤ 0; decide) (by show 0 ≤ 2 * cBig; decide), ?_⟩
    show NumW (if fr f w b < aw f n w a then fr f w b else aw f n w a)
    split
    · exact numC (Int.le_trans (by decide) f0) (Int.le_trans f1 (by decide))
    · exact numC (Int.le_trans (by decide) a0') (Int.le_trans a1 (by decide))
end
end K21

set_option maxHeartbeats 0
namespace K21
open PySem PySem.Spec PyProof.Rows L2 Fa
abbrev s__law_right : Stmt := topS 67
abbrev N__law_right : List Str := ["sheet_here", "count_here", "least", "greatest", "spot", "fresh", "away", "due", "is_many", "some", "one", "part"]
theorem sc__law_right : FnScope N__law_right ["sheet_here", "count_here"] (defScope s__law_right) := ⟨rfl, rfl, rfl, by decide +kernel, rfl, by decide +kernel, by decide +kernel⟩
theorem numD {x : Int} (h0 : 0 ≤ x) (h : x ≤ 100 * cBig) : NumW x := by
  have e : (100 * 1200000000000000000000000000000 : Int) < 2 ^ 200 := by decide +kernel
  have e2 : ((2 ^ 200 : Nat) : Int) = (2 : Int) ^ 200 := by decide +kernel
  have h : x ≤ (100 * 1200000000000000000000000000000 : Int) := h
  show x.natAbs < 2 ^ 200
  omega
section
variable {f : Nat → List Int} {n : Nat} (hB : Bd f n n) (hN : NN f n n) (hf : Shf n n f)
include hB hN hf
theorem one_bd {i : Nat} (hi : i < n) : (0 ≤ (prR f n n [(i : Int)]).1 ∧ (prR f n n [(i : Int)]).1 ≤ 2 * cBig) ∧ 0 ≤ (prR f n n [(i : Int)]).2 ∧ (prR f n n [(i : Int)]).2 ≤ 2 * cBig := by
  have f0 := hN.f0 i (by omega) (by omega)
  have a0 := hN.a0 i (by omega) (by omega)
  have f1 := hB.fr hf.w1 (b := (i : Int)) (by omega) (by omega)
  have a1 := hB.aw hf.w1 (a := (i : Int)) (by omega) (by omega)
  have u := (hB i i fun _ => ⟨by omega, by omega, by omega⟩).1
  have c0 : (0 : Int) ≤ cBig := by decide
  rw [prR_one hN hi]
  unfold mx0 mn2
  dsimp only
  constructor
  · split <;> omega
  · split <;> omega
theorem on_bd {i : Nat} (hi : i ≤ n) : (0 ≤ sa (fun j => (prR f n n [(j : Int)]).1) i ∧ sa (fun j => (prR f n n [(j : Int)]).1) i ≤ 100 * cBig) ∧ 0 ≤ sa (fun j => (prR f n n [(j : Int)]).2) i ∧ sa (fun j => (prR f n n [(j : Int)]).2) i ≤ 100 * cBig := by
  have n30 := hf.n30
  have c0 : (0 : Int) ≤ 2 * cBig := by decide
  have k : 2 * cBig * (i : Int) ≤ 2 * cBig * 30 := Int.mul_le_mul_of_nonneg_left (by omega) c0
  have k2 : 2 * cBig * 30 ≤ 100 * cBig := by decide
  have m1 := sa_le (g := fun j : Nat => (prR f n n [(j : Int)]).1) (c := 2 * cBig) (n := i) fun j hj => (one_bd hB hN hf (i := j) (by omega)).1.2
  have m2 := sa_le (g := fun j : Nat => (prR f n n [(j : Int)]).2) (c := 2 * cBig) (n := i) fun j hj => (one_bd hB hN hf (i := j) (by omega)).2.2
  exact ⟨⟨sa_nonneg fun j hj => (one_bd hB hN hf (i := j) (by omega)).1.1, Int.le_trans (Int.le_trans m1 k) k2⟩, sa_nonneg fun j hj => (one_bd hB hN hf (i := j) (by omega)).2.1, Int.le_trans (Int.le_trans m2 k) k2⟩
end
theorem tot_flt (φ : List Int → Bool) : ∀ F : Fm, ((F.filter fun p => φ p.1).map (·.2)).sum = tot φ F
  | [] => rfl
  | p :: F => by
    rw [tot_cons, ← tot_flt φ F, List.filter_cons]
    by_cases z : φ p.1 = true
    · rw [if_pos z, if_pos z, List.map_cons, List.sum_cons]
    · rw [if_neg z, if_neg z, Int.zero_add]
section
variable {P : Program} {w : World} {K : PySem.W.Frag} {mg : Str → Option Value} {base : Heap}
def spR21 : Sp := fun vs H Q _ => ∃ (g : Addr) (n : Nat) (f : Nat → List Int), vs = [.ref g, .int n] ∧ ShAt H g n n f ∧ NN f n n ∧ Bd f n n ∧ ∀ H', Same H H' → Q (.bl true) H'
theorem ok_r21 {f : Addr} {fd : FuncData} {k : Nat} (F : Fun K "_law_right" "_law_right" s__law_right f fd) {f__law_fresh : Addr} {d__law_fresh : FuncData} (F__law_fresh : Fun K "_law_fresh" "_law_fresh" s__law_fresh f__law_fresh d__law_fresh) (G__law_fresh : FnOk P w K mg base CX0 k f__law_fresh d__law_fresh ["sheet_here", "two"] spFrO) (b__law_fresh : Binds K d__law_fresh ["sheet_here", "two"] []) (g__law_fresh : mg "_law_fresh" = some (.ref f__law_fresh)) {f__law_away : Addr} {d__law_away : FuncData} (F__law_away : Fun K "_law_away" "_law_away" s__law_away f__law_away d__law_away) (G__law_away : FnOk P w K mg base CX0 k f__law_away d__law_away ["sheet_here", "one"] spAwF) (b__law_away : Binds K d__law_away ["sheet_here", "one"] []) (g__law_away : mg "_law_away" = some (.ref f__law_away)) {f_pattern_range : Addr} {d_pattern_range : FuncData} (F_pattern_range : Fun K "pattern_range" "pattern_range" s_pattern_range f_pattern_range d_pattern_range) (G_pattern_range : FnOk P w K mg base CX0 k f_pattern_range d_pattern_range ["sheet", "pattern"] spPatR) (b_pattern_range : Binds K d_pattern_range ["sheet", "pattern"] []) (g_pattern_range : mg "pattern_range" = some (.ref f_pattern_range)) {f_once_range : Addr} {d_once_range : FuncData} (F_once_range : Fun K "once_range" "once_range" s_once_range f_once_range d_once_range) (G_once_range : FnOk P w K mg base CX0 k f_once_range d_once_range ["sheet"] spOnce) (b_once_range : Binds K d_once_range ["sheet"] []) (g_once_range : mg "once_range" = some (.ref f_once_range)) {f__law_built : Addr} {d__law_built : FuncData} (F__law_built : Fun K "_law_built" "_law_built" s__law_built f__law_built d__law_built) (G__law_built : FnOk P w K mg base CX0 k f__law_built d__law_built ["sheet_here", "is_many"] spBuilt) (b__law_built : Binds K d__law_built ["sheet_here", "is_many"] []) (g__law_built : mg "_law_built" = some (.ref f__law_built)) {f_has_sheet : Addr} {d_has_sheet : FuncData} (F_has_sheet : Fun K "has_sheet" "has_sheet" s_has_sheet f_has_sheet d_has_sheet) (G_has_sheet : FnOk P w K mg base CX0 k f_has_sheet d_has_sheet ["sheet", "thing"] spHas) (b_has_sheet : Binds K d_has_sheet ["sheet", "thing"] []) (g_has_sheet : mg "has_sheet" = some (.ref f_has_sheet)) {f_daily_range : Addr} {d_daily_range : FuncData} (F_daily_range : Fun K "daily_range" "daily_range" s_daily_range f_daily_range d_daily_range) (G_daily_range : FnOk P w K mg base CX0 k f_daily_range d_daily_range ["sheet"] spDayR) (b_daily_range : Binds K d_daily_range ["sheet"] []) (g_daily_range : mg "daily_range" = some (.ref f_daily_range)) (m_repr : mg "repr" = none) (m_len : mg "len" = none) (m_min : mg "min" = none) (m_max : mg "max" = none) (m_range : mg "range" = none) (m_sum : mg "sum" = none) (m_tuple : mg "tuple" = none) : FnG P w K mg base (k + 1) f fd ["sheet_here", "count_here"] spR21 := by
  refine funG F sc__law_right (fun vs H Q E h => ?_) (fun cdv A outer s H vs Q E hr ng h => ?_)
  · obtain ⟨g, _, _, rfl, _⟩ := h
    rfl
  · obtain ⟨g, n, f, rfl, hS, hN, hB, q⟩ := h
    refine ⟨_, (pss_cons (ps_asg (pe_tup (pa_cons pe_int (pa_cons pe_int pa_nil))) (pg_tup rfl (pgs_cons (pg_name (i := 2) sc__law_right.nd rfl (by first | exact Or.inl rfl | exact Or.inr rfl)) (pgs_cons (pg_name (i := 3) sc__law_right.nd rfl (by first | exact Or.inl rfl | exact Or.inr rfl)) pgs_nil))))
  (pss_cons (ps_for PassesOwn.never rfl (pi_range1 (by rfl) m_range (pa_cons (pv 1) pa_nil)) (pg_name (i := 4) sc__law_right.nd rfl (by first | exact Or.inl rfl | exact Or.inr rfl)) (pss_cons (ps_par (i := 5) (j := 6) rfl sc__law_right.nd rfl rfl (by decide) rfl rfl (pa_cons (pe_call G__law_fresh (hr.mono (by omega)) (by rfl) g__law_fresh F__law_fresh.kp b__law_fresh .nil pass0 (pa_cons (pv 0) (pa_cons (pv 4) pa_nil))) (pa_cons (pe_call G__law_away (hr.mono (by omega)) (by rfl) g__law_away F__law_away.kp b__law_away .nil pass0 (pa_cons (pv 0) (pa_cons (pv 4) pa_nil))) pa_nil)) rfl)
  (pss_cons (ps_set (i := 2) sc__law_right.nd rfl (by first | exact Or.inl rfl | exact Or.inr rfl) (pe_op op_add (pv 2) (pe_callB (call_max2 rfl) (by rfl) m_max PyProof.Rows.boot_max (pa_cons pe_int (pa_cons (pe_op op_sub (pe_op op_add (pv 5) (pv 6)) (pe_ix (Fa.ixL K) (pe_ix (Fa.ixL K) (pv 0) (pv 4) (fun _ _ => rfl)) pe_int (fun _ _ => rfl))) pa_nil)))))
  (pss_cons (ps_set (i := 3) sc__law_right.nd rfl (by first | exact Or.inl rfl | exact Or.inr rfl) (pe_op op_add (pv 3) (pe_callB (call_min2 rfl) (by rfl) m_min PyProof.Rows.boot_min (pa_cons (pv 5) (pa_cons (pv 6) pa_nil)))))
  (pss_cons (ps_set (i := 7) sc__law_right.nd rfl (by first | exact Or.inl rfl | exact Or.inr rfl) (pe_tup (pa_cons (pe_callB (call_max2 rfl) (by rfl) m_max PyProof.Rows.boot_max (pa_cons pe_int (pa_cons (pe_op op_sub (pe_op op_add (pv 5) (pv 6)) (pe_ix (Fa.ixL K) (pe_ix (Fa.ixL K) (pv 0) (pv 4) (fun _ _ => rfl)) pe_int (fun _ _ => rfl))) pa_nil))) (pa_cons (pe_callB (call_min2 rfl) (by rfl) m_min PyProof.Rows.boot_min (pa_cons (pv 5) (pa_cons (pv 6) pa_nil))) pa_nil))))
  (pss_one (ps_if (pt_cmpR op_ne (pe_callB (Fa.reprQ K ng (Fa.un66 hr)) (by rfl) m_repr Fa.b_repr (pa_cons (pe_call G_pattern_range (hr.mono (by omega)) (by rfl) g_pattern_range F_pattern_range.kp b_pattern_range .nil pass0 (pa_cons (pv 0) (pa_cons (pe_tup (pa_cons (pv 4) pa_nil)) pa_nil))) pa_nil)) (pe_callB (Fa.reprQ K ng (Fa.un66 hr)) (by rfl) m_repr Fa.b_repr (pa_cons (pv 7) pa_nil)) (nomark _)) (pss_one (ps_ret pe_bl)) pss_nil)))))))
  (pss_cons (ps_if (pt_cmpR op_ne (pe_callB (Fa.reprQ K ng (Fa.un66 hr)) (by rfl) m_repr Fa.b_repr (pa_cons (Fa.pe_callGK (FnG.of G_once_range) (hr.mono (by omega)) ng (by rfl) g_once_range F_once_range.kp (Fa.kbRev (ks := ["sheet"]) F_once_range (fun _ _ _ _ _ _ us ws hu hw => match us, ws, hu, hw with | [], [_], _, _ => rfl)) (pk_cons (pv 0) pk_nil)) pa_nil)) (pe_callB (Fa.reprQ K ng (Fa.un66 hr)) (by rfl) m_repr Fa.b_repr (pa_cons (pe_tup (pa_cons (pv 2) (pa_cons (pv 3) pa_nil))) pa_nil)) (nomark _)) (pss_one (ps_ret pe_bl)) pss_nil)
  (pss_cons (ps_for PassesOwn.never rfl (Fa.tupIQ K (pe_tup (pa_cons (pe_tup (pa_cons pe_bl (pa_cons (pv 3) pa_nil))) (pa_cons (pe_tup (pa_cons pe_bl (pa_cons (pv 2) pa_nil))) pa_nil)))) (pg_tup rfl (pgs_cons (pg_name (i := 8) sc__law_right.nd rfl (by first | exact Or.inl rfl | exact Or.inr rfl)) (pgs_cons (pg_name (i := 7) sc__law_right.nd rfl (by first | exact Or.inl rfl | exact Or.inr rfl)) pgs_nil))) (pss_cons (ps_set (i := 9) sc__law_right.nd rfl (by first | exact Or.inl rfl | exact Or.inr rfl) (pe_call G__law_built (hr.mono (by omega)) (by rfl) g__law_built F__law_built.kp b__law_built .nil pass0 (pa_cons (pv 0) (pa_cons (pv 8) pa_nil))))
  (pss_cons (ps_if (pt_cmpR op_notBl (pe_call G_has_sheet (hr.mono (by omega)) (by rfl) g_has_sheet F_has_sheet.kp b_has_sheet .nil pass0 (pa_cons (pv 0) (pa_cons (pv 9) pa_nil))) pe_bl (nomark _)) (pss_one (ps_ret pe_bl)) pss_nil)
  (pss_one (ps_if (pt_cmpR op_ne (pe_callB (Fa.sumQ K rfl) (by rfl) m_sum Fa.b_sum (pa_cons (pe_lc (own := [("one", 10), ("part", 11)]) (g := (gTup K 2 (gCons (gName 10) (gCons (gName 11) gNil)))) rfl sc__law_right.nd (Fa.listQ K (pv 9)) (blkOk_by (N := N__law_right) (sc := defScope s__law_right) (by decide +kernel)) (fun _ _ _ _ _ => (Fa.pgTQ K rfl (pgs_cons (pg_name (i := 10) sc__law_right.nd rfl (by first | exact Or.inl rfl | exact Or.inr rfl)) (pgs_cons (pg_name (i := 11) sc__law_right.nd rfl (by first | exact Or.inl rfl | exact Or.inr rfl)) pgs_nil)))) (fun _ _ _ _ _ => (pts_one (pt_cmpR op_eq (pe_callB (Fa.lenQ K) (by rfl) m_len PySem.boot_len (pa_cons (pv 10) pa_nil)) pe_int (nomark _)))) (fun _ _ _ _ _ => (pv 11))) pa_nil)) (pv 7) (nomark _)) (pss_one (ps_ret pe_bl)) pss_nil)))))
  (pss_one (ps_ret (pe_cmpR (Fa.eqQ K hr.units) (Fa.pe_callGK (FnG.of G_daily_range) (hr.mono (by omega)) ng (by rfl) g_daily_range F_daily_range.kp (Fa.kbRev (ks := ["sheet"]) F_daily_range (fun _ _ _ _ _ _ us ws hu hw => match us, ws, hu, hw with | [], [_], _, _ => rfl)) (pk_cons (pv 0) pk_nil)) (pe_call G_pattern_range (hr.mono (by omega)) (by rfl) g_pattern_range F_pattern_range.kp b_pattern_range .nil pass0 (pa_cons (pv 0) (pa_cons (pe_tupRg rfl (by rfl) m_tuple (prg_1 (by rfl) m_range (pv 1))) pa_nil))) (nomark _)))))))), ?_⟩
    have n1 : 1 ≤ n := hS.2.n1
    have n30 : n ≤ 30 := hS.2.n30
    have hf : Shf n n f := hS.2
    refine ⟨by show 2 ≤ sizeLine; decide, fun T nT => ⟨T, _, rfl, .inl (.inl upd_same), rfl, _, _, rfl, _, _, rfl, rfl, ?_⟩⟩
    have s0 := same_new (o := .tup [.int 0, .int 0]) nT
    generalize upd H T (.tup [.int 0, .int 0]) = H0 at s0 ⊢
    refine ⟨_, rfl, n, rfl, by omega, by omega, ?_⟩
    rw [Int.toNat_natCast]
    refine for_range (lo := 0) (fun i σ H' => Same H H' ∧ ∃ x4 x5 x6 x7 x8 x9 x10 x11, σ = [some (.ref g), some (.int n), some (.int (sa (fun j => (prR f n n [(j : Int)]).1) i)), some (.int (sa (fun j => (prR f n n [(j : Int)]).2) i)), x4, x5, x6, x7, x8, x9, x10, x11]) ?_ ?_ ?_
    · exact ⟨s0, none, none, none, none, none, none, none, none, rfl⟩
    · rintro i σ H1 hi ⟨s1, x4, x5, x6, x7, x8, x9, x10, x11, rfl⟩
      rw [Int.zero_add]
      have hS1 := hS.same s1
      obtain ⟨⟨rows, G⟩, _⟩ := id hS1
      obtain ⟨rd, erd, _, hrd⟩ := G.get (s := i) hi
      have at1 : atI (rows.map V.ref) (i : Int) = some (.ref rd) := atI_nat (by rw [List.getElem?_map, erd]; rfl)
      have at2 : atI ((f i).map V.int) 0 = some (.int (uu f i i)) := atI_int (Int.le_refl _) (by
        have := uu_get hf (a := (i : Int)) (b := (i : Int)) (Int.le_refl _) fun _ => ⟨by omega, by omega, by omega⟩
        rw [show ((i : Int) - (i : Int)).toNat = 0 by omega, show ((i : Int)).toNat = i by omega] at this
        rw [List.getElem?_map]
        show ((f i)[0]?).map V.int = _
        rw [this]
        rfl)
      refine ⟨_, rfl, _, rfl, g, n, n, f, (i : Int), rfl, hS1, by omega, by omega, _, rfl, _, rfl, g, n, n, f, (i : Int), rfl, hS1, by omega, by omega, _, _, rfl, ?_⟩
      refine ⟨_, rfl, _, rfl, _, rfl, _, _, rfl, rfl, _, rfl, _, rfl, g, _, _, _, rfl, rfl, .inl (.inl G.top), at1, rd, _, _, _, rfl, rfl, .inl (.inl hrd), at2, _, _, rfl, rfl, 0, _, rfl, _, _, rfl, rfl, ?_⟩
      refine ⟨_, rfl, _, rfl, _, rfl, _, _, rfl, _, _, rfl, rfl, ?_⟩
      refine ⟨_, rfl, _, rfl, _, _, rfl, rfl, _, rfl, _, rfl, g, _, _, _, rfl, rfl, .inl (.inl G.top), at1, rd, _, _, _, rfl, rfl, .inl (.inl hrd), at2, _, _, rfl, rfl, 0, _, rfl, _, rfl, _, rfl, _, _, rfl, by show 2 ≤ sizeLine; decide, fun T2 nT2 => ?_⟩
      have e1 : (prR f n n [(i : Int)]).1 = if fr f n i + aw f n n i - uu f i i > 0 then fr f n i + aw f n n i - uu f i i else 0 := by
        rw [prR_one hN hi]
        rfl
      have e2 : (prR f n n [(i : Int)]).2 = if aw f n n i < fr f n i then aw f n n i else fr f n i := by
        rw [prR_one hN hi]
        rfl
      rw [← e1, ← e2]
      obtain ⟨⟨b1, b2⟩, b3, b4⟩ := one_bd hB hN hf hi
      have c2 : 2 * cBig ≤ 100 * cBig := by decide
      have N1 := numD b1 (Int.le_trans b2 c2)
      have N2 := numD b3 (Int.le_trans b4 c2)
      have sT2 := same_new (o := .tup [.int (prR f n n [(i : Int)]).1, .int (prR f n n [(i : Int)]).2]) nT2
      have eT2 : upd H1 T2 (.tup [.int (prR f n n [(i : Int)]).1, .int (prR f n n [(i : Int)]).2]) T2 = some (.tup [.int (prR f n n [(i : Int)]).1, .int (prR f n n [(i : Int)]).2]) := upd_same
      dsimp only
      generalize upd H1 T2 (.tup [.int (prR f n n [(i : Int)]).1, .int (prR f n n [(i : Int)]).2]) = H2 at sT2 eT2 ⊢
      refine ⟨_, rfl, _, rfl, by show 1 ≤ sizeLine; decide, fun T3 nT3 => ?_⟩
      have sT3 := same_new (o := .tup [.int (i : Int)]) nT3
      refine ⟨g, T3, n, n, f, [(i : Int)], rfl, (hS1.same sT2).same sT3, hN, upd_same, ⟨List.cons_ne_nil _ _, List.pairwise_singleton _ _, fun d hd => by rw [List.mem_singleton.mp hd]; omega⟩, fun H4 x s4 hx => ?_⟩
      obtain ⟨t, rfl, ht⟩ := hx
      refine ⟨t, twoD (prR f n n [(i : Int)]), rfl, two_dp (p := prR f n n [(i : Int)]) ht, (by show 1 ≤ 64; decide), (shoW_two N1 N2).sh, (shoW_two N1 N2).nd, shoW_len (shoW_two N1 N2) two_line, ?_⟩
      refine ⟨_, rfl, T2, twoD (prR f n n [(i : Int)]), rfl, two_dp (p := prR f n n [(i : Int)]) (s4 _ _ (sT3 _ _ eT2)), (by show 1 ≤ 64; decide), (shoW_two N1 N2).sh, (shoW_two N1 N2).nd, shoW_len (shoW_two N1 N2) two_line, rfl, _, rfl, iteNe rfl ?_⟩
      exact ⟨((s1.trans sT2).trans sT3).trans s4, _, _, _, _, _, _, _, _, rfl⟩
    rintro σ H1 ⟨s1, x4, x5, x6, x7, x8, x9, x10, x11, rfl⟩
    obtain ⟨⟨b1, b2⟩, b3, b4⟩ := on_bd hB hN hf (i := n) (Nat.le_refl _)
    have N1 := numD b1 b2
    have N2 := numD b3 b4
    refine ⟨_, rfl, rfl, g, n, f, rfl, hS.same s1, hN, fun H2 x s2 hx => ?_⟩
    obtain ⟨t, rfl, ht⟩ := hx
    refine ⟨t, twoD (onR f n), rfl, two_dp (p := onR f n) ht, (by show 1 ≤ 64; decide), (shoW_two N1 N2).sh, (shoW_two N1 N2).nd, shoW_len (shoW_two N1 N2) two_line, ?_⟩
    refine ⟨_, rfl, _, rfl, by show 2 ≤ sizeLine; decide, fun T2 nT2 => ?_⟩
    refine ⟨T2, twoD (onR f n), rfl, two_dp (p := onR f n) upd_same, (by show 1 ≤ 64; decide), (shoW_two N1 N2).sh, (shoW_two N1 N2).nd, shoW_len (shoW_two N1 N2) two_line, rfl, _, rfl, iteNe rfl ?_⟩
    have s12 := (s1.trans s2).trans (same_new (o := .tup [.int (onR f n).1, .int (onR f n).2]) nT2)
    change tNext _ _ (upd H2 T2 (.tup [.int (onR f n).1, .int (onR f n).2]))
    generalize upd H2 T2 (.tup [.int (onR f n).1, .int (onR f n).2]) = H3 at s12 ⊢
    clear ht nT2 s2 s1 s0 nT
    -- two families
    refine ⟨_, rfl, by show 2 ≤ sizeLine; decide, fun A1 m1 => ⟨_, rfl, by show 2 ≤ sizeLine; decide, fun A2 m2 => ⟨by show 2 ≤ sizeLine; decide, fun A3 m3 => ?_⟩⟩⟩
    have e1 : upd H3 A1 (.tup [.bl true, .int (onR f n).2]) A1 = some (.tup [.bl true, .int (onR f n).2]) := upd_same
    have t1 := same_new (o := .tup [.bl true, .int (onR f n).2]) m1
    change (upd H3 A1 (.tup [.bl true, .int (onR f n).2])) A2 = none at m2
    change (upd (upd H3 A1 (.tup [.bl true, .int (onR f n).2])) A2 (.tup [.bl false, .int (onR f n).1])) A3 = none at m3
    refine ⟨A3, rfl, ⟨_, .inl (.inl upd_same)⟩, ?_⟩
    change _
    show ∃ W, _
    have t2 := same_new (o := .tup [.bl false, .int (onR f n).1]) m2
    have e2 : upd (upd H3 A1 (.tup [.bl true, .int (onR f n).2])) A2 (.tup [.bl false, .int (onR f n).1]) A2 = some (.tup [.bl false, .int (onR f n).1]) := upd_same
    have t3 := same_new (o := .tup [.ref A1, .ref A2]) m3
    have e3 : upd (upd (upd H3 A1 (.tup [.bl true, .int (onR f n).2])) A2 (.tup [.bl false, .int (onR f n).1])) A3 (.tup [.ref A1, .ref A2]) A3 = some (.tup [.ref A1, .ref A2]) := upd_same
    have s8 := (t1.trans t2).trans t3
    have e1 := t3 _ _ (t2 _ _ e1)
    have e2 := t3 _ _ e2
    refine for_it (walk_tup (xs := [.ref A1, .ref A2])) (fun i σ H' => Same (upd (upd (upd H3 A1 (.tup [.bl true, .int (onR f n).2])) A2 (.tup [.bl false, .int (onR f n).1])) A3 (.tup [.ref A1, .ref A2])) H' ∧ ∃ x4 x5 x6 x7 x8 x9 x10 x11, σ = [some (.ref g), some (.int n), some (.int (onR f n).1), some (.int (onR f n).2), x4, x5, x6, x7, x8, x9, x10, x11]) ?_ ?_ ?_ ?_
    · exact ⟨Same.refl _, _, _, _, _, _, _, _, _, rfl⟩
    · rintro i σ H' _ ⟨s', _⟩
      exact .inl (.inl (s' _ _ e3))
    · rintro i v σ _ H4 hi ⟨s4, x4, x5, x6, x7, x8, x9, x10, x11, rfl⟩ ⟨rfl, ev⟩
      obtain ⟨T, bb, d, rfl, hT, hd⟩ : ∃ (T : Addr) (bb : Bool) (d : Int), v = .ref T ∧ H4 T = some (.tup [.bl bb, .int d]) ∧ d = if bb = true then (onR f n).2 else (onR f n).1 := by
        have i2 : i < 2 := hi
        have e : i = 0 ∨ i = 1 := by omega
        rcases e with rfl | rfl
        · cases ev
          exact ⟨A1, true, _, rfl, s4 _ _ e1, rfl⟩
        · cases ev
          exact ⟨A2, false, _, rfl, s4 _ _ e2, rfl⟩
      have S4 : Same H H4 := (s12.trans s8).trans s4
      refine ⟨T, _, rfl, .inl (.inl hT), rfl, _, _, rfl, _, _, rfl, rfl, ?_⟩
      refine ⟨_, rfl, _, rfl, g, n, f, bb, rfl, hS.same S4, hN, fun H5 fa fam s5 nfa hF pm as => ?_⟩
      have rt : Routed f n n [] fam := ⟨oB, vR bb f n, ord_b bb, pm⟩
      have l9 := fam_len0 hN hf.w1 n30 rt
      refine ⟨_, rfl, _, rfl, g, fa, n, n, f, fam, rfl, (hS.same S4).same s5, hF, ⟨fam_fam hN hf.w1 rt as, by omega, by omega⟩, fun s hs => fam_sheet hf hN rt hs, fun H6 s6 => ?_⟩
      refine ⟨_, _, rfl, rfl, _, rfl, iteF ?_⟩
      obtain ⟨ts, eF, hP⟩ := hF.same s6
      have lt := paired_len hP
      refine ⟨_, rfl, fa, rfl, ⟨_, .inl (.inl eF)⟩, fun D nD => ?_⟩
      refine lc_it (walk_list (xs := ts)) (fun j H' => Same H6 H' ∧ H' D = some (.lst ((((fam.take j).filter fun p => lenOne p.1).map (·.2)).map V.int))) ?_ ?_ ?_ ?_
      · exact ⟨same_new nD, upd_same⟩
      · rintro j H' _ ⟨s', _⟩
        exact .inl (.inl (s' _ _ eF))
      · rintro j v _ H7 hj ⟨s7, eD⟩ ⟨rfl, ev⟩
        obtain ⟨p, ep, t, c, rfl, ht, hc⟩ := paired_at hP ev
        refine ⟨t, _, rfl, .inl (.inl (s7 _ _ ht)), rfl, _, _, rfl, _, _, rfl, rfl, rfl, ?_⟩
        refine ⟨_, rfl, c, _, rfl, .inr (.inl (.inl (s7 _ _ hc))), rfl, _, rfl, ?_⟩
        rw [List.length_map]
        by_cases z : p.1.length = 1
        · have zl : lenOne p.1 = true := decide_eq_true z
          refine iteEq (congrArg V.int (by omega)) ⟨_, rfl, _, eD, ?_, fun b o zz => ?_, ?_⟩
          · rw [List.length_map, List.length_map]
            have := List.length_filter_le (fun p : List Int × Int => lenOne p.1) (fam.take j)
            rw [List.length_take] at this
            exact small1000 (by omega)
          · rw [upd_ne (ne_of_none zz nD)]
            exact s7 _ _ zz
          · rw [upd_same, List.take_add_one, ep, List.filter_append, List.map_append, List.map_append]
            show _ = some (HO.lst (_ ++ (([p].filter fun p => lenOne p.1).map (·.2)).map V.int))
            rw [List.filter_cons, if_pos zl]
            rfl
        · have zl : ¬ lenOne p.1 = true := by
            rw [show lenOne p.1 = false from decide_eq_false z]
            exact Bool.false_ne_true
          refine iteDF (fun y => z (by have := V.int.inj y; omega)) ⟨s7, ?_⟩
          rw [List.take_add_one, ep, List.filter_append]
          show _ = some (HO.lst (((_ ++ ([p].filter fun p => lenOne p.1)).map (·.2)).map V.int))
          rw [List.filter_cons, if_neg zl, List.filter_nil, List.append_nil]
          exact eD
      rintro H7 ⟨s7, eD⟩
      rw [List.take_of_length_le (by omega)] at eD
      refine ⟨D, _, rfl, .inl (.inl eD), ?_⟩
      rw [tot_flt]
      have et : tot lenOne fam = d := by
        rw [tot_perm pm, one_tot hN n1 (Nat.le_refl _), hd]
        cases bb <;> rfl
      exact ⟨_, rfl, rfl, _, rfl, iteNe (congrArg V.int et) ⟨((s4.trans s5).trans s6).trans s7, _, _, _, _, _, _, _, _, rfl⟩⟩
    rintro σ H4 ⟨s4, x4, x5, x6, x7, x8, x9, x10, x11, rfl⟩
    have S4 : Same H H4 := (s12.trans s8).trans s4
    refine ⟨_, rfl, rfl, g, n, n, f, rfl, hS.same S4, hN, fun H5 x s5 hx => ?_⟩
    refine ⟨_, rfl, _, rfl, _, rfl, RgOk.of_le (by omega) (by omega) (by omega) (by omega), fun T4 nT4 => ?_⟩
    rw [rg0]
    have s6 := same_new (o := .tup ((allD n).map V.int)) nT4
    refine ⟨g, T4, n, n, f, allD n, rfl, (hS.same (S4.trans s5)).same s6, hN, upd_same, allD_pat n1, fun H6 y s7 hy => ?_⟩
    refine ⟨twoD _, twoD _, (hx.same (s6.trans s7)).dp, hy.dp, (twoD_shp _).shaped (by decide), (twoD_shp _).shaped (by decide), ?_⟩
    rw [eqv_same _ (twoD_shp _).1]
    exact q _ (((S4.trans s5).trans s6).trans s7)
end
end K21

/-! written lists: of numbers, of rows, of sheets -/
namespace Fa
open PySem PySem.Spec PyProof.Rows L2
def lits : List Int → TA
  | [] => tNil
  | n :: r => tCons (tC (.int n)) (lits r)
theorem lits_ok : ∀ (ns : List Int) (σ : L2.St) (H : Hp) (Q : List V → Hp → Prop), Q (ns.map V.int) H → lits ns σ H Q
  | [], _, _, _, q => q
  | n :: r, σ, H, Q, q => lits_ok r σ H (fun xs H2 => Q (.int n :: xs) H2) q
theorem litI {ns : List Int} {σ : L2.St} {H : Hp} {Q : VK} (hl : ns.length ≤ 900) (q : ∀ H' l, Same H H' → H l = none → H' l = some (.lst (ns.map V.int)) → Q (.ref l) H') : tLst (lits ns) σ H Q :=
  lits_ok ns σ H _ ⟨by rw [List.length_map]; exact Nat.le_of_lt (small1000 (by omega)), fun l nl => q _ l (same_new nl) nl upd_same⟩
def glits : List (List Int) → TA
  | [] => tNil
  | ns :: r => tCons (tLst (lits ns)) (glits r)
theorem glits_ok : ∀ (nss : List (List Int)) (σ : L2.St) (H : Hp) (Q : List V → Hp → Prop), (∀ ns ∈ nss, ns.length ≤ 900) →
    (∀ (H' : Hp) (rows : List Addr), Same H H' → (∀ r ∈ rows, H r = none) → rows.length = nss.length → rows.Nodup → (∀ (s : Nat) (r : Addr), rows[s]? = some r → H' r = some (.lst ((nss.getD s []).map V.int))) → Q (rows.map V.ref) H') → glits nss σ H Q
  | [], _, H, _, _, q => q H [] (Same.refl H) (fun _ z => (List.not_mem_nil z).elim) rfl List.nodup_nil fun s r e => by cases e
  | ns :: r, σ, H, Q, h, q => by
    show tLst (lits ns) σ H (fun x H1 => glits r σ H1 fun xs H2 => Q (x :: xs) H2)
    refine litI (h ns List.mem_cons_self) fun H1 l s1 nl e1 => ?_
    refine glits_ok r σ H1 _ (fun x hx => h x (List.mem_cons_of_mem _ hx)) fun H2 rows s2 fr cnt nd row => ?_
    refine q H2 (l :: rows) (s1.trans s2) (fun x hx => ?_) (by rw [List.length_cons, cnt]; rfl) (List.nodup_cons.mpr ⟨fun z => ?_, nd⟩) fun s x e => ?_
    · rcases List.mem_cons.mp hx with rfl | hx
      · exact nl
      · exact s1.free (fr x hx)
    · have := fr l z
      rw [e1] at this
      cases this
    · cases s with
      | zero =>
        cases e
        exact s2 _ _ e1
      | succ s => exact row s x e
def litF (nss : List (List Int)) : Nat → List Int := fun s => nss.getD s []
def litD (nss : List (List Int)) : PyData := gridD nss.length (litF nss)
theorem litG {nss : List (List Int)} {σ : L2.St} {H : Hp} {Q : VK} (hl : nss.length ≤ 900) (h : ∀ ns ∈ nss, ns.length ≤ 900)
    (q : ∀ H' g rows, Same H H' → H g = none → (∀ r ∈ rows, H r = none) → GridAt H' g rows nss.length (litF nss) → Q (.ref g) H') : tLst (glits nss) σ H Q := by
  refine glits_ok nss σ H _ h fun H1 rows s1 fr cnt nd row => ⟨by rw [List.length_map, cnt]; exact Nat.le_of_lt (small1000 (by omega)), fun g ng => ?_⟩
  have out : g ∉ rows := fun z => by
    obtain ⟨j, hj, e⟩ := List.mem_iff_getElem.mp z
    have := row j g (by rw [List.getElem?_eq_getElem hj, e])
    rw [ng] at this
    cases this
  exact q _ g rows (s1.trans (same_new ng)) (s1.free ng) fr ⟨upd_same, cnt, nd, out, fun s r e => (same_new ng) _ _ (row s r e)⟩
def gglits : List (List (List Int)) → TA
  | [] => tNil
  | g :: r => tCons (tLst (glits g)) (gglits r)
theorem gglits_ok {K : PySem.W.Frag} : ∀ (gs : List (List (List Int))) (σ : L2.St) (H : Hp) (Q : List V → Hp → Prop), (∀ g ∈ gs, g.length ≤ 900 ∧ ∀ ns ∈ g, ns.length ≤ 900) →
    (∀ (H' : Hp) (xs : List V), Same H H' → xs.length = gs.length → DpAll K H' xs (gs.map litD) → Q xs H') → gglits gs σ H Q
  | [], _, H, _, _, q => q H [] (Same.refl H) rfl .nil
  | g :: r, σ, H, Q, h, q => by
    obtain ⟨h1, h2⟩ := h g List.mem_cons_self
    show tLst (glits g) σ H (fun x H1 => gglits r σ H1 fun xs H2 => Q (x :: xs) H2)
    refine litG h1 h2 fun H1 a rows s1 _ _ G => ?_
    refine gglits_ok (K := K) r σ H1 _ (fun x hx => h x (List.mem_cons_of_mem _ hx)) fun H2 xs s2 l d => ?_
    exact q H2 (.ref a :: xs) (s1.trans s2) (by rw [List.length_cons, l]; rfl) (.cons ((G.same s2).dp) d)
theorem litGG {K : PySem.W.Frag} {gs : List (List (List Int))} {σ : L2.St} {H : Hp} {Q : VK} (hl : gs.length ≤ 900) (h : ∀ g ∈ gs, g.length ≤ 900 ∧ ∀ ns ∈ g, ns.length ≤ 900)
    (q : ∀ H' l, Same H H' → Dp K H' (.ref l) (.list (gs.map litD)) → Q (.ref l) H') : tLst (gglits gs) σ H Q := by
  refine gglits_ok (K := K) gs σ H _ h fun H1 xs s1 l d => ⟨by rw [l]; exact Nat.le_of_lt (small1000 (by omega)), fun g ng => ?_⟩
  exact q _ g (s1.trans (same_new ng)) (.lst (.inl (.inl upd_same)) (DpAll.same (same_new ng) _ _ d))
theorem nw {H : Hp} {p : Addr} {o : HO} (n : H p = none) : Same H (upd H p o) ∧ upd H p o p = some o := ⟨same_new n, upd_same⟩
end Fa

set_option maxHeartbeats 0
namespace K21
open PySem PySem.Spec PyProof.Rows L2 Fa
abbrev s_law : Stmt := topS 68
abbrev N_law : List Str := ["script", "k", "jar", "turn", "count_here", "some"]
theorem sc_law : FnScope N_law ["script"] (defScope s_law) := ⟨rfl, rfl, rfl, by decide +kernel, rfl, by decide +kernel, by decide +kernel⟩
theorem unl_bd {n m : Int} {fam : Fm} (h : Fam n (100000000000000000000000000 * m) fam) (l : (fam.length : Int) ≤ m) (m12 : m ≤ 12) (b e : Int) : 0 ≤ unl fam b e ∧ unl fam b e ≤ cBig := by
  refine ⟨unl_nonneg (fun p hp => by have := (h.bd p hp).1; omega) b e, ?_⟩
  have a := unl_le (c := 100000000000000000000000000 * m) (fun p hp => ⟨by have := (h.bd p hp).1; omega, (h.bd p hp).2⟩) b e
  have c0 : (0 : Int) ≤ 100000000000000000000000000 * m := by omega
  have b := Int.mul_le_mul_of_nonneg_left (show (fam.length : Int) ≤ 12 by omega) c0
  show _ ≤ (1200000000000000000000000000000 : Int)
  omega
theorem kp_old {p : Addr} {H H1 H2 : Hp} (n : H p = none) (s : Same H H1) (k : Kp p H1 H2) : Same H H2 := fun b o e => k b o (fun z => by rw [z, n] at e; cases e) (s b o e)
/-- what _law_right needs of a family's sheet -/
theorem fam_ok {n wd : Nat} {m : Int} {fam : Fm} (hfam : Fam n (100000000000000000000000000 * m) fam) (hl : (fam.length : Int) ≤ m) (m12 : m ≤ 12) (n1 : 1 ≤ n) (n30 : n ≤ 30) (w1 : 1 ≤ wd) (wn : wd ≤ n) :
    Shf n wd (fun s => shRow fam s wd) ∧ NN (fun s => shRow fam s wd) n wd ∧ Bd (fun s => shRow fam s wd) n wd := by
  have bd := unl_bd hfam hl m12
  refine ⟨⟨n1, n30, w1, wn, fun s _ => shRow_len fam s wd, fun s _ x hx => ?_⟩, nn_fam (fun p hp => by have := (hfam.bd p hp).1; omega) w1, fun a b t => ?_⟩
  · obtain ⟨k, _, rfl⟩ := List.mem_map.mp hx
    exact (bd _ _).1
  · rw [uu_unl t]
    exact bd a b
theorem nn_lit {f : Nat → List Int} {n : Nat} (h : ((List.range n).all fun x => decide (0 ≤ aw f n n x) && decide (0 ≤ fr f n x) && (List.range n).all fun y => decide (x < y → 0 ≤ gp f x y)) = true) : NN f n n := by
  have key : ∀ x : Nat, x < n → 0 ≤ aw f n n x ∧ 0 ≤ fr f n x ∧ ∀ y : Nat, y < n → x < y → 0 ≤ gp f x y := fun x hx => by
    have := List.all_eq_true.mp h x (List.mem_range.mpr hx)
    obtain ⟨h1, h3⟩ := He.ba this
    obtain ⟨h1, h2⟩ := He.ba h1
    exact ⟨of_decide_eq_true h1, of_decide_eq_true h2, fun y hy xy => of_decide_eq_true (List.all_eq_true.mp h3 y (List.mem_range.mpr hy)) xy⟩
  refine ⟨fun x y x0 xy yn _ => ?_, fun x x0 xn => ?_, fun y y0 yn => ?_⟩
  · obtain ⟨x, rfl⟩ := Int.eq_ofNat_of_zero_le x0
    obtain ⟨y, rfl⟩ := Int.eq_ofNat_of_zero_le (show 0 ≤ y by omega)
    exact (key x (by omega)).2.2 y (by omega) (by omega)
  · obtain ⟨x, rfl⟩ := Int.eq_ofNat_of_zero_le x0
    exact (key x (by omega)).1
  · obtain ⟨y, rfl⟩ := Int.eq_ofNat_of_zero_le y0
    exact (key y (by omega)).2.1
theorem sA : Shf 3 3 (litF [[3], [3, 4], [2, 4, 4]]) := ⟨by decide, by decide, by decide, by decide, by decide, by decide⟩
theorem sB : Shf 1 1 (litF [[5]]) := ⟨by decide, by decide, by decide, by decide, by decide, by decide⟩
theorem nA : NN (litF [[3], [3, 4], [2, 4, 4]]) 3 3 := nn_lit (by decide +kernel)
theorem nB : NN (litF [[5]]) 1 1 := nn_lit (by decide +kernel)
theorem oA : onR (litF [[3], [3, 4], [2, 4, 4]]) 3 = (0, 1) := by decide +kernel
theorem oB' : onR (litF [[5]]) 1 = (5, 5) := by decide +kernel
section
variable {P : Program} {w : World} {K : PySem.W.Frag} {mg : Str → Option Value} {base : Heap}
def spLaw (K : PySem.W.Frag) : Sp := fun vs H Q _ => ∃ (a : Addr) (ns : List Int), vs = [.ref a] ∧ SqL K H a (ns.map V.int) ∧ ns.length ≤ 63 ∧ ∀ H', Q (.bl true) H'
theorem ok_law {f : Addr} {fd : FuncData} {k : Nat} (F : Fun K "law" "law" s_law f fd) {f__law_dip : Addr} {d__law_dip : FuncData} (F__law_dip : Fun K "_law_dip" "_law_dip" s__law_dip f__law_dip d__law_dip) (G__law_dip : FnOk P w K mg base CX0 k f__law_dip d__law_dip ["jar", "many"] spDip) (b__law_dip : Binds K d__law_dip ["jar", "many"] []) (g__law_dip : mg "_law_dip" = some (.ref f__law_dip)) {f__law_jar : Addr} {d__law_jar : FuncData} (F__law_jar : Fun K "_law_jar" "_law_jar" s__law_jar f__law_jar d__law_jar) (G__law_jar : FnOk P w K mg base CX0 k f__law_jar d__law_jar ["script", "k"] (spJar K)) (b__law_jar : Binds K d__law_jar ["script", "k"] []) (g__law_jar : mg "_law_jar" = some (.ref f__law_jar)) {f__law_family : Addr} {d__law_family : FuncData} (F__law_family : Fun K "_law_family" "_law_family" s__law_family f__law_family d__law_family) (G__law_family : FnOk P w K mg base CX0 k f__law_family d__law_family ["jar", "count_here", "size"] spFamily) (b__law_family : Binds K d__law_family ["jar", "count_here", "size"] []) (g__law_family : mg "_law_family" = some (.ref f__law_family)) {f__law_sheet : Addr} {d__law_sheet : FuncData} (F__law_sheet : Fun K "_law_sheet" "_law_sheet" s__law_sheet f__law_sheet d__law_sheet) (G__law_sheet : FnOk P w K mg base CX0 k f__law_sheet d__law_sheet ["some", "count_here", "wide"] spShe) (b__law_sheet : Binds K d__law_sheet ["some", "count_here", "wide"] []) (g__law_sheet : mg "_law_sheet" = some (.ref f__law_sheet)) {f_once_range : Addr} {d_once_range : FuncData} (F_once_range : Fun K "once_range" "once_range" s_once_range f_once_range d_once_range) (G_once_range : FnOk P w K mg base CX0 k f_once_range d_once_range ["sheet"] spOnce) (b_once_range : Binds K d_once_range ["sheet"] []) (g_once_range : mg "once_range" = some (.ref f_once_range))
    {fR : Addr} {dR : FuncData} (F__law_right : Fun K "_law_right" "_law_right" s__law_right fR dR) (G__law_right : FnG P w K mg base k fR dR ["sheet_here", "count_here"] spR21) (b__law_right : Binds K dR ["sheet_here", "count_here"] []) (g__law_right : mg "_law_right" = some (.ref fR)) (m_max : mg "max" = none) (m_min : mg "min" = none) (m_len : mg "len" = none) (m_range : mg "range" = none) : FnG P w K mg base (k + 1) f fd ["script"] (spLaw K) := by
  refine funG F sc_law (fun vs H Q E h => ?_) (fun cdv A outer s H vs Q E hr ng h => ?_)
  · obtain ⟨a, _, rfl, _⟩ := h
    rfl
  · obtain ⟨a, ns, rfl, sq, hl, q⟩ := h
    refine ⟨_, (pss_cons (ps_for PassesOwn.never rfl (pi_range1 (by rfl) m_range (pa_cons (pe_callB (call_max2 rfl) (by rfl) m_max PyProof.Rows.boot_max (pa_cons pe_int (pa_cons (pe_callB (call_min2 rfl) (by rfl) m_min PyProof.Rows.boot_min (pa_cons pe_int (pa_cons (pe_callB (Fa.lenQ K) (by rfl) m_len PySem.boot_len (pa_cons (pv 0) pa_nil)) pa_nil))) pa_nil))) pa_nil)) (pg_name (i := 1) sc_law.nd rfl (by first | exact Or.inl rfl | exact Or.inr rfl)) (pss_cons (ps_set (i := 2) sc_law.nd rfl (by first | exact Or.inl rfl | exact Or.inr rfl) (pe_call G__law_jar (hr.mono (by omega)) (by rfl) g__law_jar F__law_jar.kp b__law_jar .nil pass0 (pa_cons (pv 0) (pa_cons (pv 1) pa_nil))))
  (pss_one (ps_for PassesOwn.never rfl (pi_range1 (by rfl) m_range (pa_cons pe_int pa_nil)) (pg_name (i := 3) sc_law.nd rfl (by first | exact Or.inl rfl | exact Or.inr rfl)) (pss_cons (ps_set (i := 4) sc_law.nd rfl (by first | exact Or.inl rfl | exact Or.inr rfl) (pe_op op_add pe_int (pe_call G__law_dip (hr.mono (by omega)) (by rfl) g__law_dip F__law_dip.kp b__law_dip .nil pass0 (pa_cons (pv 2) (pa_cons pe_int pa_nil)))))
  (pss_cons (ps_set (i := 5) sc_law.nd rfl (by first | exact Or.inl rfl | exact Or.inr rfl) (pe_call G__law_family (hr.mono (by omega)) (by rfl) g__law_family F__law_family.kp b__law_family .nil pass0 (pa_cons (pv 2) (pa_cons (pv 4) (pa_cons (pe_call G__law_dip (hr.mono (by omega)) (by rfl) g__law_dip F__law_dip.kp b__law_dip .nil pass0 (pa_cons (pv 2) (pa_cons pe_int pa_nil))) pa_nil)))))
  (pss_one (ps_if (pt_not (pt_val (Fa.pe_callG G__law_right (hr.mono (by omega)) ng (by rfl) g__law_right F__law_right.kp b__law_right (pa_cons (pe_call G__law_sheet (hr.mono (by omega)) (by rfl) g__law_sheet F__law_sheet.kp b__law_sheet .nil pass0 (pa_cons (pv 5) (pa_cons (pv 4) (pa_cons (pv 4) pa_nil)))) (pa_cons (pv 4) pa_nil))))) (pss_one (ps_ret pe_bl)) pss_nil))))))))
  (pss_cons (ps_set (i := 2) sc_law.nd rfl (by first | exact Or.inl rfl | exact Or.inr rfl) (pe_call G__law_jar (hr.mono (by omega)) (by rfl) g__law_jar F__law_jar.kp b__law_jar .nil pass0 (pa_cons (pv 0) (pa_cons pe_int pa_nil))))
  (pss_cons (ps_set (i := 4) sc_law.nd rfl (by first | exact Or.inl rfl | exact Or.inr rfl) (pe_ix (Fa.ixL K) (pe_lst (pa_cons pe_int (pa_cons (pe_op op_add pe_int (pe_call G__law_dip (hr.mono (by omega)) (by rfl) g__law_dip F__law_dip.kp b__law_dip .nil pass0 (pa_cons (pv 2) (pa_cons pe_int pa_nil)))) pa_nil))) (pe_call G__law_dip (hr.mono (by omega)) (by rfl) g__law_dip F__law_dip.kp b__law_dip .nil pass0 (pa_cons (pv 2) (pa_cons pe_int pa_nil))) (fun _ _ => rfl)))
  (pss_cons (ps_if (pt_not (pt_val (Fa.pe_callG G__law_right (hr.mono (by omega)) ng (by rfl) g__law_right F__law_right.kp b__law_right (pa_cons (pe_call G__law_sheet (hr.mono (by omega)) (by rfl) g__law_sheet F__law_sheet.kp b__law_sheet .nil pass0 (pa_cons (pe_call G__law_family (hr.mono (by omega)) (by rfl) g__law_family F__law_family.kp b__law_family .nil pass0 (pa_cons (pv 2) (pa_cons (pv 4) (pa_cons pe_int pa_nil)))) (pa_cons (pv 4) (pa_cons (pv 4) pa_nil)))) (pa_cons (pv 4) pa_nil))))) (pss_one (ps_ret pe_bl)) pss_nil)
  (pss_one (ps_ret (pe_and (pe_cmpR (Fa.eqQ K hr.units) (pe_call G_once_range (hr.mono (by omega)) (by rfl) g_once_range F_once_range.kp b_once_range .nil pass0 (pa_cons (pe_lst (pa_cons (pe_lst (pa_cons pe_int pa_nil)) (pa_cons (pe_lst (pa_cons pe_int (pa_cons pe_int pa_nil))) (pa_cons (pe_lst (pa_cons pe_int (pa_cons pe_int (pa_cons pe_int pa_nil)))) pa_nil)))) pa_nil)) (pe_tup (pa_cons pe_int (pa_cons pe_int pa_nil))) (nomark _)) (pe_one (pe_cmpR (Fa.eqQ K hr.units) (pe_call G_once_range (hr.mono (by omega)) (by rfl) g_once_range F_once_range.kp b_once_range .nil pass0 (pa_cons (pe_lst (pa_cons (pe_lst (pa_cons pe_int pa_nil)) pa_nil)) pa_nil)) (pe_tup (pa_cons pe_int (pa_cons pe_int pa_nil))) (nomark _)))))))))), ?_⟩
    have nl : (ns.map V.int).length ≤ 63 := by rw [List.length_map]; exact hl
    have mx : ∀ x : Int, 0 ≤ x → ∃ N : Nat, (if (if x < 5 then x else 5) > 1 then (if x < 5 then x else 5) else 1) = (N : Int) ∧ N ≤ 5 := fun x hx => by
      refine ⟨(if (if x < 5 then x else 5) > 1 then (if x < 5 then x else 5) else 1).toNat, ?_, ?_⟩
      · split <;> split <;> omega
      · split <;> split <;> omega
    obtain ⟨N, eN, N5⟩ := mx ((ns.map V.int).length : Int) (by omega)
    refine ⟨_, rfl, a, _, rfl, .inl sq, 5, _, rfl, 1, _, rfl, _, rfl, ?_, ?_, ?_⟩
    · rw [eN]
      omega
    · rw [eN]
      omega
    rw [eN, Int.toNat_natCast]
    refine for_range (lo := 0) (fun i σ H' => Same H H' ∧ ∃ x1 x2 x3 x4 x5, σ = [some (.ref a), x1, x2, x3, x4, x5]) ?_ ?_ ?_
    · exact ⟨Same.refl _, none, none, none, none, none, rfl⟩
    · rintro i σ H1 hi ⟨s1, x1, x2, x3, x4, x5, rfl⟩
      refine ⟨_, rfl, _, rfl, a, ns, _, rfl, sqL_same s1 sq, by omega, by omega, fun H2 p s2 np hJ2 => ?_⟩
      have np0 : H p = none := s1.free np
      refine ⟨3, rfl, by decide, by decide, ?_⟩
      refine for_range (lo := 0) (fun j σ H' => Same H H' ∧ JarAt H' p (2000 * j) ∧ ∃ x3 x4 x5, σ = [some (.ref a), some (.int (0 + (i : Int))), some (.ref p), x3, x4, x5]) ?_ ?_ ?_
      · exact ⟨s1.trans s2, hJ2, _, _, _, rfl⟩
      · rintro j σ H3 hj ⟨s3, hJ3, x3, x4, x5, rfl⟩
        have j3 : j < 3 := hj
        refine ⟨_, rfl, p, 9, 2000 * j, rfl, hJ3, by omega, by decide, lt3000 (by decide), fun H4 c b4 hJ4 c0 c9 => ⟨_, _, rfl, rfl, ?_⟩⟩
        obtain ⟨n, en, n1, n9⟩ : ∃ n : Nat, (1 : Int) + c = n ∧ 1 ≤ n ∧ n ≤ 9 := ⟨(1 + c).toNat, by omega, by omega, by omega⟩
        show gName 4 (V.int (1 + c)) _ _ _
        rw [en]
        refine ⟨_, rfl, _, rfl, _, rfl, p, 12, 2000 * j + 1, rfl, hJ4, by omega, by decide, lt3000 (by decide), fun H5 sz b5 hJ5 z0 z12 => ?_⟩
        refine ⟨p, n, sz, 2000 * j + 1 + 1, rfl, hJ5, by omega, by omega, by omega, z0, by omega, fun H6 fa fam k6 nfa hF hfam hlen hJ6 => ?_⟩
        have s6 : Same H H6 := kp_old np0 s3 ((b4.kp.trans b5.kp).trans k6)
        obtain ⟨hS, hN, hB⟩ := fam_ok hfam hlen (by omega) n1 (by omega) n1 (Nat.le_refl _)
        refine ⟨_, rfl, _, rfl, _, rfl, fa, fam, n, n, rfl, hF, hfam.pat, by omega, by omega, fun H8 g rows s8 ngg nr G => ?_⟩
        refine ⟨_, rfl, g, n, _, rfl, ⟨⟨rows, G⟩, hS⟩, hN, hB, fun H9 s9 => ⟨_, rfl, iteN0 rfl ?_⟩⟩
        exact ⟨(s6.trans s8).trans s9, ((hJ6.same s8).same s9).mono (by omega), _, _, _, rfl⟩
      · rintro σ H3 ⟨s3, hJ3, x3, x4, x5, rfl⟩
        exact ⟨s3, _, _, _, _, _, rfl⟩
    · rintro σ H1 ⟨s1, x1, x2, x3, x4, x5, rfl⟩
      refine ⟨_, rfl, a, ns, 0, rfl, sqL_same s1 sq, by decide, by decide, fun H2 p s2 np hJ2 => ?_⟩
      have np0 : H p = none := s1.free np
      refine ⟨_, rfl, p, 20, 0, rfl, hJ2, by omega, by decide, lt3000 (by decide), fun H4 c b4 hJ4 c0 c20 => ⟨_, _, rfl, rfl, by show 2 ≤ sizeLine; decide, fun l nl => ?_⟩⟩
      have lp : l ≠ p := hJ4.ne nl
      refine ⟨_, rfl, p, 2, 1, rfl, hJ4.far lp, by omega, by decide, lt3000 (by decide), fun H5 r5 b5 hJ5 r50 r52 => ?_⟩
      obtain ⟨n, eA, n10, n30⟩ : ∃ n : Nat, atI [V.int 30, V.int (10 + c)] r5 = some (V.int n) ∧ 10 ≤ n ∧ n ≤ 30 := by
        have e : r5 = 0 ∨ r5 = 1 := by omega
        rcases e with rfl | rfl
        · exact ⟨30, rfl, by decide, by decide⟩
        · refine ⟨(10 + c).toNat, ?_, by omega, by omega⟩
          show some (V.int (10 + c)) = _
          rw [Int.toNat_of_nonneg (by omega)]
      refine ⟨l, _, _, _, rfl, rfl, .inl (.inl ((b5 l lp).trans upd_same)), eA, ?_⟩
      have k5 : Kp p H2 H5 := (b4.kp.trans (kp_new nl)).trans b5.kp
      refine ⟨_, rfl, _, rfl, p, n, 12, 2, rfl, hJ5, by omega, by omega, by omega, by decide, by decide, fun H6 fa fam k6 nfa hF hfam hlen hJ6 => ?_⟩
      have s6 : Same H H6 := kp_old np0 (s1.trans s2) (k5.trans k6)
      obtain ⟨hS, hN, hB⟩ := fam_ok (n := n) hfam hlen (by omega) (by omega) (by omega) (show 1 ≤ n by omega) (Nat.le_refl _)
      refine ⟨_, rfl, _, rfl, fa, fam, n, n, rfl, hF, hfam.pat, by omega, by omega, fun H8 g rows s8 ngg nr G => ?_⟩
      refine ⟨_, rfl, g, n, _, rfl, ⟨⟨rows, G⟩, hS⟩, hN, hB, fun H9 s9 => ⟨_, rfl, iteN0 rfl ?_⟩⟩
      unfold tNext
      dsimp only
      show tAndV _ _ _ _ _
      show tOp _ _ _ _ _ _
      show tCall spOnce _ _ _ _ _ _
      show tCons _ _ _ _ _
      show tLst (glits [[3], [3, 4], [2, 4, 4]]) _ _ _
      refine litG (nss := [[3], [3, 4], [2, 4, 4]]) (by decide) (by decide) fun H10 g1 r1 s10 ng1 nr1 G1 => ?_
      refine ⟨g1, 3, _, rfl, ⟨⟨r1, G1⟩, sA⟩, nA, fun H11 x s11 hx => ?_⟩
      rw [oA] at hx
      refine ⟨by show 2 ≤ sizeLine; decide, fun T nT => ?_⟩
      refine ⟨twoD (0, 1), twoD (0, 1), (hx.same (same_new nT)).dp, two_dp (p := (0, 1)) upd_same, (twoD_shp _).shaped (by decide), (twoD_shp _).shaped (by decide), _, rfl, ?_⟩
      rw [if_pos (eqv_same _ (twoD_shp (0, 1)).1)]
      show tCall spOnce _ _ _ _ _ _
      show tCons _ _ _ _ _
      show tLst (glits [[5]]) _ _ _
      refine litG (nss := [[5]]) (by decide) (by decide) fun H12 g2 r2 s12 ng2 nr2 G2 => ?_
      refine ⟨g2, 1, _, rfl, ⟨⟨r2, G2⟩, sB⟩, nB, fun H13 y s13 hy => ?_⟩
      rw [oB'] at hy
      refine ⟨by show 2 ≤ sizeLine; decide, fun T2 nT2 => ?_⟩
      refine ⟨twoD (5, 5), twoD (5, 5), (hy.same (same_new nT2)).dp, two_dp (p := (5, 5)) upd_same, (twoD_shp _).shaped (by decide), (twoD_shp _).shaped (by decide), ?_⟩
      rw [eqv_same _ (twoD_shp (5, 5)).1]
      exact q _
end
end K21

set_option maxHeartbeats 0
namespace K21
open PySem PySem.Spec PyProof.Rows L2 Fa
def mkD (x : Str) (st : Stmt) : He.DefD := ⟨(x, none), x, x, defArgs st, defBody st, defScope st, [], []⟩
def fn : List He.DefD := ([mkD "is_integer" s_is_integer, mkD "is_between" s_is_between, mkD "is_row" s_is_row, mkD "is_sheet" s_is_sheet, mkD "is_pattern" s_is_pattern, mkD "is_group" s_is_group, mkD "is_family_below" s_is_family_below, mkD "check_sheet" s_check_sheet, mkD "check_family" s_check_family, mkD "check_pattern" s_check_pattern, mkD "check_count" s_check_count, mkD "check_width" s_check_width, mkD "sheet_of" s_sheet_of, mkD "_count_by_latest" s__count_by_latest, mkD "_running_sums" s__running_sums, mkD "told_number" s_told_number, mkD "gap_between" s_gap_between, mkD "away_from" s_away_from, mkD "end_of_away" s_end_of_away, mkD "fresh_on" s_fresh_on] : List He.DefD) ++ ([mkD "start_of_fresh" s_start_of_fresh, mkD "_told_pairs" s__told_pairs, mkD "numbers_in" s_numbers_in, mkD "check_possible" s_check_possible, mkD "conflicts_in" s_conflicts_in, mkD "has_sheet" s_has_sheet, mkD "new_on" s_new_on, mkD "gone_from" s_gone_from, mkD "pattern_range" s_pattern_range, mkD "once_range" s_once_range, mkD "daily_range" s_daily_range, mkD "_range_of" s__range_of, mkD "_steps" s__steps, mkD "_is_joined" s__is_joined, mkD "_most_between" s__most_between, mkD "_least_of" s__least_of, mkD "_law_jar" s__law_jar, mkD "_law_dip" s__law_dip, mkD "_law_many" s__law_many, mkD "_law_days" s__law_days] : List He.DefD) ++ ([mkD "_law_family" s__law_family, mkD "_law_sheet" s__law_sheet, mkD "_law_u" s__law_u, mkD "_law_gap" s__law_gap, mkD "_law_away" s__law_away, mkD "_law_fresh" s__law_fresh, mkD "_law_built" s__law_built, mkD "_law_right" s__law_right, mkD "law" s_law] : List He.DefD)
def gls : List Str := ((["is_integer", "is_between", "is_row", "is_sheet", "is_pattern", "is_group", "is_family_below", "check_sheet", "check_family", "check_pattern", "check_count", "check_width", "sheet_of", "_count_by_latest", "_running_sums", "told_number", "gap_between", "away_from", "end_of_away", "fresh_on"] : List Str) ++ (["start_of_fresh", "_told_pairs", "numbers_in", "check_possible", "conflicts_in", "has_sheet", "new_on", "gone_from", "pattern_range", "once_range", "daily_range", "_range_of", "_steps", "_is_joined", "_most_between", "_least_of", "_law_jar", "_law_dip", "_law_many", "_law_days"] : List Str) ++ (["_law_family", "_law_sheet", "_law_u", "_law_gap", "_law_away", "_law_fresh", "_law_built", "_law_right", "law"] : List Str))
def fre : List Str := ["abs", "all", "any", "enumerate", "int", "len", "list", "max", "min", "range", "repr", "sorted", "sum", "tuple", "type", "zip"]
def fa : List He.Fa := gls.map .glo ++ ([.int "MOST_DAYS" 30, .int "MOST_GROUPS" 2000] ++ fre.map .free)
def exB (_ : PySem.W.Frag) : Bool := true
abbrev R : PySem.W.OpenRow := PySem.W.OpenLaw.row PySem.Challenge.rw_facesagain_k21_once_and_daily
def loo : List Str := ((["FaceError", "InvalidSheet", "InvalidFamily", "InvalidPattern", "InvalidCount", "InvalidWidth", "NotFull", "Impossible", "MOST_DAYS", "MOST_GROUPS", "is_integer", "is_between", "is_row", "is_sheet", "is_pattern", "is_group", "is_family_below", "check_sheet", "check_family", "check_pattern"] : List Str) ++ (["check_count", "check_width", "sheet_of", "_count_by_latest", "_running_sums", "told_number", "gap_between", "away_from", "end_of_away", "fresh_on", "start_of_fresh", "_told_pairs", "numbers_in", "check_possible", "conflicts_in", "has_sheet", "new_on", "gone_from", "pattern_range", "once_range"] : List Str) ++ (["daily_range", "_range_of", "_steps", "_is_joined", "_most_between", "_least_of", "_law_jar", "_law_dip", "_law_many", "_law_days", "_law_family", "_law_unlike", "_law_sheet", "_law_u", "_law_gap", "_law_away", "_law_fresh", "_law_bars", "_law_built", "_law_right"] : List Str))
abbrev hk : PySem.W.Hook := He.hookX 6 fa fn [] [] exB
def ob (s : PySem.W.SharedT) : He.AlX := He.obsX 6 fa fn [] [] exB (HandSHeadRun.getT s)
theorem ob_eq (s : PySem.W.SharedT) : ob s = hk.obs s.abs := He.obsX_eq (HandSHeadRun.getT_eq s)
theorem run (w : World) : HandSHeadRun.RunEq R (PySem.W.view R.prog [68]) hk ob 4000 loo w := by
  intro os
  kernel_rfl
end K21

set_option maxHeartbeats 0
namespace K21
open PySem PySem.Spec PyProof.Rows L2 Fa
theorem facts {P : Program} {w : World} {K : PySem.W.Frag} {h : Heap} {mg : Str → Option Value} {f : Addr} (X : K.In h) (G : h.Ns mainGlobals mg) (hfa : mg ("law" : Str) = some (.ref f)) (cx : He.SaysX fa fn [] [] exB w h K) :
    ∃ fd : FuncData, (∀ (s : Shared) (v : Value), BindsTo s fd ⟨[v], []⟩ [("script", v)]) ∧ ∀ base : Heap, K.In base → base.Ns mainGlobals mg → FnG P w K mg base 10 f fd ["script"] (spLaw K) := by
  have c := cx.t.d
  have gl : ∀ x, x ∈ gls → mg x = some (.ref (He.ga K x)) := fun x hx => He.glo_ok X G (c.facts (List.mem_append_left _ (List.mem_map.mpr ⟨x, hx, rfl⟩)))
  have fr : ∀ x, x ∈ fre → mg x = none := fun x hx => He.free_ok X G (c.facts (List.mem_append_right _ (List.mem_append_right _ (List.mem_map.mpr ⟨x, hx, rfl⟩))))
  obtain ⟨_, g_MOST_DAYS⟩ := He.int_ok X G (x := "MOST_DAYS") (i := 30) (c.facts (List.mem_append_right _ (List.mem_append_left _ List.mem_cons_self)))
  obtain ⟨_, g_MOST_GROUPS⟩ := He.int_ok X G (x := "MOST_GROUPS") (i := 2000) (c.facts (List.mem_append_right _ (List.mem_append_left _ (List.mem_cons_of_mem _ List.mem_cons_self))))
  obtain ⟨d0, F0⟩ := c.def_ 0 rfl
  obtain ⟨d1, F1⟩ := c.def_ 1 rfl
  obtain ⟨d2, F2⟩ := c.def_ 2 rfl
  obtain ⟨d3, F3⟩ := c.def_ 3 rfl
  obtain ⟨d4, F4⟩ := c.def_ 4 rfl
  obtain ⟨d5, F5⟩ := c.def_ 5 rfl
  obtain ⟨d6, F6⟩ := c.def_ 6 rfl
  obtain ⟨d7, F7⟩ := c.def_ 7 rfl
  obtain ⟨d8, F8⟩ := c.def_ 8 rfl
  obtain ⟨d9, F9⟩ := c.def_ 9 rfl
  obtain ⟨d10, F10⟩ := c.def_ 10 rfl
  obtain ⟨d11, F11⟩ := c.def_ 11 rfl
  obtain ⟨d12, F12⟩ := c.def_ 12 rfl
  obtain ⟨d13, F13⟩ := c.def_ 13 rfl
  obtain ⟨d14, F14⟩ := c.def_ 14 rfl
  obtain ⟨d15, F15⟩ := c.def_ 15 rfl
  obtain ⟨d16, F16⟩ := c.def_ 16 rfl
  obtain ⟨d17, F17⟩ := c.def_ 17 rfl
  obtain ⟨d18, F18⟩ := c.def_ 18 rfl
  obtain ⟨d19, F19⟩ := c.def_ 19 rfl
  obtain ⟨d20, F20⟩ := c.def_ 20 rfl
  obtain ⟨d21, F21⟩ := c.def_ 21 rfl
  obtain ⟨d22, F22⟩ := c.def_ 22 rfl
  obtain ⟨d23, F23⟩ := c.def_ 23 rfl
  obtain ⟨d24, F24⟩ := c.def_ 24 rfl
  obtain ⟨d25, F25⟩ := c.def_ 25 rfl
  obtain ⟨d26, F26⟩ := c.def_ 26 rfl
  obtain ⟨d27, F27⟩ := c.def_ 27 rfl
  obtain ⟨d28, F28⟩ := c.def_ 28 rfl
  obtain ⟨d29, F29⟩ := c.def_ 29 rfl
  obtain ⟨d30, F30⟩ := c.def_ 30 rfl
  obtain ⟨d31, F31⟩ := c.def_ 31 rfl
  obtain ⟨d32, F32⟩ := c.def_ 32 rfl
  obtain ⟨d33, F33⟩ := c.def_ 33 rfl
  obtain ⟨d34, F34⟩ := c.def_ 34 rfl
  obtain ⟨d35, F35⟩ := c.def_ 35 rfl
  obtain ⟨d36, F36⟩ := c.def_ 36 rfl
  obtain ⟨d37, F37⟩ := c.def_ 37 rfl
  obtain ⟨d38, F38⟩ := c.def_ 38 rfl
  obtain ⟨d39, F39⟩ := c.def_ 39 rfl
  obtain ⟨d40, F40⟩ := c.def_ 40 rfl
  obtain ⟨d41, F41⟩ := c.def_ 41 rfl
  obtain ⟨d42, F42⟩ := c.def_ 42 rfl
  obtain ⟨d43, F43⟩ := c.def_ 43 rfl
  obtain ⟨d44, F44⟩ := c.def_ 44 rfl
  obtain ⟨d45, F45⟩ := c.def_ 45 rfl
  obtain ⟨d46, F46⟩ := c.def_ 46 rfl
  obtain ⟨d47, F47⟩ := c.def_ 47 rfl
  obtain ⟨d48, F48⟩ := c.def_ 48 rfl
  have e := hfa.symm.trans (gl "law" (by decide))
  cases e
  have b := FunD.bindsA (ps := ["script"]) F48 fun _ _ _ _ _ _ us hl => match us, hl with | [_], _ => rfl
  have T0 : Fun K "is_integer" "is_integer" s_is_integer _ d0 := fun_of F0
  have T1 : Fun K "is_between" "is_between" s_is_between _ d1 := fun_of F1
  have T2 : Fun K "is_row" "is_row" s_is_row _ d2 := fun_of F2
  have T3 : Fun K "is_sheet" "is_sheet" s_is_sheet _ d3 := fun_of F3
  have T4 : Fun K "is_pattern" "is_pattern" s_is_pattern _ d4 := fun_of F4
  have T5 : Fun K "is_group" "is_group" s_is_group _ d5 := fun_of F5
  have T6 : Fun K "is_family_below" "is_family_below" s_is_family_below _ d6 := fun_of F6
  have T7 : Fun K "check_sheet" "check_sheet" s_check_sheet _ d7 := fun_of F7
  have T8 : Fun K "check_family" "check_family" s_check_family _ d8 := fun_of F8
  have T9 : Fun K "check_pattern" "check_pattern" s_check_pattern _ d9 := fun_of F9
  have T10 : Fun K "check_count" "check_count" s_check_count _ d10 := fun_of F10
  have T11 : Fun K "check_width" "check_width" s_check_width _ d11 := fun_of F11
  have T12 : Fun K "sheet_of" "sheet_of" s_sheet_of _ d12 := fun_of F12
  have T13 : Fun K "_count_by_latest" "_count_by_latest" s__count_by_latest _ d13 := fun_of F13
  have T14 : Fun K "_running_sums" "_running_sums" s__running_sums _ d14 := fun_of F14
  have T15 : Fun K "told_number" "told_number" s_told_number _ d15 := fun_of F15
  have T16 : Fun K "gap_between" "gap_between" s_gap_between _ d16 := fun_of F16
  have T17 : Fun K "away_from" "away_from" s_away_from _ d17 := fun_of F17
  have T18 : Fun K "end_of_away" "end_of_away" s_end_of_away _ d18 := fun_of F18
  have T19 : Fun K "fresh_on" "fresh_on" s_fresh_on _ d19 := fun_of F19
  have T20 : Fun K "start_of_fresh" "start_of_fresh" s_start_of_fresh _ d20 := fun_of F20
  have T21 : Fun K "_told_pairs" "_told_pairs" s__told_pairs _ d21 := fun_of F21
  have T22 : Fun K "numbers_in" "numbers_in" s_numbers_in _ d22 := fun_of F22
  have T23 : Fun K "check_possible" "check_possible" s_check_possible _ d23 := fun_of F23
  have T24 : Fun K "conflicts_in" "conflicts_in" s_conflicts_in _ d24 := fun_of F24
  have T25 : Fun K "has_sheet" "has_sheet" s_has_sheet _ d25 := fun_of F25
  have T26 : Fun K "new_on" "new_on" s_new_on _ d26 := fun_of F26
  have T27 : Fun K "gone_from" "gone_from" s_gone_from _ d27 := fun_of F27
  have T28 : Fun K "pattern_range" "pattern_range" s_pattern_range _ d28 := fun_of F28
  have T29 : Fun K "once_range" "once_range" s_once_range _ d29 := fun_of F29
  have T30 : Fun K "daily_range" "daily_range" s_daily_range _ d30 := fun_of F30
  have T31 : Fun K "_range_of" "_range_of" s__range_of _ d31 := fun_of F31
  have T32 : Fun K "_steps" "_steps" s__steps _ d32 := fun_of F32
  have T33 : Fun K "_is_joined" "_is_joined" s__is_joined _ d33 := fun_of F33
  have T34 : Fun K "_most_between" "_most_between" s__most_between _ d34 := fun_of F34
  have T35 : Fun K "_least_of" "_least_of" s__least_of _ d35 := fun_of F35
  have T36 : Fun K "_law_jar" "_law_jar" s__law_jar _ d36 := fun_of F36
  have T37 : Fun K "_law_dip" "_law_dip" s__law_dip _ d37 := fun_of F37
  have T38 : Fun K "_law_many" "_law_many" s__law_many _ d38 := fun_of F38
  have T39 : Fun K "_law_days" "_law_days" s__law_days _ d39 := fun_of F39
  have T40 : Fun K "_law_family" "_law_family" s__law_family _ d40 := fun_of F40
  have T41 : Fun K "_law_sheet" "_law_sheet" s__law_sheet _ d41 := fun_of F41
  have T42 : Fun K "_law_u" "_law_u" s__law_u _ d42 := fun_of F42
  have T43 : Fun K "_law_gap" "_law_gap" s__law_gap _ d43 := fun_of F43
  have T44 : Fun K "_law_away" "_law_away" s__law_away _ d44 := fun_of F44
  have T45 : Fun K "_law_fresh" "_law_fresh" s__law_fresh _ d45 := fun_of F45
  have T46 : Fun K "_law_built" "_law_built" s__law_built _ d46 := fun_of F46
  have T47 : Fun K "_law_right" "_law_right" s__law_right _ d47 := fun_of F47
  have T48 : Fun K "law" "law" s_law _ d48 := fun_of F48
  have b0 := T0.binds (ps := ["thing"]) fun _ _ _ _ _ _ us hl => match us, hl with | [_], _ => rfl
  have b1 := T1.binds (ps := ["thing", "least", "most"]) fun _ _ _ _ _ _ us hl => match us, hl with | [_, _, _], _ => rfl
  have b2 := T2.binds (ps := ["thing", "length"]) fun _ _ _ _ _ _ us hl => match us, hl with | [_, _], _ => rfl
  have b3 := T3.binds (ps := ["thing"]) fun _ _ _ _ _ _ us hl => match us, hl with | [_], _ => rfl
  have b4 := T4.binds (ps := ["thing", "count"]) fun _ _ _ _ _ _ us hl => match us, hl with | [_, _], _ => rfl
  have b5 := T5.binds (ps := ["thing", "count"]) fun _ _ _ _ _ _ us hl => match us, hl with | [_, _], _ => rfl
  have b6 := T6.binds (ps := ["thing", "count"]) fun _ _ _ _ _ _ us hl => match us, hl with | [_, _], _ => rfl
  have b7 := T7.binds (ps := ["sheet"]) fun _ _ _ _ _ _ us hl => match us, hl with | [_], _ => rfl
  have b8 := T8.binds (ps := ["family", "count"]) fun _ _ _ _ _ _ us hl => match us, hl with | [_, _], _ => rfl
  have b9 := T9.binds (ps := ["sheet", "pattern"]) fun _ _ _ _ _ _ us hl => match us, hl with | [_, _], _ => rfl
  have b10 := T10.binds (ps := ["count"]) fun _ _ _ _ _ _ us hl => match us, hl with | [_], _ => rfl
  have b11 := T11.binds (ps := ["width", "most"]) fun _ _ _ _ _ _ us hl => match us, hl with | [_, _], _ => rfl
  have b12 := T12.binds (ps := ["family", "count", "width"]) fun _ _ _ _ _ _ us hl => match us, hl with | [_, _, _], _ => rfl
  have b13 := T13.binds (ps := ["by_latest", "pattern", "many"]) fun _ _ _ _ _ _ us hl => match us, hl with | [_, _, _], _ => rfl
  have b14 := T14.binds (ps := ["row"]) fun _ _ _ _ _ _ us hl => match us, hl with | [_], _ => rfl
  have b15 := T15.binds (ps := ["sheet", "first", "last"]) fun _ _ _ _ _ _ us hl => match us, hl with | [_, _, _], _ => rfl
  have b16 := T16.binds (ps := ["sheet", "first", "second"]) fun _ _ _ _ _ _ us hl => match us, hl with | [_, _, _], _ => rfl
  have b17 := T17.binds (ps := ["sheet", "day"]) fun _ _ _ _ _ _ us hl => match us, hl with | [_, _], _ => rfl
  have b18 := T18.binds (ps := ["sheet", "day"]) fun _ _ _ _ _ _ us hl => match us, hl with | [_, _], _ => rfl
  have b19 := T19.binds (ps := ["sheet", "day"]) fun _ _ _ _ _ _ us hl => match us, hl with | [_, _], _ => rfl
  have b20 := T20.binds (ps := ["sheet", "day"]) fun _ _ _ _ _ _ us hl => match us, hl with | [_, _], _ => rfl
  have b21 := T21.binds (ps := ["sheet"]) fun _ _ _ _ _ _ us hl => match us, hl with | [_], _ => rfl
  have b22 := T22.binds (ps := ["sheet"]) fun _ _ _ _ _ _ us hl => match us, hl with | [_], _ => rfl
  have b23 := T23.binds (ps := ["sheet"]) fun _ _ _ _ _ _ us hl => match us, hl with | [_], _ => rfl
  have b24 := T24.binds (ps := ["sheet"]) fun _ _ _ _ _ _ us hl => match us, hl with | [_], _ => rfl
  have b25 := T25.binds (ps := ["sheet", "thing"]) fun _ _ _ _ _ _ us hl => match us, hl with | [_, _], _ => rfl
  have b26 := T26.binds (ps := ["sheet", "day"]) fun _ _ _ _ _ _ us hl => match us, hl with | [_, _], _ => rfl
  have b27 := T27.binds (ps := ["sheet", "day"]) fun _ _ _ _ _ _ us hl => match us, hl with | [_, _], _ => rfl
  have b28 := T28.binds (ps := ["sheet", "pattern"]) fun _ _ _ _ _ _ us hl => match us, hl with | [_, _], _ => rfl
  have b29 := T29.binds (ps := ["sheet"]) fun _ _ _ _ _ _ us hl => match us, hl with | [_], _ => rfl
  have b30 := T30.binds (ps := ["sheet"]) fun _ _ _ _ _ _ us hl => match us, hl with | [_], _ => rfl
  have b31 := T31.binds (ps := ["sheet", "pattern"]) fun _ _ _ _ _ _ us hl => match us, hl with | [_, _], _ => rfl
  have b32 := T32.binds (ps := ["pattern"]) fun _ _ _ _ _ _ us hl => match us, hl with | [_], _ => rfl
  have b33 := T33.binds (ps := ["sheet", "pattern"]) fun _ _ _ _ _ _ us hl => match us, hl with | [_, _], _ => rfl
  have b34 := T34.binds (ps := ["sheet", "first", "second"]) fun _ _ _ _ _ _ us hl => match us, hl with | [_, _, _], _ => rfl
  have b35 := T35.binds (ps := ["sheet", "pattern"]) fun _ _ _ _ _ _ us hl => match us, hl with | [_, _], _ => rfl
  have b36 := T36.binds (ps := ["script", "k"]) fun _ _ _ _ _ _ us hl => match us, hl with | [_, _], _ => rfl
  have b37 := T37.binds (ps := ["jar", "many"]) fun _ _ _ _ _ _ us hl => match us, hl with | [_, _], _ => rfl
  have b38 := T38.binds (ps := ["jar"]) fun _ _ _ _ _ _ us hl => match us, hl with | [_], _ => rfl
  have b39 := T39.binds (ps := ["jar", "count_here"]) fun _ _ _ _ _ _ us hl => match us, hl with | [_, _], _ => rfl
  have b40 := T40.binds (ps := ["jar", "count_here", "size"]) fun _ _ _ _ _ _ us hl => match us, hl with | [_, _, _], _ => rfl
  have b41 := T41.binds (ps := ["some", "count_here", "wide"]) fun _ _ _ _ _ _ us hl => match us, hl with | [_, _, _], _ => rfl
  have b42 := T42.binds (ps := ["sheet_here", "begin", "end"]) fun _ _ _ _ _ _ us hl => match us, hl with | [_, _, _], _ => rfl
  have b43 := T43.binds (ps := ["sheet_here", "one", "two"]) fun _ _ _ _ _ _ us hl => match us, hl with | [_, _, _], _ => rfl
  have b44 := T44.binds (ps := ["sheet_here", "one"]) fun _ _ _ _ _ _ us hl => match us, hl with | [_, _], _ => rfl
  have b45 := T45.binds (ps := ["sheet_here", "two"]) fun _ _ _ _ _ _ us hl => match us, hl with | [_, _], _ => rfl
  have b46 := T46.binds (ps := ["sheet_here", "is_many"]) fun _ _ _ _ _ _ us hl => match us, hl with | [_, _], _ => rfl
  have b47 := T47.binds (ps := ["sheet_here", "count_here"]) fun _ _ _ _ _ _ us hl => match us, hl with | [_, _], _ => rfl
  have m_abs := fr "abs" (by decide)
  have m_all := fr "all" (by decide)
  have m_any := fr "any" (by decide)
  have m_enumerate := fr "enumerate" (by decide)
  have m_int := fr "int" (by decide)
  have m_len := fr "len" (by decide)
  have m_list := fr "list" (by decide)
  have m_max := fr "max" (by decide)
  have m_min := fr "min" (by decide)
  have m_range := fr "range" (by decide)
  have m_repr := fr "repr" (by decide)
  have m_sorted := fr "sorted" (by decide)
  have m_sum := fr "sum" (by decide)
  have m_tuple := fr "tuple" (by decide)
  have m_type := fr "type" (by decide)
  have m_zip := fr "zip" (by decide)
  have g0 := gl "is_integer" (by decide)
  have g1 := gl "is_between" (by decide)
  have g2 := gl "is_row" (by decide)
  have g3 := gl "is_sheet" (by decide)
  have g4 := gl "is_pattern" (by decide)
  have g5 := gl "is_group" (by decide)
  have g6 := gl "is_family_below" (by decide)
  have g7 := gl "check_sheet" (by decide)
  have g8 := gl "check_family" (by decide)
  have g9 := gl "check_pattern" (by decide)
  have g10 := gl "check_count" (by decide)
  have g11 := gl "check_width" (by decide)
  have g12 := gl "sheet_of" (by decide)
  have g13 := gl "_count_by_latest" (by decide)
  have g14 := gl "_running_sums" (by decide)
  have g15 := gl "told_number" (by decide)
  have g16 := gl "gap_between" (by decide)
  have g17 := gl "away_from" (by decide)
  have g18 := gl "end_of_away" (by decide)
  have g19 := gl "fresh_on" (by decide)
  have g20 := gl "start_of_fresh" (by decide)
  have g21 := gl "_told_pairs" (by decide)
  have g22 := gl "numbers_in" (by decide)
  have g23 := gl "check_possible" (by decide)
  have g24 := gl "conflicts_in" (by decide)
  have g25 := gl "has_sheet" (by decide)
  have g26 := gl "new_on" (by decide)
  have g27 := gl "gone_from" (by decide)
  have g28 := gl "pattern_range" (by decide)
  have g29 := gl "once_range" (by decide)
  have g30 := gl "daily_range" (by decide)
  have g31 := gl "_range_of" (by decide)
  have g32 := gl "_steps" (by decide)
  have g33 := gl "_is_joined" (by decide)
  have g34 := gl "_most_between" (by decide)
  have g35 := gl "_least_of" (by decide)
  have g36 := gl "_law_jar" (by decide)
  have g37 := gl "_law_dip" (by decide)
  have g38 := gl "_law_many" (by decide)
  have g39 := gl "_law_days" (by decide)
  have g40 := gl "_law_family" (by decide)
  have g41 := gl "_law_sheet" (by decide)
  have g42 := gl "_law_u" (by decide)
  have g43 := gl "_law_gap" (by decide)
  have g44 := gl "_law_away" (by decide)
  have g45 := gl "_law_fresh" (by decide)
  have g46 := gl "_law_built" (by decide)
  have g47 := gl "_law_right" (by decide)
  refine ⟨d48, fun s v => b s [v] rfl, fun base _ _ => ?_⟩
  have G37 : FnOk P w K mg base CX0 1 _ d37 ["jar", "many"] spDip := ok_dip (k := 0) (F := T37)  (m_int := m_int)
  have G36 : FnOk P w K mg base CX0 1 _ d36 ["script", "k"] (spJar K) := ok_jar (k := 0) (F := T36)  (m_int := m_int) (m_abs := m_abs) (m_len := m_len) (m_max := m_max)
  have G39 : FnOk P w K mg base CX0 2 _ d39 ["jar", "count_here"] spDays := ok_days (k := 1) (F := T39) (F__law_dip := T37) (G__law_dip := G37.mono (by decide)) (b__law_dip := b37) (g__law_dip := g37) (m_tuple := m_tuple) (m_range := m_range)
  have G38 : FnOk P w K mg base CX0 2 _ d38 ["jar"] spMany := ok_many (k := 1) (F := T38) (F__law_dip := T37) (G__law_dip := G37.mono (by decide)) (b__law_dip := b37) (g__law_dip := g37) 
  have G40 : FnOk P w K mg base CX0 3 _ d40 ["jar", "count_here", "size"] spFamily := ok_family (k := 2) (F := T40) (F__law_days := T39) (G__law_days := G39.mono (by decide)) (b__law_days := b39) (g__law_days := g39) (F__law_many := T38) (G__law_many := G38.mono (by decide)) (b__law_many := b38) (g__law_many := g38) (m_range := m_range) (m_sorted := m_sorted)
  have G41 : FnOk P w K mg base CX0 1 _ d41 ["some", "count_here", "wide"] spShe := ok_she (k := 0) (F := T41)  (m_range := m_range) (m_zip := m_zip) (m_len := m_len)
  have G0 : FnOk P w K mg base CX0 1 _ d0 ["thing"] spIsInt := ok_isint (k := 0) (F := T0)  (m_type := m_type) (m_int := m_int)
  have G2 : FnOk P w K mg base CX0 2 _ d2 ["thing", "length"] spRow := ok_row (k := 1) (F := T2) (F_is_integer := T0) (G_is_integer := G0.mono (by decide)) (b_is_integer := b0) (g_is_integer := g0) (m_type := m_type) (m_list := m_list) (m_len := m_len) (m_all := m_all)
  have G3 : FnOk P w K mg base CX0 3 _ d3 ["thing"] spIsSh := ok_issh (k := 2) (F := T3) (F_is_row := T2) (G_is_row := G2.mono (by decide)) (b_is_row := b2) (g_is_row := g2) (g_MOST_DAYS := g_MOST_DAYS) (m_type := m_type) (m_list := m_list) (m_len := m_len) (m_all := m_all) (m_min := m_min) (m_enumerate := m_enumerate)
  have G7 : FnOk P w K mg base CX0 4 _ d7 ["sheet"] spCkSh := ok_cksh (k := 3) (F := T7) (F_is_sheet := T3) (G_is_sheet := G3.mono (by decide)) (b_is_sheet := b3) (g_is_sheet := g3) 
  have G15 : FnOk P w K mg base CX0 1 _ d15 ["sheet", "first", "last"] spU := ok_toldU (k := 0) (F := T15)  
  have G16 : FnOk P w K mg base CX0 2 _ d16 ["sheet", "first", "second"] spGapB := ok_gapb (k := 1) (F := T16) (F_told_number := T15) (G_told_number := G15.mono (by decide)) (b_told_number := b15) (g_told_number := g15) 
  have G21 : FnOk P w K mg base CX0 1 _ d21 ["sheet"] spPairs := ok_pairs (k := 0) (F := T21)  (m_len := m_len) (m_min := m_min) (m_range := m_range)
  have G18 : FnOk P w K mg base CX0 1 _ d18 ["sheet", "day"] spEndA := ok_enda (k := 0) (F := T18)  (m_len := m_len) (m_min := m_min)
  have G17 : FnOk P w K mg base CX0 2 _ d17 ["sheet", "day"] spAwF := ok_awf (k := 1) (F := T17) (F_end_of_away := T18) (G_end_of_away := G18.mono (by decide)) (b_end_of_away := b18) (g_end_of_away := g18) (F_told_number := T15) (G_told_number := G15.mono (by decide)) (b_told_number := b15) (g_told_number := g15) 
  have G20 : FnOk P w K mg base CX0 1 _ d20 ["sheet", "day"] spStF := ok_stf (k := 0) (F := T20)  (m_len := m_len) (m_max := m_max)
  have G19 : FnOk P w K mg base CX0 2 _ d19 ["sheet", "day"] spFrO := ok_fro (k := 1) (F := T19) (F_start_of_fresh := T20) (G_start_of_fresh := G20.mono (by decide)) (b_start_of_fresh := b20) (g_start_of_fresh := g20) (F_told_number := T15) (G_told_number := G15.mono (by decide)) (b_told_number := b15) (g_told_number := g15) 
  have G22 : FnOk P w K mg base CX0 3 _ d22 ["sheet"] spNums := ok_nums (k := 2) (F := T22) (F_gap_between := T16) (G_gap_between := G16.mono (by decide)) (b_gap_between := b16) (g_gap_between := g16) (F__told_pairs := T21) (G__told_pairs := G21.mono (by decide)) (b__told_pairs := b21) (g__told_pairs := g21) (F_away_from := T17) (G_away_from := G17.mono (by decide)) (b_away_from := b17) (g_away_from := g17) (F_fresh_on := T19) (G_fresh_on := G19.mono (by decide)) (b_fresh_on := b19) (g_fresh_on := g19) (F_end_of_away := T18) (G_end_of_away := G18.mono (by decide)) (b_end_of_away := b18) (g_end_of_away := g18) (F_start_of_fresh := T20) (G_start_of_fresh := G20.mono (by decide)) (b_start_of_fresh := b20) (g_start_of_fresh := g20) (m_len := m_len) (m_range := m_range)
  have G24 : FnOk P w K mg base CX0 4 _ d24 ["sheet"] spConf := ok_conf (k := 3) (F := T24) (F_numbers_in := T22) (G_numbers_in := G22.mono (by decide)) (b_numbers_in := b22) (g_numbers_in := g22) (m_sorted := m_sorted)
  have G23 : FnOk P w K mg base CX0 5 _ d23 ["sheet"] spPoss := ok_poss (k := 4) (F := T23) (F_conflicts_in := T24) (G_conflicts_in := G24.mono (by decide)) (b_conflicts_in := b24) (g_conflicts_in := g24) (m_len := m_len)
  have G34 : FnOk P w K mg base CX0 3 _ d34 ["sheet", "first", "second"] spMstB := ok_mstb (k := 2) (F := T34) (F_gap_between := T16) (G_gap_between := G16.mono (by decide)) (b_gap_between := b16) (g_gap_between := g16) (F_away_from := T17) (G_away_from := G17.mono (by decide)) (b_away_from := b17) (g_away_from := g17) (F_fresh_on := T19) (G_fresh_on := G19.mono (by decide)) (b_fresh_on := b19) (g_fresh_on := g19) (m_len := m_len) (m_min := m_min)
  have G32 : FnOk P w K mg base CX0 1 _ d32 ["pattern"] spSteps := ok_steps (k := 0) (F := T32)  (m_list := m_list) (m_zip := m_zip)
  have G33 : FnOk P w K mg base CX0 2 _ d33 ["sheet", "pattern"] spJn := ok_jn (k := 1) (F := T33) (F__steps := T32) (G__steps := G32.mono (by decide)) (b__steps := b32) (g__steps := g32) (m_any := m_any) (m_len := m_len)
  have G26 : FnOk P w K mg base CX0 3 _ d26 ["sheet", "day"] spNewOn := ok_newon (k := 2) (F := T26) (F_away_from := T17) (G_away_from := G17.mono (by decide)) (b_away_from := b17) (g_away_from := g17) (F_fresh_on := T19) (G_fresh_on := G19.mono (by decide)) (b_fresh_on := b19) (g_fresh_on := g19) (m_len := m_len) (m_range := m_range) (m_sum := m_sum) (m_max := m_max)
  have G27 : FnOk P w K mg base CX0 3 _ d27 ["sheet", "day"] spGoneF := ok_gonef (k := 2) (F := T27) (F_away_from := T17) (G_away_from := G17.mono (by decide)) (b_away_from := b17) (g_away_from := g17) (F_fresh_on := T19) (G_fresh_on := G19.mono (by decide)) (b_fresh_on := b19) (g_fresh_on := g19) (m_len := m_len) (m_range := m_range) (m_sum := m_sum) (m_max := m_max)
  have G35 : FnOk P w K mg base CX0 4 _ d35 ["sheet", "pattern"] spLeast := ok_least (k := 3) (F := T35) (F__is_joined := T33) (G__is_joined := G33.mono (by decide)) (b__is_joined := b33) (g__is_joined := g33) (F_new_on := T26) (G_new_on := G26.mono (by decide)) (b_new_on := b26) (g_new_on := g26) (F_gone_from := T27) (G_gone_from := G27.mono (by decide)) (b_gone_from := b27) (g_gone_from := g27) (F__steps := T32) (G__steps := G32.mono (by decide)) (b__steps := b32) (g__steps := g32) (F_gap_between := T16) (G_gap_between := G16.mono (by decide)) (b_gap_between := b16) (g_gap_between := g16) (F_told_number := T15) (G_told_number := G15.mono (by decide)) (b_told_number := b15) (g_told_number := g15) (m_sum := m_sum) (m_max := m_max)
  have G31 : FnOk P w K mg base CX0 5 _ d31 ["sheet", "pattern"] spRangeOf := ok_rangeof (k := 4) (F := T31) (F_away_from := T17) (G_away_from := G17.mono (by decide)) (b_away_from := b17) (g_away_from := g17) (F_fresh_on := T19) (G_fresh_on := G19.mono (by decide)) (b_fresh_on := b19) (g_fresh_on := g19) (F__most_between := T34) (G__most_between := G34.mono (by decide)) (b__most_between := b34) (g__most_between := g34) (F__steps := T32) (G__steps := G32.mono (by decide)) (b__steps := b32) (g__steps := g32) (F__least_of := T35) (G__least_of := G35.mono (by decide)) (b__least_of := b35) (g__least_of := g35) (m_min := m_min)
  have G29 : FnOk P w K mg base CX0 6 _ d29 ["sheet"] spOnce := ok_once (k := 5) (F := T29) (F_check_sheet := T7) (G_check_sheet := G7.mono (by decide)) (b_check_sheet := b7) (g_check_sheet := g7) (F_check_possible := T23) (G_check_possible := G23.mono (by decide)) (b_check_possible := b23) (g_check_possible := g23) (F__range_of := T31) (G__range_of := G31.mono (by decide)) (b__range_of := b31) (g__range_of := g31) (m_len := m_len) (m_range := m_range) (m_sum := m_sum)
  have G42 : FnOk P w K mg base CX0 1 _ d42 ["sheet_here", "begin", "end"] spU := ok_lu (k := 0) (F := T42)  
  have G45 : FnOk P w K mg base CX0 2 _ d45 ["sheet_here", "two"] spFrO := ok_lfresh (k := 1) (F := T45) (F__law_u := T42) (G__law_u := G42.mono (by decide)) (b__law_u := b42) (g__law_u := g42) (m_len := m_len) (m_max := m_max)
  have G44 : FnOk P w K mg base CX0 2 _ d44 ["sheet_here", "one"] spAwF := ok_laway (k := 1) (F := T44) (F__law_u := T42) (G__law_u := G42.mono (by decide)) (b__law_u := b42) (g__law_u := g42) (m_len := m_len) (m_min := m_min)
  have G1 : FnOk P w K mg base CX0 2 _ d1 ["thing", "least", "most"] spBetw := ok_betw (k := 1) (F := T1) (F_is_integer := T0) (G_is_integer := G0.mono (by decide)) (b_is_integer := b0) (g_is_integer := g0) 
  have G4 : FnOk P w K mg base CX0 3 _ d4 ["thing", "count"] spPat := ok_pat (k := 2) (F := T4) (F_is_between := T1) (G_is_between := G1.mono (by decide)) (b_is_between := b1) (g_is_between := g1) (m_type := m_type) (m_tuple := m_tuple) (m_len := m_len) (m_all := m_all) (m_range := m_range)
  have G9 : FnOk P w K mg base CX0 4 _ d9 ["sheet", "pattern"] spCkPat := ok_ckpat (k := 3) (F := T9) (F_is_pattern := T4) (G_is_pattern := G4.mono (by decide)) (b_is_pattern := b4) (g_is_pattern := g4) (m_len := m_len)
  have G28 : FnOk P w K mg base CX0 6 _ d28 ["sheet", "pattern"] spPatR := ok_patr (k := 5) (F := T28) (F_check_sheet := T7) (G_check_sheet := G7.mono (by decide)) (b_check_sheet := b7) (g_check_sheet := g7) (F_check_pattern := T9) (G_check_pattern := G9.mono (by decide)) (b_check_pattern := b9) (g_check_pattern := g9) (F_check_possible := T23) (G_check_possible := G23.mono (by decide)) (b_check_possible := b23) (g_check_possible := g23) (F__range_of := T31) (G__range_of := G31.mono (by decide)) (b__range_of := b31) (g__range_of := g31) 
  have G43 : FnOk P w K mg base CX0 2 _ d43 ["sheet_here", "one", "two"] spGapB := ok_lgap (k := 1) (F := T43) (F__law_u := T42) (G__law_u := G42.mono (by decide)) (b__law_u := b42) (g__law_u := g42) 
  have G46 : FnOk P w K mg base CX0 3 _ d46 ["sheet_here", "is_many"] spBuilt := ok_built (k := 2) (F := T46) (F__law_gap := T43) (G__law_gap := G43.mono (by decide)) (b__law_gap := b43) (g__law_gap := g43) (F__law_away := T44) (G__law_away := G44.mono (by decide)) (b__law_away := b44) (g__law_away := g44) (F__law_fresh := T45) (G__law_fresh := G45.mono (by decide)) (b__law_fresh := b45) (g__law_fresh := g45) (m_len := m_len) (m_range := m_range) (m_min := m_min) (m_sorted := m_sorted)
  have G5 : FnOk P w K mg base CX0 4 _ d5 ["thing", "count"] spGroup := ok_group (k := 3) (F := T5) (F_is_pattern := T4) (G_is_pattern := G4.mono (by decide)) (b_is_pattern := b4) (g_is_pattern := g4) (F_is_integer := T0) (G_is_integer := G0.mono (by decide)) (b_is_integer := b0) (g_is_integer := g0) (m_type := m_type) (m_tuple := m_tuple) (m_len := m_len)
  have G6 : FnOk P w K mg base CX0 5 _ d6 ["thing", "count"] spFamB := ok_famB (k := 4) (F := T6) (F_is_group := T5) (G_is_group := G5.mono (by decide)) (b_is_group := b5) (g_is_group := g5) (g_MOST_GROUPS := g_MOST_GROUPS) (m_type := m_type) (m_list := m_list) (m_len := m_len)
  have G8 : FnOk P w K mg base CX0 6 _ d8 ["family", "count"] spCkFam := ok_ckfam (k := 5) (F := T8) (F_is_family_below := T6) (G_is_family_below := G6.mono (by decide)) (b_is_family_below := b6) (g_is_family_below := g6) 
  have G10 : FnOk P w K mg base CX0 3 _ d10 ["count"] spCkCount := ok_ckcount (k := 2) (F := T10) (F_is_between := T1) (G_is_between := G1.mono (by decide)) (b_is_between := b1) (g_is_between := g1) (g_MOST_DAYS := g_MOST_DAYS)
  have G11 : FnOk P w K mg base CX0 3 _ d11 ["width", "most"] spCkWidth := ok_ckwidth (k := 2) (F := T11) (F_is_between := T1) (G_is_between := G1.mono (by decide)) (b_is_between := b1) (g_is_between := g1) 
  have G13 : FnOk P w K mg base CX0 1 _ d13 ["by_latest", "pattern", "many"] spCbl := ok_cbl (k := 0) (F := T13)  (m_len := m_len) (m_range := m_range)
  have G14 : FnOk P w K mg base CX0 1 _ d14 ["row"] spSums := ok_sums (k := 0) (F := T14)  
  have G12 : FnOk P w K mg base CX0 7 _ d12 ["family", "count", "width"] spSheetOf := ok_sheetof (k := 6) (F := T12) (F_check_family := T8) (G_check_family := G8.mono (by decide)) (b_check_family := b8) (g_check_family := g8) (F_check_count := T10) (G_check_count := G10.mono (by decide)) (b_check_count := b10) (g_check_count := g10) (F_check_width := T11) (G_check_width := G11.mono (by decide)) (b_check_width := b11) (g_check_width := g11) (F__count_by_latest := T13) (G__count_by_latest := G13.mono (by decide)) (b__count_by_latest := b13) (g__count_by_latest := g13) (F__running_sums := T14) (G__running_sums := G14.mono (by decide)) (b__running_sums := b14) (g__running_sums := g14) (g_MOST_DAYS := g_MOST_DAYS) (m_range := m_range) (m_min := m_min)
  have G25 : FnOk P w K mg base CX0 8 _ d25 ["sheet", "thing"] spHas := ok_has (k := 7) (F := T25) (F_check_sheet := T7) (G_check_sheet := G7.mono (by decide)) (b_check_sheet := b7) (g_check_sheet := g7) (F_is_family_below := T6) (G_is_family_below := G6.mono (by decide)) (b_is_family_below := b6) (g_is_family_below := g6) (F_sheet_of := T12) (G_sheet_of := G12.mono (by decide)) (b_sheet_of := b12) (g_sheet_of := g12) (m_len := m_len)
  have G30 : FnOk P w K mg base CX0 6 _ d30 ["sheet"] spDayR := ok_dayr (k := 5) (F := T30) (F_check_sheet := T7) (G_check_sheet := G7.mono (by decide)) (b_check_sheet := b7) (g_check_sheet := g7) (F_check_possible := T23) (G_check_possible := G23.mono (by decide)) (b_check_possible := b23) (g_check_possible := g23) (F__range_of := T31) (G__range_of := G31.mono (by decide)) (b__range_of := b31) (g__range_of := g31) (m_tuple := m_tuple) (m_range := m_range) (m_len := m_len)
  have G47 : FnG P w K mg base 9 _ d47 ["sheet_here", "count_here"] spR21 := ok_r21 (k := 8) (F := T47) (F__law_fresh := T45) (G__law_fresh := G45.mono (by decide)) (b__law_fresh := b45) (g__law_fresh := g45) (F__law_away := T44) (G__law_away := G44.mono (by decide)) (b__law_away := b44) (g__law_away := g44) (F_pattern_range := T28) (G_pattern_range := G28.mono (by decide)) (b_pattern_range := b28) (g_pattern_range := g28) (F_once_range := T29) (G_once_range := G29.mono (by decide)) (b_once_range := b29) (g_once_range := g29) (F__law_built := T46) (G__law_built := G46.mono (by decide)) (b__law_built := b46) (g__law_built := g46) (F_has_sheet := T25) (G_has_sheet := G25.mono (by decide)) (b_has_sheet := b25) (g_has_sheet := g25) (F_daily_range := T30) (G_daily_range := G30.mono (by decide)) (b_daily_range := b30) (g_daily_range := g30) (m_repr := m_repr) (m_len := m_len) (m_min := m_min) (m_max := m_max) (m_range := m_range) (m_sum := m_sum) (m_tuple := m_tuple)
  exact ok_law (k := 9) (F := T48) (F__law_dip := T37) (G__law_dip := G37.mono (by decide)) (b__law_dip := b37) (g__law_dip := g37) (F__law_jar := T36) (G__law_jar := G36.mono (by decide)) (b__law_jar := b36) (g__law_jar := g36) (F__law_family := T40) (G__law_family := G40.mono (by decide)) (b__law_family := b40) (g__law_family := g40) (F__law_sheet := T41) (G__law_sheet := G41.mono (by decide)) (b__law_sheet := b41) (g__law_sheet := g41) (F_once_range := T29) (G_once_range := G29.mono (by decide)) (b_once_range := b29) (g_once_range := g29) (F__law_right := T47) (G__law_right := G47.mono (by decide)) (b__law_right := b47) (g__law_right := g47) (m_max := m_max) (m_min := m_min) (m_len := m_len) (m_range := m_range)
end K21
open PySem PySem.W PySem.Calls PyProof.Rows
theorem PySem.Challenge.cw_facesagain_k21_once_and_daily_holds : PySem.Challenge.rw_facesagain_k21_once_and_daily.Holds := by
  w_on; o_law
  refine HandSHeadRun.head_any (r := OpenLaw.row PySem.Challenge.rw_facesagain_k21_once_and_daily) (q := view (OpenLaw.row PySem.Challenge.rw_facesagain_k21_once_and_daily).prog [68]) (H := K21.hk) (ob := K21.ob) (M := 4000) (loose := K21.loo) (d := HandSHeadRun.topDef (OpenLaw.row PySem.Challenge.rw_facesagain_k21_once_and_daily).prog 68) (kwd := []) K21.ob_eq
    (by kernel_rfl) (fun s => by kernel_rfl) K21.run (by kernel_rfl) (by kernel_rfl) (by kernel_rfl) (by rfl) (by first | assumption | decide +kernel) (by decide +kernel) ⟨rfl, rfl, rfl, rfl, rfl, by decide +kernel⟩ ?hw ?hc
  case hw => w_witness2
  case hc =>
    refine Fa.walkG (l := PySem.Challenge.rw_facesagain_k21_once_and_daily) (n := 63) (k := 10) (x := "script") rfl (by decide) (by kernel_rfl) ⟨rfl, by decide, by decide⟩ ?_
    intro w mg fa h Y G hmg0
    obtain ⟨K, KX, c⟩ := Y
    have hmg : mg ("law" : PySem.Str) = some (.ref fa) := by
      have e : (HandSHeadRun.topDef (OpenLaw.row PySem.Challenge.rw_facesagain_k21_once_and_daily).prog 68).name = ("law" : PySem.Str) := by kernel_rfl
      rw [← e]
      exact hmg0
    obtain ⟨fd, hb, hF⟩ := K21.facts (P := (PySem.Challenge.rw_facesagain_k21_once_and_daily).prog) (w := w) KX G hmg c
    exact ⟨K, fd, K21.spLaw K, KX, hb, fun H a ns hl _ hS => ⟨a, ns, rfl, hS, hl, fun _ => rfl⟩, hF⟩
