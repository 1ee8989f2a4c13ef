import PyProof.Rows.All
import Wide.All
import OpenK.AllK
import Wide.FinOn
import HandS.ForMost
import HandS.ExcValue
import HandS.ExcInit
import HandS.IsInst
import HandS.ExcIs
import HandS.ExcField
import HandS.Wide
import HandS.WideBits
import HandS.MakeKwOnly
import KE.KExcIs
import HandS.Defaults
import HandS.HeadEnd
import HandS.HeadHook4
import HandS.Head2
import HandS.Conv
import HandS.TupAny
import HandS.SortOrd
import HandS.SortRule
import PyProof.ReprRoads
import HandS.NamedTupSort
import HandS.Walk
import HandS.Iter
import HandS.Zip
import HandS.Words
import HandS.Ends
import PyProof.TypeEq
import PyProof.InstEq
import PyProof.ReprLen
import PyProof.FitsInt
import HandS.RaiseMore
import HandS.Style
import PySem.Challenge.RW_facesagain_k01_sheets_of_families
set_option Elab.async false
set_option linter.all false
set_option maxRecDepth 100000
/-! exceptions of own classes as values: made with an own __init__ (positional, keywords), their fields, isinstance -/
namespace PySem
namespace Fa
open PySem.W PySem.Calls PyProof.Rows PySem.HandSPX
section
variable {prog : Program} {w : World} {A : Around} {E : Value → Shared → Prop} {R : Result → Shared → Prop} {h : Heap} {g : Array GenState} {d : Drawn} {t : Nat} {os : OsState}
variable {nm q : Str} {C N : Addr} {bs bm bmB : List Value} {hdct : Bool} {sn : List Str} {sub : List Value} {ab : Bool} {col : Option Bool} {dd : Option Addr} {k0 k1 k2 k3 k5 : Option Value} {B newId initId : String}
theorem kw_check (F : ExcBaseFacts B newId initId bmB) (same : ∀ X : String, bm.contains (.type X) = bmB.contains (.type X)) {us : List Value} {kw : List (Str × Value)} {Q : Unit → Shared → Prop}
    (oC : h.get? C = some (excClassObj nm q C N bs bm hdct sn sub ab col dd k0 k1 k2 k3 k5 newId)) (fin : Q () ⟨h, g, d, t, os⟩) : wpAny (model prog w) A (checkBuiltinCall newId ⟨.ref C :: us, kw⟩) Q E ⟨h, g, d, t, os⟩ := by
  have c1 : (Value.ref C :: bm).contains (.type B) = true := by rw [List.contains_cons, same, F.hasB, Bool.or_true]
  have c2 := F.noStar
  simp only [checkBuiltinCall, F.newKind, F.newSplit, F.newRow]
  repeat (first
    | refine wpAny_loadPart_at oC ?_
    | (refine wpAny_isSubtype_exc oC ?_; rw [c1])
    | refine wpAny_staticBase_exc oC ?_
    | refine wpAny_madeBy_exc oC ?_
    | simp only [bne_self_eq_false, Bool.false_eq_true, if_false]
    | wp_step)
  exact fin
theorem kw_new (F : ExcBaseFacts B newId initId bmB) (same : ∀ X : String, bm.contains (.type X) = bmB.contains (.type X)) {us : List Value} {kw : List (Str × Value)}
    (oC : h.get? C = some (excClassObj nm q C N bs bm hdct sn sub ab col dd k0 k1 k2 k3 k5 newId))
    (fin : R (.ok (.ret (.ref (h.objs.size + 1)))) ⟨(h.push { cls := .type "tuple", data := .seq us.toArray }).push { cls := .ref C, data := .fields #[.ref h.objs.size, .none, .none, .none, .bool false, .none] }, g, d, t, os⟩)
    (hu : us.length ≤ sizeLine) : codeAny (model prog w) A (.builtin newId ⟨.ref C :: us, kw⟩) R ⟨h, g, d, t, os⟩ := by
  have c0 := F.ends
  have c1 : (Value.ref C :: bm).contains (.type B) = true := by rw [List.contains_cons, same, F.hasB, Bool.or_true]
  have c2 : (Value.ref C :: bm).contains (.type "AttributeError") = false := by rw [List.contains_cons, same, F.noAttr]; rfl
  have c3 : (Value.ref C :: bm).contains (.type "NameError") = false := by rw [List.contains_cons, same, F.noName]; rfl
  refine codeAny_builtinAt F.entry ?_
  unfold Builtin.«BaseException.__new__»
  refine wpAt_bind ?_
  show wpAt _ _ _ (stack >>= _) _ _ _
  refine wpAt_bind (wpAt_stack fun p below => wpAt_of_wpAny ?_)
  wp_walk
  refine wpAt_of_wpAny ?_
  rw [F.owner]
  repeat (first
    | with_reducible refine wpAny_madeHere_exc F.canon oC ?_
    | with_reducible refine wpAny_loadPart_at oC ?_
    | (with_reducible refine wpAny_isSubtype_exc oC ?_; first | rw [c1] | rw [c2] | rw [c3])
    | wp_step)
  show R _ _
  rw [Heap.size_push]
  exact fin
theorem kw_type_call (F : ExcBaseFacts B newId initId bmB) (same : ∀ X : String, bm.contains (.type X) = bmB.contains (.type X)) {us : List Value} {kw : List (Str × Value)} {fI : Addr} {Q : Fin → Shared → Prop}
    (oC : h.get? C = some (excClassObj nm q C N bs bm hdct sn sub ab col dd k0 k1 k2 k3 k5 newId))
    (hi : W.Looks (model prog w) h (typeLookup (.ref C) "__init__") (some (.ref fI))) (hb : ∀ self, W.Looks (model prog w) h (bindSpecial (.ref fI) self) (.ref fI, [self])) (hu : us.length ≤ sizeLine)
    (run : codeAny (model prog w) A (.call (.ref fI) ⟨.ref (h.objs.size + 1) :: us, kw⟩)
      (fun r s' => match r with | .ok (.ret v) => v = .none ∧ Q (.done (.ret (.ref (h.objs.size + 1)))) s' | .ok _ => False | .error e => E e s')
      ⟨(h.push (W.kdv_tup us)).push (excO C h.objs.size), g, d, t, os⟩) :
    wpAny (model prog w) A (Builtin.«type.__call__» ⟨.ref C :: us, kw⟩) Q E ⟨h, g, d, t, os⟩ := by
  repeat (first
    | with_reducible refine wpAny_loadPart_at oC ?_
    | with_reducible refine wpAny_madeBy_exc oC ?_
    | wp_step)
  refine codeAny_call_builtin_code (Code.quiet_builtin _ F.quiet) (kw_check F same oC ?_)
  refine kw_new F same oC ?_ hu
  show wpAny _ _ _ _ _ _
  have kk : ∀ b o, h.get? b = some o → ((h.push (W.kdv_tup us)).push (excO C h.objs.size)).get? b = some o := fun b o e =>
    Heap.get?_push_of_some _ (Heap.get?_push_of_some _ e)
  have oC1 := kk _ _ oC
  have oE : ((h.push (W.kdv_tup us)).push (excO C h.objs.size)).get? (h.objs.size + 1) = some (excO C h.objs.size) := by
    heap_get
  have cC : (Value.ref C :: bm).contains (.ref C) = true := by
    simp
  have i1 := hi.keeps kk
  have b1 := (hb (.ref (h.objs.size + 1))).keeps kk
  unfold isInstance
  repeat (first
    | with_reducible refine wpAny_loadPart_at oE ?_
    | (with_reducible refine wpAny_isSubtype_exc oC1 ?_; rw [cC])
    | wp_step)
  show wpAny _ _ (typeLookup (.ref C) _) _ _ _
  refine i1.at ?_
  refine wpAny_holding (wpAny_bind (b1.at ?_))
  refine wpAny_bind (wpAny_call (codeAny_mono run fun r s' z => ?_))
  rcases r with e | (v | _ | _ | _) <;> first | exact z | exact z.elim | skip
  obtain ⟨rfl, z⟩ := z
  first
    | exact wpAny_pure (wpAny_pure z)
    | (wp_walk; exact z)
theorem kw_own (F : ExcBaseFacts B newId initId bmB) (same : ∀ X : String, bm.contains (.type X) = bmB.contains (.type X)) {us : List Value} {kw : List (Str × Value)} {fI : Addr}
    (oC : h.get? C = some (excClassObj nm q C N bs bm hdct sn sub ab col dd k0 k1 k2 k3 k5 newId))
    (hi : W.Looks (model prog w) h (typeLookup (.ref C) "__init__") (some (.ref fI))) (hb : ∀ self, W.Looks (model prog w) h (bindSpecial (.ref fI) self) (.ref fI, [self])) (hu : us.length ≤ sizeLine)
    (run : codeAny (model prog w) (A.under (.builtin "type.__call__" ⟨.ref C :: us, kw⟩)) (.call (.ref fI) ⟨.ref (h.objs.size + 1) :: us, kw⟩) (W.InitBack (h.objs.size + 1) R)
      ⟨(h.push (W.kdv_tup us)).push (excO C h.objs.size), g, d, t, os⟩) :
    codeAny (model prog w) A (.call (.ref C) ⟨us, kw⟩) R ⟨h, g, d, t, os⟩ := by
  have f1 := tc_lookup
  have f2 := tc_bind (.ref C)
  have hTy : (⟨h, g, d, t, os⟩ : Shared).TypeIs (.ref C) "type" := ⟨_, oC, rfl⟩
  refine codeAny_of_tree ?_
  show wpAny _ _ (callAny (.ref C) _) _ _ _
  repeat (any_goals (first
    | assumption
    | with_reducible refine wpAny_loadPart_at oC ?_
    | wp_step))
  refine ⟨rfl, ?_⟩
  refine codeAny_call_builtin_at (Code.quiet_builtin _ (by decide +kernel)) entry_typeCall (wpAny_check_type_call_sub oC (kw_type_call F same oC hi hb hu ?_))
  refine codeAny_mono run fun r s' z => ?_
  rcases r with e | (v | _ | _ | _) <;> exact z
end
end Fa
end PySem

namespace Fa
open PySem PySem.Spec PyProof.Rows L2
/-- C(e, .., k = v, ..), an own exception with its own __init__, as a value -/
def tMkV (C : Addr) (n m : Nat) (sp : Sp) (gV : List V → List V → List V) (t tk : TA) : TE := fun σ H Q => t σ H fun vs H1 => tk σ H1 fun zs H2 =>
  vs.length = n ∧ n ≤ 1000 ∧ zs.length = m ∧ ∀ a, H2 a = none → sp (gV (.ref a :: vs) zs) (upd H2 a (exo a C none)) (fun v H3 => v = .non ∧ Q (.ref a) H3) (fun _ _ _ => False)
section
variable {X : Cx} {CX : CXT} {k n : Nat} {fI C : Addr} {fd : FuncData} {ps ks : List Str} {sp : Sp} {x : Str} {p pos : Pos} {e : Expr} {es : List Expr} {kws : List Keyword} {t tk : TA} {g : List Value → List Value → List Value} {gV : List V → List V → List V}
theorem run_mkV {pins : List (Addr × Obj)} {σ : L2.St} {H : Hp} {s : Shared} {Q : VK} {us ws : List Value} {vs zs : List V} (T : OexC X.K C) (iC : PySem.W.findIn X.K (.ref C) "__init__" = some (some (.ref fI)))
    (tI : PySem.W.typeIn X.K (.ref fI) = some (.type "function")) (F1 : FnOk X.prog X.w X.K X.mg X.base CX k fI fd ps sp) (hr : Room (k + 1) X.A) (hb : KBn X.K fd ps (n + 1) ks g gV) (hx : Passes CX X (fun _ _ _ => False))
    (I : Inv X pins σ H s) (r : Vals vs us) (rz : Vals zs ws) (l1 : vs.length = n) (l0 : n ≤ 1000) (l2 : zs.length = ks.length)
    (h : ∀ a, H a = none → sp (gV (.ref a :: vs) zs) (upd H a (exo a C none)) (fun v H3 => v = .non ∧ Q (.ref a) H3) (fun _ _ _ => False)) :
    wpAny (model X.prog X.w) X.A (call (.ref C) us (ks.zip ws)) (EP X pins σ Q) X.xe s := by
  obtain ⟨nm, q, N, bs, bm, sn, sub, ab, col, dd, k0, k1, k2, k3, k5, hC, hbm⟩ := T.cls
  obtain ⟨hp, gg, dr, t1, os⟩ := s
  have big : hp.objs.size ≤ hp.objs.size + 1 := Nat.le_succ _
  have hq := h (hp.objs.size + 1) (I.hok.fresh big)
  have kk : ∀ b o, hp.get? b = some o → ((hp.push (PySem.W.kdv_tup us)).push (PySem.HandSPX.excO C hp.objs.size)).get? b = some o := fun b o e =>
    Heap.get?_push_of_some _ (Heap.get?_push_of_some _ e)
  have oE : ((hp.push (PySem.W.kdv_tup us)).push (PySem.HandSPX.excO C hp.objs.size)).get? (hp.objs.size + 1) = some (PySem.HandSPX.excO C hp.objs.size) := by
    heap_get
  have I2 : Inv X pins σ (upd H (hp.objs.size + 1) (exo (hp.objs.size + 1) C none)) ⟨(hp.push (PySem.W.kdv_tup us)).push (PySem.HandSPX.excO C hp.objs.size), gg, dr, t1, os⟩ :=
    I.laid (t' := t1) (a := hp.objs.size + 1) (o := exo (hp.objs.size + 1) C none) kk big (exo_ok oE)
  have r1 : Vals (V.ref (hp.objs.size + 1) :: vs) (Value.ref (hp.objs.size + 1) :: us) := .cons rfl r
  have r2 := hb.rel r1 rz
  have n1 : (Value.ref (hp.objs.size + 1) :: us).length = n + 1 := by
    rw [List.length_cons, ← r.length, l1]
  have hus : us.length ≤ sizeLine := by
    rw [← r.length, l1, sizeLine_eq]
    omega
  refine wpAny_call (PySem.Fa.kw_own F.excBase_ValueError (fun Y => PySem.HandSPX.refsVE_contains Y bm hbm) (I.kIn _ _ hC) (PySem.W.looks_findIn I.kIn iC) (fun self => PySem.W.bind_fn I.kIn self tI) hus
    (codeAny_mono (F1.run _ X.stack _ _ ⟨Value.ref (hp.objs.size + 1) :: us, ks.zip ws⟩ (g (Value.ref (hp.objs.size + 1) :: us) ws) _ _ (fun _ _ _ => False) (hr.make C us (ks.zip ws))
      (I2.env0.make C us (ks.zip ws)) (hb.to _ (Value.ref (hp.objs.size + 1) :: us) ws I2.kIn n1 (rz.length.symm.trans l2)) r2 hq) fun r s' hq' => ?_))
  cases r with
  | error er => exact hx pins σ _ _ er s' I2 hq'
  | ok fl =>
    cases fl with
    | ret u =>
      obtain ⟨v, H', I3, rv, ev, q3⟩ := I2.after hq'
      subst ev
      exact ⟨rv, V.ref (hp.objs.size + 1), H', I3, rfl, q3⟩
    | next => exact False.elim hq'
    | brk => exact False.elim hq'
    | cont => exact False.elim hq'
theorem pe_mkV (T : OexC X.K C) (iC : PySem.W.findIn X.K (.ref C) "__init__" = some (some (.ref fI))) (tI : PySem.W.typeIn X.K (.ref fI) = some (.type "function"))
    (F1 : FnOk X.prog X.w X.K X.mg X.base CX k fI fd ps sp) (hr : Room (k + 1) X.A) (hg : Gl X x) (hm : X.mg x = some (.ref C)) (hb : KBn X.K fd ps (n + 1) [] g gV) (hx : Passes CX X (fun _ _ _ => False)) (ha : PA X (e :: es) t)
    (hdb : (x == ("__debug__" : Str)) = false := by decide) (he : starEach (e :: es) X.env = (false, eval e X.env) :: starEach es X.env := by rfl) (hpl : (backTo pos (starEach es X.env)).any (·.1) = false := by rfl) :
    PE X (.Call (.Name x p) (e :: es) [] pos) (tMkV C n 0 sp gV t tNil) := by
  refine ⟨fun pins s σ H Q I h => ?_⟩
  refine wpAny_Call_Name_kw (ld_glob I hg hm ?_ hdb)
  refine PySem.W.callWith_K (h₀ := X.base) I.ok.mod.kin T.kC (thn (ha.run pos pins s σ H _ I h) fun us s1 ⟨vs, H1, I1, r1, l1, l0, l2, q1⟩ => ⟨I1.kIn, ?_⟩) he hpl
  exact run_mkV (ks := []) (ws := []) (zs := []) T iC tI F1 hr hb hx I1 r1 .nil l1 l0 l2 q1
theorem pe_mkVK (T : OexC X.K C) (iC : PySem.W.findIn X.K (.ref C) "__init__" = some (some (.ref fI))) (tI : PySem.W.typeIn X.K (.ref fI) = some (.type "function"))
    (F1 : FnOk X.prog X.w X.K X.mg X.base CX k fI fd ps sp) (hr : Room (k + 1) X.A) (hg : Gl X x) (hm : X.mg x = some (.ref C)) (hb : KBn X.K fd ps 1 ks g gV) (hx : Passes CX X (fun _ _ _ => False)) (hkw : PK X kws tk)
    (hall : (backToKw pos (keywordEach kws X.env)).all (·.1.isSome) = true := by rfl) (hks : (backToKw pos (keywordEach kws X.env)).filterMap (·.1) = ks := by rfl) (hdb : (x == ("__debug__" : Str)) = false := by decide)
    (hpl : ((backTo pos (starEach [] X.env)).any (·.1) || (backToKw pos (keywordEach kws X.env)).any (·.1.isNone)) = false := by rfl) :
    PE X (.Call (.Name x p) [] kws pos) (tMkV C 0 ks.length sp gV tNil tk) := by
  refine ⟨fun pins s σ H Q I h => ?_⟩
  refine wpAny_Call_Name_kw (ld_glob I hg hm ?_ hdb)
  refine PySem.W.callWith_KW0 (h₀ := X.base) I.ok.mod.kin T.kC hall ?_ hpl
  refine thn (hkw.run pos pins s σ H _ I h) fun ws s2 ⟨zs, H2, I2, rz, l1, l0, l2, q2⟩ => ⟨I2.kIn, ?_⟩
  rw [hks]
  exact run_mkV (us := []) (vs := []) T iC tI F1 hr hb hx I2 .nil rz rfl l0 l2 q2
end
/-- at a: an exception of the class at C, with these fields -/
def ExcAt (H : Hp) (a C : Addr) (fs : List (Str × V)) : Prop := (H a = some (ExO (.ref C) a) ∧ fs = []) ∨ ∃ d, H a = some (exo a C (some d)) ∧ H d = some (exd d fs)
theorem ExcAt.same {H H' : Hp} {a C : Addr} {fs : List (Str × V)} (e : Same H H') (h : ExcAt H a C fs) : ExcAt H' a C fs := by
  rcases h with ⟨h, z⟩ | ⟨d, h1, h2⟩
  · exact .inl ⟨e _ _ h, z⟩
  · exact .inr ⟨d, e _ _ h1, e _ _ h2⟩
theorem ExcAt.inst {P : Program} {w : World} {H : Hp} {h : Heap} {a C : Addr} {fs : List (Str × V)} (hok : HOk P w H h) (x : ExcAt H a C fs) : ∃ o od, PySem.W.InstAt h a o C od := by
  rcases x with ⟨x, _⟩ | ⟨d, x1, x2⟩
  · have y : ObjOk P w H h a (.ext fun h => ∃ (oe : Obj) (vs : Array Value), h.get? a = some oe ∧ Zc (.ref C) none oe ∧ oe.data = .fields vs ∧ vs[1]? = some .none ∧ vs[2]? = some .none ∧ 4 < vs.size) := hok a _ x
    obtain ⟨oe, vs, e, z, dt, _⟩ := y.1
    exact ⟨oe, none, e, z.1, by unfold PySem.W.notCls; rw [dt] <;> rfl, by rw [z.2]; trivial⟩
  · obtain ⟨t1, e⟩ := exo_at hok x1
    obtain ⟨mA, ⟨od, es, ep, e2, _⟩, _⟩ := exd_at hok x2
    exact ⟨_, some od, e, rfl, rfl, e2⟩
/-- what isinstance and a field's read ask of the class -/
structure KxC (K : PySem.W.Frag) (C : Addr) : Prop where
  cl : (PySem.W.clsIn K C).isSome = true
  ga : PySem.W.findIn K (.ref C) "__getattribute__" = some (some (.builtin "BaseException.__getattribute__"))
  gg : PySem.W.findIn K (.ref C) "__getattr__" = some none
  sb : PySem.W.subIn K (.ref C) (.type "BaseException") = some true
  ca : PySem.W.findIn K (.ref C) "__class__" = some (some (.builtin "object.__class__"))
  cg : PySem.W.specialIn K (.builtin "object.__class__") "__get__" = some (some (.builtin "getset_descriptor.__get__"))
  tk : PySem.W.takesIn K (.builtin "object.__class__") = some true
  mr : PySem.W.mroIn K C (.type "object") = some true
/-- isinstance(x, c), x an exception of an own class -/
def rIsiE (K : PySem.W.Frag) : List V → Hp → VK → Prop := fun xs H Q => ∃ (a C : Addr) (fs : List (Str × V)) (c : V) (u : Value) (b : Bool), xs = [.ref a, c] ∧ ExcAt H a C fs ∧ KxC K C ∧ ClsV c u ∧ PySem.W.kitOne K (.ref C) u = some b ∧ Q (.bl b) H
theorem call_isiE {X : Cx} : CallR X (.builtin "isinstance") (rIsiE X.K) := by
  intro pins s σ H xs us Q I r h
  obtain ⟨a, C, fs, c, u, b, rfl, ex, k, kc, e, q⟩ := h
  obtain ⟨u1, u2, rfl, r1, r2⟩ := vals2 r
  have e2 := kc.eq r2
  subst e2
  cases (show u1 = Value.ref a from r1)
  obtain ⟨o, od, J⟩ := ex.inst I.hok
  exact PySem.W.kia_one (PySem.W.kitx_exc k.cl k.ga k.gg k.sb k.ca k.cg k.tk k.mr) I.kIn J e (fun z => nomatch z) fun tk => ⟨.bl b, H, I.tok tk, rfl, q⟩
/-- e.f, e an exception of an own class that keeps it -/
def tXfV (K : PySem.W.Frag) (f : Str) (te : TE) : TE := fun σ H Q => te σ H fun x H1 => ∃ (a C d : Addr) (fs : List (Str × V)) (v : V), x = .ref a ∧ H1 a = some (exo a C (some d)) ∧ H1 d = some (exd d fs) ∧ XfC K C ∧
  PySem.W.findIn K (.ref C) f = some none ∧ fs.lookup f = some v ∧ Q v H1
theorem pe_xfV {X : Cx} {e : Expr} {te : TE} {pos : Pos} {n : Str} (he : PE X e te) (hb : attributeBase e n X.env (eval e X.env) = eval e X.env := by rfl) : PE X (.Attribute e n pos) (tXfV X.K n te) := by
  refine ⟨fun pins s σ H Q I h => ?_⟩
  refine attr_of hb (thn (he.run pins s σ H _ I h) fun u s1 hh => ?_)
  obtain ⟨x, H1, I1, rx, a, C, d, fs, v, ex, ea, ed, T, hno, l, q⟩ := hh
  subst ex
  obtain rfl : u = Value.ref a := rx
  obtain ⟨t1, hx⟩ := exo_at I1.hok ea
  obtain ⟨mA, hns, hr⟩ := exd_at I1.hok ed
  obtain ⟨od, ho, hl⟩ := lookIn_ns hns
  obtain ⟨u, hu, ru⟩ := RelO.some_of (v := v) (o := mA n) (by rw [← l]; exact hr n)
  have J : PySem.W.InstAt s1.heap a { cls := .ref C, dict := some d, data := .fields #[.ref t1, .none, .none, .none, .bool false, .none] } C (some od) := ⟨hx, rfl, rfl, ho⟩
  exact HandSPX.exc_get I1.kIn J T.ga T.gg T.exC (PySem.W.findObj_own T.hdC hno rfl (by rw [hl, hu])) (handed_of ru) ⟨v, H1, I1.tok _, ru, q⟩
/-! ### powers of any size -/
def CPowW (i j : Int) : Prop := 0 ≤ j ∧ j ≤ 64 ∧ ∃ n, i.natAbs < 2 ^ n ∧ n ≤ 1000000
theorem op_powW {X : Cx} : OpR X (binaryOp .Pow) (rI CPowW fun i j => .int (i ^ j.toNat)) := opI fun i j _ _ _ _ _ hc q => by
  obtain ⟨h0, h1, n, hn, hs⟩ := hc
  refine pow_int h0 ?_ q
  have b := PyProof.Rows.intBits_le hn
  have e : (2 : Int) ^ 27 = 134217728 := by decide
  have m : (Builtin.Int.intBits i : Int) * j ≤ 1000000 * 64 := Int.mul_le_mul (by omega) h1 h0 (by omega)
  omega
end Fa

namespace Fa
open PySem PySem.Spec PyProof.Rows L2
section
variable {K : PySem.W.Frag} {x qual : Str} {st : Stmt} {f : Addr} {fd : FuncData} {ps ks : List Str} {n : Nat}
/-- a def without defaults, from the head's facts -/
theorem fun_of (F : FunD K x qual (defArgs st) (defBody st) (defScope st) [] [] f fd) : Fun K x qual st f fd := by
  obtain ⟨oc, od, dV, kV, doc, pm, an, cdv, ct, osl, e, lk, hcd, hD, _⟩ := F.ex
  rcases hD with ⟨_, z⟩ | ⟨z, _⟩
  · subst z
    exact ⟨⟨oc, od, kV, doc, pm, an, cdv, ct, osl, e, lk, hcd⟩, F.kp⟩
  · exact absurd rfl z
/-- how its arguments bind, where some are written by name -/
theorem kbn_of (F : Fun K x qual st f fd) (g : {α : Type} → List α → List α → List α) (hrel : ∀ {vs zs : List V} {us ws : List Value}, Vals vs us → Vals zs ws → Vals (g vs zs) (g us ws))
    (h : ∀ (kV doc pm : Value) (an : Option Addr) (cdv ct : Value) (us ws : List Value), us.length = n → ws.length = ks.length → bindArgs (PySem.W.fnOf x qual (defArgs st) (defBody st) (defScope st) .none kV doc pm an cdv ct) ⟨us, ks.zip ws⟩ = pure (ps.zip (g us ws))) :
    KBn K fd ps n ks (fun us ws => g us ws) (fun vs zs => g vs zs) := by
  obtain ⟨oc, od, kV, doc, pm, an, cdv, ct, osl, e, lk, hcd⟩ := F.ex
  subst e
  exact ⟨fun s us ws _ h1 h2 => .of_eq (h kV doc pm an cdv ct us ws h1 h2), fun r1 r2 => hrel r1 r2⟩
end
/-! ### rules whose reading names the written part by a letter (for blocks) -/
section
variable (K : PySem.W.Frag) {X : Cx}
theorem ixL (h : X.K = K := by rfl) : IxR X (rIxL K) := h ▸ ix_list
theorem ixT (h : X.K = K := by rfl) : IxR X (rIxT K) := h ▸ ix_tup
theorem slL (h : X.K = K := by rfl) : SlR X (rSlL K) := h ▸ sl_list
def rLenQ : List V → Hp → VK → Prop := fun xs H Q => ∃ p ys, xs = [.ref p] ∧ (SqL K H p ys ∨ SqT K H p ys) ∧ Q (.int ys.length) H
theorem lenQ (h : X.K = K := by rfl) : CallR X (.builtin "len") (rLenQ K) := h ▸ call_len_seq
theorem isiQ (h : X.K = K := by rfl) : CallR X (.builtin "isinstance") (rIsi K) := h ▸ call_isi
theorem isiTQ (h : X.K = K := by rfl) : CallR X (.builtin "isinstance") (rIsiT K) := h ▸ call_isiT
theorem isiEQ (h : X.K = K := by rfl) : CallR X (.builtin "isinstance") (rIsiE K) := h ▸ call_isiE
def rTupQ : List V → Hp → VK → Prop := fun xs H Q => ∃ p ys, xs = [.ref p] ∧ ((SqL K H p ys ∧ ∀ l, H l = none → Q (.ref l) (upd H l (.tup ys))) ∨ (SqT K H p ys ∧ Q (.ref p) H))
theorem tupQ (h : X.K = K := by rfl) : CallR X (.type "tuple") (rTupQ K) := h ▸ call_tuple_of
def rLstQ : List V → Hp → VK → Prop := fun xs H Q => ∃ p ys, xs = [.ref p] ∧ (SqL K H p ys ∨ SqT K H p ys) ∧ ∀ l, H l = none → Q (.ref l) (upd H l (.lst ys))
theorem lstQ (h : X.K = K := by rfl) : CallR X (.type "list") (rLstQ K) := h ▸ call_list_of
theorem allQ (hc : X.calm = true) (h : X.K = K := by rfl) : CallR X (.builtin "all") (rAll K) := h ▸ cr_all hc
theorem eqQ (hu : X.A.units + 64 < cLine) (h : X.K = K := by rfl) : OpR X (compareOp .Eq) (rEqD K) := h ▸ op_eqD hu
theorem neQ (hu : X.A.units + 64 < cLine) (h : X.K = K := by rfl) : OpR X (compareOp .NotEq) (rNeD K) := h ▸ op_neD hu
theorem inQ (h : X.K = K := by rfl) : OpR X (compareOp .In) (rIn K false) := h ▸ op_in_seq
theorem listQ {tg l : Expr} {tl : TE} (hl : PE X l tl) (h : X.K = K := by rfl) : PI X tg l (iList K tl) := h ▸ pi_list hl
end
/-! ### small things of readings -/
theorem yes_if {σ : L2.St} {H : Hp} {A B : Hp → Prop} (h : A H) : tYes σ H (fun b H3 => if b = true then A H3 else B H3) := by
  show (if true = true then A H else B H)
  rw [if_pos rfl]
  exact h
theorem same_new {H : Hp} {p : Addr} {o : HO} (h : H p = none) : Same H (upd H p o) := fun b x e => by
  rw [upd_ne (ne_of_none e h)]
  exact e
theorem cut_map (ns : List Int) (lo hi : Option Int) : ∃ ms : List Int, cutV (ns.map V.int) lo hi = ms.map V.int ∧ ms.length ≤ ns.length := by
  refine ⟨(ns.drop (HT.sIx (ns.map V.int).length 0 lo)).take (HT.sIx (ns.map V.int).length (ns.map V.int).length hi - HT.sIx (ns.map V.int).length 0 lo), ?_, ?_⟩
  · unfold cutV
    rw [List.map_take, List.map_drop]
  · rw [List.length_take, List.length_drop]
    omega
def But (p : Addr) (H H' : Hp) : Prop := ∀ b, b ≠ p → H' b = H b
theorem But.refl (p : Addr) (H : Hp) : But p H H := fun _ _ => rfl
theorem But.trans {p : Addr} {H H1 H2 : Hp} (a : But p H H1) (b : But p H1 H2) : But p H H2 := fun c h => (b c h).trans (a c h)
theorem But.upd {p : Addr} {H H1 : Hp} {o : HO} (a : But p H H1) : But p H (upd H1 p o) := fun c h => (upd_ne h).trans (a c h)
/-- all that was tracked stands, but at p -/
def Kp (p : Addr) (H H' : Hp) : Prop := ∀ b o, b ≠ p → H b = some o → H' b = some o
theorem Kp.refl (p : Addr) (H : Hp) : Kp p H H := fun _ _ _ h => h
theorem Kp.trans {p : Addr} {H H1 H2 : Hp} (a : Kp p H H1) (b : Kp p H1 H2) : Kp p H H2 := fun c o n h => b c o n (a c o n h)
theorem But.kp {p : Addr} {H H1 : Hp} (a : But p H H1) : Kp p H H1 := fun c o n h => (a c n).trans h
theorem kp_same {p : Addr} {H H1 : Hp} (a : Same H H1) : Kp p H H1 := fun c o _ h => a c o h
theorem Kp.free {p b : Addr} {H H1 : Hp} (a : Kp p H H1) (n : b ≠ p) (h : H1 b = none) : H b = none := by
  cases e : H b with
  | none => rfl
  | some o =>
    rw [a b o n e] at h
    cases h
theorem kp_new {p b : Addr} {H : Hp} {o : HO} (h : H b = none) : Kp p H (upd H b o) := fun c u _ e => by
  rw [upd_ne (ne_of_none e h)]
  exact e
/-- and one more object that was not tracked at the start may change -/
theorem Kp.mut {p b : Addr} {H H1 : Hp} {o : HO} (a : Kp p H H1) (h : H b = none) : Kp p H (upd H1 b o) := fun c u n e => by
  rw [upd_ne (ne_of_none e h)]
  exact a c u n e
theorem nat_lt_pow {x : Int} {n : Nat} (h0 : 0 < x) (h : x < 2 ^ n) : x.natAbs < 2 ^ n := by
  have e : ((2 ^ n : Nat) : Int) = (2 : Int) ^ n := by
    rw [Int.natCast_pow]
    rfl
  omega
theorem iteDS {c A B : Prop} [Decidable c] (hc : c) (h : A) : if decide c = true then A else B := by
  rw [decide_eq_true hc]
  exact iteT h
theorem int_at {ms : List Int} {i : Nat} {x : V} (h : (ms.map V.int)[i]? = some x) : ∃ n, ms[i]? = some n ∧ x = V.int n := by
  rw [List.getElem?_map] at h
  cases e : ms[i]? with
  | none =>
    rw [e] at h
    cases h
  | some z =>
    rw [e] at h
    exact ⟨z, rfl, (Option.some.inj h).symm⟩
end Fa

namespace Fa
open PySem PySem.Spec PyProof.Rows L2
/-! ### what the head tells of the exception classes, as one look -/
def oexB (K : PySem.W.Frag) (C : Addr) : Bool := (match K.lookup C with
  | some ⟨.type "type", _, .cls cd, sl⟩ => (match cd.mro, sl.toList with
    | .ref C' :: bm, [_, _, _, _, some (.builtin n), _] => C' == C && (n == "ValueError.__new__" && (!cd.hasDel && (cd.hasDict && PySem.HandSPX.refsVE bm)))
    | _, _ => false)
  | _ => false) && (He.eqO (PySem.W.findIn K (.ref C) "__setattr__") (some (some (.builtin "object.__setattr__"))) && (decide (PySem.W.subIn K (.ref C) (.type "BaseException") = some true) && (decide (PySem.W.typeIn K (.ref C) = some (.type "type")) && PySem.W.keepIn K (.ref C))))
theorem oexB_ok {K : PySem.W.Frag} {C : Addr} (q : oexB K C = true) : OexC K C := by
  unfold oexB at q
  obtain ⟨q, q2⟩ := He.ba q
  obtain ⟨q2, q3⟩ := He.ba q2
  obtain ⟨q3, q4⟩ := He.ba q3
  obtain ⟨q4, q5⟩ := He.ba q4
  refine ⟨?_, He.eqO_ok q2, of_decide_eq_true q3, of_decide_eq_true q4, q5⟩
  split at q
  · rename_i dd cd sl ho
    split at q
    · rename_i C' bm k0 k1 k2 k3 n k5 hm hs
      simp only [Bool.and_eq_true, beq_iff_eq, Bool.not_eq_true'] at q
      obtain ⟨rfl, rfl, hdel, hd1, ht⟩ := q
      obtain ⟨nm, bs, mro, ns, qn, hd, sn, sub, ab, col, del⟩ := cd
      dsimp only at hm hdel hd1
      subst hm hdel hd1
      have hsl : sl = #[k0, k1, k2, k3, some (.builtin "ValueError.__new__"), k5] := by
        obtain ⟨l⟩ := sl
        simp only at hs
        rw [hs]
      subst hsl
      exact ⟨nm, qn, ns, bs, bm, sn, sub, ab, col, dd, k0, k1, k2, k3, k5, ho, ht⟩
    · cases q
  · cases q
def kxB (K : PySem.W.Frag) (C : Addr) : Bool := (PySem.W.clsIn K C).isSome && (He.eqO (PySem.W.findIn K (.ref C) "__getattribute__") (some (some (.builtin "BaseException.__getattribute__"))) && (He.eqO (PySem.W.findIn K (.ref C) "__getattr__") (some none) &&
  (decide (PySem.W.subIn K (.ref C) (.type "BaseException") = some true) && (He.eqO (PySem.W.findIn K (.ref C) "__class__") (some (some (.builtin "object.__class__"))) && (He.eqO (PySem.W.specialIn K (.builtin "object.__class__") "__get__") (some (some (.builtin "getset_descriptor.__get__"))) &&
  (decide (PySem.W.takesIn K (.builtin "object.__class__") = some true) && decide (PySem.W.mroIn K C (.type "object") = some true)))))))
theorem kxB_ok {K : PySem.W.Frag} {C : Addr} (q : kxB K C = true) : KxC K C := by
  obtain ⟨h1, q⟩ := He.ba q
  obtain ⟨h2, q⟩ := He.ba q
  obtain ⟨h3, q⟩ := He.ba q
  obtain ⟨h4, q⟩ := He.ba q
  obtain ⟨h5, q⟩ := He.ba q
  obtain ⟨h6, q⟩ := He.ba q
  obtain ⟨h7, h8⟩ := He.ba q
  exact ⟨h1, He.eqO_ok h2, He.eqO_ok h3, of_decide_eq_true h4, He.eqO_ok h5, He.eqO_ok h6, of_decide_eq_true h7, of_decide_eq_true h8⟩
theorem all_lt {n : Nat} {f : Nat → Bool} (h : (List.range n).all f = true) : ∀ i, i < n → f i = true := fun i hi => List.all_eq_true.mp h i (List.mem_range.mpr hi)
end Fa

namespace Fa
open PySem PySem.Spec PyProof.Rows L2
/-! ### data: how deep, comparable with itself, shown -/
/-- no dict in it, texts fit, at most n deep -/
def Shp (n : Nat) (d : PyData) : Prop := PyData.canLay0 d = true ∧ PyData.depth d ≤ n
theorem shp_int (n : Nat) (i : Int) : Shp n (.int i) := ⟨rfl, Nat.zero_le _⟩
theorem shp_bool (n : Nat) (b : Bool) : Shp n (.bool b) := ⟨rfl, Nat.zero_le _⟩
theorem shp_all {n : Nat} : ∀ {ds : List PyData}, (∀ d ∈ ds, Shp n d) → PyData.canLayAll0 ds = true ∧ PyData.depthAll ds ≤ n
  | [], _ => ⟨rfl, Nat.zero_le _⟩
  | d :: ds, h => by
    obtain ⟨h1, h2⟩ := h d List.mem_cons_self
    obtain ⟨h3, h4⟩ := shp_all fun e he => h e (List.mem_cons_of_mem _ he)
    refine ⟨?_, ?_⟩
    · show (PyData.canLay0 d && PyData.canLayAll0 ds) = true
      rw [h1, h3]
      rfl
    · show max (PyData.depth d) (PyData.depthAll ds) ≤ n
      omega
theorem shp_list {n : Nat} {ds : List PyData} (h : ∀ d ∈ ds, Shp n d) : Shp (n + 1) (.list ds) := by
  obtain ⟨h1, h2⟩ := shp_all h
  exact ⟨h1, by show PyData.depthAll ds + 1 ≤ n + 1; omega⟩
theorem shp_tuple {n : Nat} {ds : List PyData} (h : ∀ d ∈ ds, Shp n d) : Shp (n + 1) (.tuple ds) := by
  obtain ⟨h1, h2⟩ := shp_all h
  exact ⟨h1, by show PyData.depthAll ds + 1 ≤ n + 1; omega⟩
theorem Shp.shaped {n : Nat} {d : PyData} (h : Shp n d) (hn : n ≤ 64) : SeqAt.shaped d = true := by
  unfold SeqAt.shaped
  rw [h.1, decide_eq_true (show PyData.depth d ≤ 64 by have := h.2; omega)]
  rfl
theorem shp_ints (n : Nat) (l : List Int) : Shp (n + 1) (.list (l.map PyData.int)) := shp_list fun d hd => by
  obtain ⟨i, _, rfl⟩ := List.mem_map.mp hd
  exact shp_int _ _
mutual
theorem eqv_same : ∀ d : PyData, PyData.canLay0 d = true → PyData.eqv d d = true
  | .none, _ => rfl
  | .bool b, _ => by rw [PyData.eqv, beq_self_eq_true]
  | .int i, _ => by rw [PyData.eqv, beq_self_eq_true]
  | .str x, _ => by rw [PyData.eqv, beq_self_eq_true]
  | .list xs, h => by
    rw [PyData.eqv]
    exact eqv_sames xs h
  | .tuple xs, h => by
    rw [PyData.eqv]
    exact eqv_sames xs h
  | .dict _, h => by cases h
theorem eqv_sames : ∀ ds : List PyData, PyData.canLayAll0 ds = true → PyData.eqvAll ds ds = true
  | [], _ => rfl
  | d :: ds, h => by
    obtain ⟨h1, h2⟩ := He.ba (show (PyData.canLay0 d && PyData.canLayAll0 ds) = true from h)
    show (PyData.eqv d d && PyData.eqvAll ds ds) = true
    rw [eqv_same d h1, eqv_sames ds h2]
    rfl
end
theorem dp_ints {K : PySem.W.Frag} {H : Hp} : ∀ l : List Int, DpAll K H (l.map V.int) (l.map PyData.int)
  | [] => .nil
  | _ :: r => .cons (.int _) (dp_ints r)
mutual
theorem Dp.same {K : PySem.W.Frag} {H H' : Hp} (s : Same H H') : ∀ (d : PyData) (v : V), Dp K H v d → Dp K H' v d
  | .none, _, h => by cases h; exact .non
  | .bool b, _, h => by cases h; exact .bl b
  | .int i, _, h => by cases h; exact .int i
  | .str x, _, h => by cases h; exact .str x
  | .list ds, _, h => by
    cases h with
    | lst hs ha => exact .lst (s.seq hs) (DpAll.same s ds _ ha)
  | .tuple ds, _, h => by
    cases h with
    | tup hs ha =>
      refine .tup ?_ (DpAll.same s ds _ ha)
      rcases hs with (h | ⟨o, h⟩) | h
      · exact .inl (.inl (s _ _ h))
      · exact .inl (.inr ⟨o, s _ _ h⟩)
      · exact .inr h
  | .dict _, _, h => by cases h
theorem DpAll.same {K : PySem.W.Frag} {H H' : Hp} (s : Same H H') : ∀ (ds : List PyData) (vs : List V), DpAll K H vs ds → DpAll K H' vs ds
  | [], _, h => by cases h; exact .nil
  | d :: ds, _, h => by
    cases h with
    | cons h1 h2 => exact .cons (Dp.same s d _ h1) (DpAll.same s ds _ h2)
end
/-! ### an equality whose two sides are one datum -/
theorem iteN0 {b : Bool} {A B : Prop} (hb : b = true) (h : B) : if (!b) = true then A else B := by
  rw [hb]
  exact iteF h
theorem iteN1 {b : Bool} {A B : Prop} (hb : b = false) (h : A) : if (!b) = true then A else B := by
  rw [hb]
  exact iteT h
/-! ### repr of data: the guards of the calls around hold nothing -/
def rRepr (K : PySem.W.Frag) : List V → Hp → VK → Prop := fun xs H Q => ∃ (a : Addr) (d : PyData), xs = [.ref a] ∧ Dp K H (.ref a) d ∧ PyData.depth d ≤ 64 ∧ PyData.showable d = true ∧ PyData.hasDict d = false ∧ d.shown.length ≤ sizeLine ∧ Q (.str d.shown) H
theorem call_repr {X : Cx} (gd : X.A.guards = some []) (hu : X.A.units + 66 < cLine) : CallR X (.builtin "repr") (rRepr X.K) := by
  intro pins s σ H xs us Q I r h
  obtain ⟨a, d, rfl, hd, h1, h2, h3, h4, q⟩ := h
  obtain ⟨u, rfl, r1⟩ := vals1 r
  cases (show u = Value.ref a from r1)
  obtain ⟨as, rd⟩ := Dp.reads I d _ _ hd r1
  refine repr_of_reads' rd h2 (fun z => by rw [h3] at z; cases z) gd (by omega) (fun _ _ e => e) (fun h' u tk hk => ?_) h4
  exact ⟨.str d.shown, H, I.kept (t' := tk) (fun b o e => hk b o e), ⟨u, rfl⟩, q⟩
end Fa

namespace K01
open PySem PySem.Spec PyProof.Rows L2 Fa
def topS (i : Nat) : Stmt := PySem.Challenge.pw_facesagain_k01_sheets_of_families.main.body.getD i (.Pass ⟨0, 0, 0, 0⟩)
abbrev s__law_jar : Stmt := topS 35
abbrev N__law_jar : List Str := ["script", "k", "cell_here"]
theorem sc__law_jar : FnScope N__law_jar ["script", "k"] (defScope s__law_jar) := ⟨rfl, rfl, rfl, by decide +kernel, rfl, by decide +kernel, by decide +kernel⟩
abbrev s__law_dip : Stmt := topS 36
abbrev N__law_dip : List Str := ["jar", "many", "digit", "mixed"]
theorem sc__law_dip : FnScope N__law_dip ["jar", "many"] (defScope s__law_dip) := ⟨rfl, rfl, rfl, by decide +kernel, rfl, by decide +kernel, by decide +kernel⟩
abbrev s__law_many : Stmt := topS 37
abbrev N__law_many : List Str := ["jar"]
theorem sc__law_many : FnScope N__law_many ["jar"] (defScope s__law_many) := ⟨rfl, rfl, rfl, by decide +kernel, rfl, by decide +kernel, by decide +kernel⟩
/-- the jar: digits left, what is mixed, the draws (at most B) -/
def JarAt (H : Hp) (p : Addr) (B : Int) : Prop := ∃ a b c : Int, H p = some (.lst [.int a, .int b, .int c]) ∧ 0 ≤ a ∧ 0 ≤ b ∧ b < 10 ^ 46 ∧ 0 ≤ c ∧ c ≤ B
theorem JarAt.mono {H : Hp} {p : Addr} {B B' : Int} (h : JarAt H p B) (l : B ≤ B') : JarAt H p B' := by
  obtain ⟨a, b, c, hp, h1, h2, h3, h4, h5⟩ := h
  exact ⟨a, b, c, hp, h1, h2, h3, h4, by omega⟩
theorem JarAt.same {H H' : Hp} {p : Addr} {B : Int} (h : JarAt H p B) (s : Same H H') : JarAt H' p B := by
  obtain ⟨a, b, c, hp, r⟩ := h
  exact ⟨a, b, c, s _ _ hp, r⟩
theorem JarAt.ne {H : Hp} {p b : Addr} {B : Int} (h : JarAt H p B) (n : H b = none) : b ≠ p := by
  obtain ⟨_, _, _, hp, _⟩ := h
  exact (ne_of_none hp n).symm
theorem JarAt.far {H : Hp} {p b : Addr} {B : Int} {o : HO} (h : JarAt H p B) (n : b ≠ p) : JarAt (upd H b o) p B := by
  obtain ⟨x, y, c, hp, r⟩ := h
  exact ⟨x, y, c, by rw [upd_ne n.symm]; exact hp, r⟩
theorem e18 : (10 : Int) ^ Int.toNat 18 = 1000000000000000000 := by decide +kernel
theorem e43 : (10 : Int) ^ Int.toNat 43 = 10000000000000000000000000000000000000000000 := by decide +kernel
theorem e46 : (10 : Int) ^ Int.toNat 46 = 10000000000000000000000000000000000000000000000 := by decide +kernel
theorem e46' : (10 : Int) ^ 46 = 10000000000000000000000000000000000000000000000 := by decide +kernel
theorem e47 : (10 : Int) ^ Int.toNat 47 = 100000000000000000000000000000000000000000000000 := by decide +kernel
theorem e26 : (10 : Int) ^ Int.toNat 26 = 100000000000000000000000000 := by decide +kernel
theorem e200 : (2 : Nat) ^ 200 = 1606938044258990275541962092341162602522202993782792835301376 := by decide +kernel
theorem pw10 {n : Int} (h0 : 0 ≤ n) (h : n ≤ 64) : CPowW 10 n := ⟨h0, h, 10, by decide, by decide⟩
theorem bnd {x c : Int} (h1 : 0 ≤ x) (h2 : x < 100000000000000000000000000000000000000000000091) (h3 : 0 ≤ c) (h4 : c ≤ 1000000000) : (x + 35000021 * (c + 1)).natAbs < 2 ^ 200 := by
  rw [e200]
  omega
def spJar (K : PySem.W.Frag) : Sp := fun vs H Q _ => ∃ (a : Addr) (ns : List Int) (k : Int), vs = [.ref a, .int k] ∧ SqL K H a (ns.map V.int) ∧ 0 ≤ k ∧ k ≤ 100 ∧ ∀ H' p, Same H H' → H p = none → JarAt H' p 0 → Q (.ref p) H'
def spDip : Sp := fun vs H Q _ => ∃ (p : Addr) (m B : Int), vs = [.ref p, .int m] ∧ JarAt H p B ∧ B ≤ 1000000000 ∧ 0 < m ∧ m < 2 ^ 3000 ∧ ∀ H' r, But p H H' → JarAt H' p (B + 1) → 0 ≤ r → r < m → Q (.int r) H'
section
variable {P : Program} {w : World} {K : PySem.W.Frag} {mg : Str → Option Value} {base : Heap}
theorem ok_jar {f : Addr} {fd : FuncData} {k : Nat} (F : Fun K "_law_jar" "_law_jar" s__law_jar f fd) (m_int : mg "int" = none) (m_abs : mg "abs" = none) (m_len : mg "len" = none) (m_max : mg "max" = none) : FnOk P w K mg base CX0 (k + 1) f fd ["script", "k"] (spJar K) := by
  refine F.ok sc__law_jar (fun vs H Q E h => ?_) (fun cdv A outer s H vs Q E hr h => ?_)
  · obtain ⟨a, ns, k, rfl, _⟩ := h
    rfl
  · obtain ⟨a, ns, k, rfl, hS, k0, k1, q⟩ := h
    refine ⟨_, (pss_cons (ps_set (i := 2) sc__law_jar.nd rfl (by first | exact Or.inl rfl | exact Or.inr rfl) (pe_ifExp (pt_cmpR op_lt (pv 1) (pe_callB (Fa.lenQ K) (by rfl) m_len PySem.boot_len (pa_cons (pv 0) pa_nil)) (nomark _)) (pe_callB call_abs (by rfl) m_abs PyProof.Rows.boot_abs (pa_cons (pe_ix (Fa.ixL K) (pv 0) (pv 1) (fun _ _ => rfl)) pa_nil)) pe_int))
  (pss_one (ps_ret (pe_lst (pa_cons (pe_callB (call_max2 rfl) (by rfl) m_max PyProof.Rows.boot_max (pa_cons pe_int (pa_cons (pe_op op_sub (pv 2) (pe_op Fa.op_powW pe_int pe_int)) pa_nil))) (pa_cons (pe_op op_add (pe_op op_mul (pe_op op_mod (pe_callTy call_int1 (by rfl) m_int PyProof.Rows.boot_int (pa_cons (pv 2) pa_nil)) (pe_op op_add (pe_op Fa.op_powW pe_int pe_int) pe_int)) pe_int) (pe_op op_mul pe_int (pv 1))) (pa_cons pe_int pa_nil))))))), ?_⟩
    have fin : ∀ x : Int, 0 ≤ x → 0 ≤ x % (10 ^ Int.toNat 43 + 57) * 101 + 70001 * k ∧ x % (10 ^ Int.toNat 43 + 57) * 101 + 70001 * k < 10 ^ 46 := fun x h => by
      have h1 := Int.emod_nonneg x (show (10 : Int) ^ Int.toNat 43 + 57 ≠ 0 by rw [e43]; decide)
      have h2 := Int.emod_lt_of_pos x (show (0 : Int) < (10 : Int) ^ Int.toNat 43 + 57 by rw [e43]; decide)
      rw [e43] at h1 h2 ⊢
      rw [e46']
      omega
    refine ⟨_, rfl, _, rfl, a, _, rfl, .inl hS, _, _, rfl, rfl, _, rfl, ite2 (fun e => ?_) (fun e => ?_)⟩
    · have hk : k < (ns.map V.int).length := of_decide_eq_true e
      rw [List.length_map] at hk
      obtain ⟨j, rfl⟩ : ∃ j : Nat, k = j := ⟨k.toNat, by omega⟩
      have hj : j < ns.length := by omega
      refine ⟨_, rfl, _, rfl, _, _, _, _, rfl, rfl, hS, atI_nat (v := .int ns[j]) ?_, _, rfl, ?_⟩
      · rw [List.getElem?_map, List.getElem?_eq_getElem hj]
        rfl
      have ab : 0 ≤ (if ns[j] < 0 then -ns[j] else ns[j]) := by split <;> omega
      generalize (if ns[j] < 0 then -ns[j] else ns[j]) = x at ab ⊢
      refine ⟨_, rfl, _, _, rfl, rfl, pw10 (by decide) (by decide), _, _, rfl, rfl, _, _, rfl, ?_⟩
      refine ⟨_, rfl, .inl ⟨_, rfl, _, _, rfl, rfl, pw10 (by decide) (by decide), _, _, rfl, rfl, _, _, rfl, rfl, (by show (0 : Int) < _; rw [e43]; decide), _, _, rfl, rfl, .inr ⟨by decide, by decide⟩, _, rfl, _, _, rfl, rfl, .inl ⟨by decide, by decide⟩, _, _, rfl, rfl, by show 3 ≤ sizeLine; decide, fun p np => ?_⟩⟩
      obtain ⟨f1, f2⟩ := fin x ab
      refine q _ p (same_new np) np ⟨_, _, _, upd_same, ?_, f1, f2, Int.le_refl _, Int.le_refl _⟩
      split <;> omega
    · refine ⟨_, rfl, _, _, rfl, rfl, pw10 (by decide) (by decide), _, _, rfl, rfl, _, _, rfl, ?_⟩
      refine ⟨_, rfl, .inl ⟨_, rfl, _, _, rfl, rfl, pw10 (by decide) (by decide), _, _, rfl, rfl, _, _, rfl, rfl, (by show (0 : Int) < _; rw [e43]; decide), _, _, rfl, rfl, .inr ⟨by decide, by decide⟩, _, rfl, _, _, rfl, rfl, .inl ⟨by decide, by decide⟩, _, _, rfl, rfl, by show 3 ≤ sizeLine; decide, fun p np => ?_⟩⟩
      obtain ⟨f1, f2⟩ := fin 0 (Int.le_refl _)
      refine q _ p (same_new np) np ⟨_, _, _, upd_same, ?_, f1, f2, Int.le_refl _, Int.le_refl _⟩
      split <;> omega
theorem ok_dip {f : Addr} {fd : FuncData} {k : Nat} (F : Fun K "_law_dip" "_law_dip" s__law_dip f fd) (m_int : mg "int" = none) : FnOk P w K mg base CX0 (k + 1) f fd ["jar", "many"] spDip := by
  refine F.ok sc__law_dip (fun vs H Q E h => ?_) (fun cdv A outer s H vs Q E hr h => ?_)
  · obtain ⟨p, m, B, rfl, _⟩ := h
    rfl
  · obtain ⟨p, m, B, rfl, ⟨a, b, c, hp, a0, b0, b1, c0, c1⟩, hB, m0, m1, q⟩ := h
    refine ⟨_, (pss_cons (ps_if (pt_cmpR op_gt (pe_ix (Fa.ixL K) (pv 0) pe_int (fun _ _ => rfl)) pe_int (nomark _)) (pss_cons (ps_set (i := 2) sc__law_dip.nd rfl (by first | exact Or.inl rfl | exact Or.inr rfl) (pe_op op_mod (pe_callTy call_int1 (by rfl) m_int PyProof.Rows.boot_int (pa_cons (pe_ix (Fa.ixL K) (pv 0) pe_int (fun _ _ => rfl)) pa_nil)) (pv 1)))
  (pss_cons (ps_asg (pe_op op_fdivW (pe_ix (Fa.ixL K) (pv 0) pe_int (fun _ _ => rfl)) (pv 1)) (pg_sub (pv 0) pe_int set_list))
  (pss_one (ps_ret (pv 2))))) pss_nil)
  (pss_cons (ps_asg (pe_op op_add (pe_ix (Fa.ixL K) (pv 0) pe_int (fun _ _ => rfl)) pe_int) (pg_sub (pv 0) pe_int set_list))
  (pss_cons (ps_set (i := 3) sc__law_dip.nd rfl (by first | exact Or.inl rfl | exact Or.inr rfl) (pe_op op_mod (pe_callTy call_int1 (by rfl) m_int PyProof.Rows.boot_int (pa_cons (pe_op Fa.op_powW (pe_op op_add (pe_ix (Fa.ixL K) (pv 0) pe_int (fun _ _ => rfl)) (pe_op op_mul pe_int (pe_ix (Fa.ixL K) (pv 0) pe_int (fun _ _ => rfl)))) pe_int) pa_nil)) (pe_op op_add (pe_op Fa.op_powW pe_int pe_int) pe_int)))
  (pss_cons (ps_set (i := 3) sc__law_dip.nd rfl (by first | exact Or.inl rfl | exact Or.inr rfl) (pe_op op_mod (pe_callTy call_int1 (by rfl) m_int PyProof.Rows.boot_int (pa_cons (pe_op Fa.op_powW (pe_op op_add (pv 3) (pe_op op_mul pe_int (pe_ix (Fa.ixL K) (pv 0) pe_int (fun _ _ => rfl)))) pe_int) pa_nil)) (pe_op op_add (pe_op Fa.op_powW pe_int pe_int) pe_int)))
  (pss_one (ps_ret (pe_op op_mod (pe_callTy call_int1 (by rfl) m_int PyProof.Rows.boot_int (pa_cons (pe_op op_fdivW (pv 3) pe_int) pa_nil)) (pv 1)))))))), ?_⟩
    have wl : m.natAbs.log2 < 9000 := (wide_div (i := 0) m0 (nat_lt_pow m0 m1) (by decide) (by decide)).2
    refine ⟨_, rfl, _, _, _, _, rfl, rfl, .inl (.inl hp), rfl, _, _, rfl, rfl, _, rfl, ite2 (fun e => ?_) (fun e => ?_)⟩
    · refine ⟨_, rfl, _, _, _, _, rfl, rfl, .inl (.inl hp), rfl, .inl ⟨_, rfl, _, rfl, _, _, rfl, rfl, m0, ?_⟩⟩
      refine ⟨_, rfl, _, _, _, _, rfl, rfl, .inl (.inl hp), rfl, _, rfl, _, _, rfl, rfl, ⟨m0, wl⟩, _, rfl, p, _, _, 0, rfl, rfl, hp, rfl, _, rfl, ?_⟩
      exact q _ _ (But.refl p H).upd ⟨_, b, c, upd_same, Int.ediv_nonneg a0 (by omega), b0, b1, c0, by omega⟩ (Int.emod_nonneg _ (by omega)) (Int.emod_lt_of_pos _ m0)
    · refine ⟨_, rfl, _, _, _, _, rfl, rfl, .inl (.inl hp), rfl, _, _, rfl, rfl, _, rfl, p, _, _, 2, rfl, rfl, hp, rfl, ?_⟩
      rw [e46'] at b1
      refine ⟨_, rfl, _, _, _, _, rfl, rfl, .inl (.inl upd_same), rfl, _, rfl, _, _, _, _, rfl, rfl, .inl (.inl upd_same), rfl, _, _, rfl, rfl, .inl ⟨by decide, by decide⟩, _, _, rfl, rfl, _, _, rfl, rfl, ⟨by decide, by decide, 200, by rw [e200]; omega, by decide⟩, .inl ⟨_, rfl, ?_⟩⟩
      refine ⟨_, _, rfl, rfl, pw10 (by decide) (by decide), _, _, rfl, rfl, _, _, rfl, rfl, (by show (0 : Int) < _; rw [e47]; decide), ?_⟩
      have g1 := Int.emod_nonneg ((b + 60000049 * (c + 1)) ^ Int.toNat 3) (show (10 : Int) ^ Int.toNat 47 + 91 ≠ 0 by rw [e47]; decide)
      have g2 := Int.emod_lt_of_pos ((b + 60000049 * (c + 1)) ^ Int.toNat 3) (show (0 : Int) < (10 : Int) ^ Int.toNat 47 + 91 by rw [e47]; decide)
      have g3 : (10 : Int) ^ Int.toNat 47 + 91 = 100000000000000000000000000000000000000000000091 := by rw [e47]; rfl
      have g4 := Int.lt_of_lt_of_le g2 (Int.le_of_eq g3)
      refine ⟨_, rfl, _, rfl, _, _, _, _, rfl, rfl, .inl (.inl upd_same), rfl, _, _, rfl, rfl, .inl ⟨by decide, by decide⟩, _, _, rfl, rfl, _, _, rfl, rfl, ⟨by decide, by decide, 200, bnd g1 g4 c0 (by omega), by decide⟩, .inl ⟨_, rfl, ?_⟩⟩
      refine ⟨_, _, rfl, rfl, pw10 (by decide) (by decide), _, _, rfl, rfl, _, _, rfl, rfl, (by show (0 : Int) < _; rw [e46]; decide), ?_⟩
      refine ⟨_, rfl, _, _, rfl, rfl, ⟨by decide, by decide⟩, .inl ⟨_, rfl, _, rfl, _, _, rfl, rfl, m0, ?_⟩⟩
      refine q _ _ (But.refl p H).upd ⟨a, b, _, upd_same, a0, b0, by rw [e46']; exact b1, by omega, by omega⟩ (Int.emod_nonneg _ (by omega)) (Int.emod_lt_of_pos _ m0)
end
end K01

/-! sorted of a family's tuples (pattern, many) -/
namespace Fa
open PySem PySem.Spec PyProof.Rows L2
theorem lex_eq : ∀ xs ys : List Int, HT.lexLt xs ys = false → HT.lexLt ys xs = false → xs = ys
  | [], [], _, _ => rfl
  | [], _ :: _, h, _ => by cases h
  | _ :: _, [], _, h => by cases h
  | x :: xs, y :: ys, h1, h2 => by
    rw [HT.lexLt_cons] at h1 h2
    by_cases e : x = y
    · rw [if_pos e] at h1
      rw [if_pos e.symm] at h2
      rw [e, lex_eq xs ys h1 h2]
    · rw [if_neg e] at h1
      rw [if_neg (fun z => e z.symm)] at h2
      have := of_decide_eq_false h1
      have := of_decide_eq_false h2
      omega
def lexF (p q : List Int × Int) : Bool := if p.1 = q.1 then decide (p.2 < q.2) else HT.lexLt p.1 q.1
theorem lexF_eq {p q : List Int × Int} (h : p.1 = q.1) : lexF p q = decide (p.2 < q.2) := if_pos h
theorem lexF_ne {p q : List Int × Int} (h : ¬ p.1 = q.1) : lexF p q = HT.lexLt p.1 q.1 := if_neg h
theorem swo_lexF {α : Type} (k : α → List Int × Int) : SrtO.Swo fun v u => lexF (k v) (k u) := by
  refine ⟨fun x y h => ?_, fun x y z h1 h2 => ?_⟩
  · by_cases e : (k x).1 = (k y).1
    · rw [lexF_eq e] at h
      rw [lexF_eq e.symm]
      have := of_decide_eq_true h
      exact decide_eq_false (by omega)
    · rw [lexF_ne e] at h
      rw [lexF_ne fun z => e z.symm]
      exact NtL.lex_asym _ _ h
  · by_cases e1 : (k y).1 = (k x).1
    · rw [lexF_eq e1] at h1
      by_cases e2 : (k z).1 = (k y).1
      · rw [lexF_eq e2] at h2
        rw [lexF_eq (e2.trans e1)]
        have := of_decide_eq_false h1
        have := of_decide_eq_false h2
        exact decide_eq_false (by omega)
      · rw [lexF_ne e2] at h2
        rw [lexF_ne fun q => e2 (q.trans e1.symm), ← e1]
        exact h2
    · rw [lexF_ne e1] at h1
      by_cases e2 : (k z).1 = (k y).1
      · rw [lexF_ne fun q => e1 (e2.symm.trans q), e2]
        exact h1
      · rw [lexF_ne e2] at h2
        by_cases e3 : (k z).1 = (k x).1
        · rw [e3] at h2
          exact absurd (lex_eq _ _ h1 h2) e1
        · rw [lexF_ne e3]
          exact NtL.lex_tr _ _ _ h1 h2
/-- v is the tuple (pattern, many) -/
def IsFm (h : Heap) (v : Value) (p : List Int × Int) : Prop := ∃ a b o t n its, v = .ref a ∧ h.get? a = some o ∧ o.cls = .type "tuple" ∧ o.data = .seq #[.ref b, .int p.2 t] n ∧ IsTup h b its ∧ IntsAre its.toList p.1
theorem isTup_keeps {h h' : Heap} {b : Addr} {its : Array Value} (t : IsTup h b its) (k : ∀ b o, h.get? b = some o → o.cls = .type "tuple" → h'.get? b = some o) : IsTup h' b its := by
  obtain ⟨o, ho, hc, r⟩ := t
  exact ⟨o, k _ _ ho hc, hc, r⟩
theorem IsFm.keeps {h h' : Heap} {v : Value} {p : List Int × Int} (f : IsFm h v p) (k : ∀ b o, h.get? b = some o → o.cls = .type "tuple" → h'.get? b = some o) : IsFm h' v p := by
  obtain ⟨a, b, o, t, n, its, e, ho, hc, hd, ht, hi⟩ := f
  exact ⟨a, b, o, t, n, its, e, k _ _ ho hc, hc, hd, isTup_keeps ht k, hi⟩
theorem reads_ints {h : Heap} : ∀ {us : List Value} {ns : List Int}, IntsAre us ns → ∃ as, ReadsAll h us (ns.map PyData.int) as
  | _, _, .nil => ⟨_, .nil⟩
  | _, _, .cons _ _ r => by
    obtain ⟨as, q⟩ := reads_ints (h := h) r
    exact ⟨_, .cons (.int _ _) q⟩
theorem reads_tup {h : Heap} {b : Addr} {its : Array Value} {ns : List Int} (t : IsTup h b its) (i : IntsAre its.toList ns) : ∃ as, Reads h (.ref b) (.tuple (ns.map PyData.int)) as := by
  obtain ⟨o, ho, hc, n, hd⟩ := t
  obtain ⟨as, q⟩ := reads_ints (h := h) i
  exact ⟨_, .tuple ho hc hd q⟩
theorem eqvAll_ints : ∀ l m : List Int, PyData.eqvAll (l.map PyData.int) (m.map PyData.int) = decide (l = m)
  | [], [] => by rw [decide_eq_true rfl] <;> rfl
  | [], _ :: _ => by rw [decide_eq_false (fun z => by cases z)] <;> rfl
  | _ :: _, [] => by rw [decide_eq_false (fun z => by cases z)] <;> rfl
  | x :: l, y :: m => by
    show (PyData.eqv (.int x) (.int y) && PyData.eqvAll (l.map PyData.int) (m.map PyData.int)) = _
    rw [eqvAll_ints l m, PyData.eqv]
    by_cases e : x = y
    · subst e
      by_cases e2 : l = m
      · subst e2
        rw [decide_eq_true rfl, decide_eq_true rfl, beq_self_eq_true] <;> rfl
      · rw [decide_eq_false e2, decide_eq_false (fun z => e2 (List.cons.inj z).2), Bool.and_false]
    · rw [decide_eq_false (fun z => e (List.cons.inj z).1), beq_eq_false_iff_ne.mpr e, Bool.false_and]
theorem eqv_tints (l m : List Int) : PyData.eqv (.tuple (l.map PyData.int)) (.tuple (m.map PyData.int)) = decide (l = m) := by
  rw [PyData.eqv, eqvAll_ints]
theorem eqv_lints (l m : List Int) : PyData.eqv (.list (l.map PyData.int)) (.list (m.map PyData.int)) = decide (l = m) := by
  rw [PyData.eqv, eqvAll_ints]
theorem canLay_ints : ∀ l : List Int, PyData.canLayAll0 (l.map PyData.int) = true
  | [] => rfl
  | _ :: r => canLay_ints r
theorem depth_ints : ∀ l : List Int, PyData.depthAll (l.map PyData.int) = 0
  | [] => rfl
  | _ :: r => by
    show max 0 (PyData.depthAll (r.map PyData.int)) = 0
    rw [depth_ints r]
    rfl
section
variable {prog : Program} {w : World} {A : Around} {s : Shared}
theorem fm_cmp {vs : List Value} {k : Value → List Int × Int} (hu : A.units + 1 < cLine) (hp : ∀ v ∈ vs, IsFm s.heap v (k v)) : SrtO.Cmp prog w A s (tuples' false) (fun p => p.1 ∈ vs) (SrtO.lt2 fun v u => lexF (k v) (k u)) := by
  intro p q hm hm'
  have h1 := hp _ hm
  have h2 := hp _ hm'
  show wpAny (model prog w) A (keyLt' (tuples' false) p.1 q.1) (fun r s' => s' = s ∧ r = lexF (k p.1) (k q.1)) (fun _ _ => False) s
  generalize k p.1 = x at h1 ⊢
  generalize k q.1 = y at h2 ⊢
  obtain ⟨a, b, o, t, n, its, e, ho, hc, hd, ht, hi⟩ := h1
  obtain ⟨a', b', o', t', n', its', e', ho', hc', hd', ht', hi'⟩ := h2
  rw [e, e']
  refine PySem.W.kat_lt ho hd ho' hd' ?_
  show PySem.W.KatLex prog w A false (decide (2 < 2)) _ [(.ref b, .ref b'), (.int x.2 t, .int y.2 t')] 0 s
  obtain ⟨as1, r1⟩ := reads_tup ht hi
  obtain ⟨as2, r2⟩ := reads_tup ht' hi'
  refine PySem.W.kat_cons (SeqAt.eqAt_reads _ _ A s _ _ _ _ r1 r2 (canLay_ints _) (canLay_ints _) ?_ prog w _ _ ?_)
  · have d1 : PyData.depth (.tuple (x.1.map PyData.int)) = 1 := by
      show PyData.depthAll _ + 1 = 1
      rw [depth_ints]
    rw [d1]
    have := Nat.min_le_left 1 (PyData.depth (.tuple (y.1.map PyData.int)))
    omega
  rw [eqv_tints]
  refine PySem.W.kat_go (fun e1 => ?_) (fun e1 => ?_)
  · have ex : x.1 = y.1 := of_decide_eq_true e1
    refine PySem.W.kat_yes (PySem.W.kat_cons (SeqAt.EqAt.int_int x.2 t y.2 t' prog w _ _ ?_))
    refine PySem.W.kat_go (fun e2 => ?_) (fun e2 => ?_)
    · have ey : x.2 = y.2 := by simpa using e2
      refine PySem.W.kat_yes (PySem.W.kat_nil ⟨rfl, ?_⟩)
      rw [lexF_eq ex, ey]
      exact (decide_eq_false (Int.lt_irrefl _)).symm
    · refine PySem.W.kat_no (PySem.W.kat_one _ _ (PyProof.Rows.lt_int ?_))
      exact (show s = s ∧ decide (x.2 < y.2) = lexF x y from ⟨rfl, (lexF_eq ex).symm⟩)
  · have ex : ¬ x.1 = y.1 := of_decide_eq_false e1
    refine PySem.W.kat_no (PySem.W.kat_one _ _ (HT.lt_tupInts ht ht' hi hi' (by omega) ?_))
    exact (show s = s ∧ HT.lexLt x.1 y.1 = lexF x y from ⟨rfl, (lexF_ne ex).symm⟩)
theorem firstsF {h : Heap} : ∀ {vs : List Value}, (∀ v ∈ vs, ∃ p, IsFm h v p) → ∃ fs : List Value, PySem.W.KatTups h vs fs ∧ fs.length = vs.length ∧ ∀ f ∈ fs, ∃ b o, f = Value.ref b ∧ h.get? b = some o ∧ o.cls = .type "tuple"
  | [], _ => ⟨[], PySem.W.KatTups.nil, rfl, fun _ hm => nomatch hm⟩
  | v :: vs, hp => by
    obtain ⟨fs, h1, h2, h3⟩ := firstsF (vs := vs) fun v' hm => hp v' (List.mem_cons_of_mem _ hm)
    obtain ⟨p, a, b, o, t, n, its, e, ho, hc, hd, ⟨o2, ho2, hc2, _⟩, _⟩ := hp v List.mem_cons_self
    subst e
    refine ⟨.ref b :: fs, PySem.W.KatTups.cons ho hc hd rfl h1, by rw [List.length_cons, List.length_cons, h2], fun f hm => ?_⟩
    rcases List.mem_cons.mp hm with rfl | hm
    · exact ⟨b, o2, rfl, ho2, hc2⟩
    · exact h3 f hm
theorem fm_sortable {a : Addr} {vs : List Value} {k : Value → List Int × Int} (hu : A.units + 1 < cLine) (h0 : 0 < vs.length) (hp : ∀ v ∈ vs, IsFm s.heap v (k v)) (ha : ∀ o, s.heap.get? a = some o → o.cls ≠ .type "tuple") : SrtO.SortableO prog w A s a vs fun v u => lexF (k v) (k u) := by
  intro h' keep
  have kk : ∀ b o, s.heap.get? b = some o → o.cls = .type "tuple" → h'.get? b = some o := fun b o e c => keep b o (fun z => by subst z; exact ha o e c) e
  have hp' : ∀ v ∈ vs, IsFm h' v (k v) := fun v hm => (hp v hm).keeps kk
  obtain ⟨fs, h1, h2, h3⟩ := firstsF fun v hm => ⟨_, hp' v hm⟩
  refine ⟨tuples' false, fun Q E hq => ?_, fm_cmp hu hp'⟩
  refine PySem.W.kat_kind (T := .type "tuple") h1 (by omega) (fun f hm => ?_) (by rfl) ?_
  · obtain ⟨b, o, rfl, ho, hc⟩ := h3 f hm
    intro A2 Q2 E2 s2 k2 q2
    exact wpAny_typeOf (T := "tuple") ⟨_, k2 _ _ ho, hc⟩ q2
  · have e : (Value.type "tuple" != Value.type "tuple") = false := by decide +kernel
    rw [e]
    exact hq
end
abbrev ltF (k : V → List Int × Int) (x y : V) : Bool := lexF (k x) (k y)
/-- sorted(xs), xs a list of tuples (pattern, many) -/
def rSortF (K : PySem.W.Frag) : List V → Hp → VK → Prop := fun vs H Q => ∃ (a : Addr) (xs : List V) (k : V → List Int × Int), vs = [V.ref a] ∧ SqL K H a xs ∧ (∀ x ∈ xs, ∃ t b, x = V.ref t ∧ H t = some (.tup [.ref b, .int (k x).2]) ∧ H b = some (.tup ((k x).1.map V.int))) ∧
  ∀ ys p, SrtO.Srtd (ltF k) ys → ys.Perm xs → H p = none → Q (.ref p) (upd H p (.lst ys))
theorem cr_sortF {X : Cx} (hu : X.A.units + 64 < cLine) : CallR X (.builtin "sorted") (rSortF X.K) := by
  intro pins s σ H vs us Q I r h
  obtain ⟨a, xs, k, rfl, hs, hx, q⟩ := h
  obtain ⟨its, rv, hl, hz⟩ := I.list hs
  obtain ⟨u, rfl, ru⟩ := vals1 r
  obtain rfl : u = Value.ref a := ru
  obtain ⟨e1, e2⟩ := refs_back rv fun x m => by
    obtain ⟨t, _, e, _⟩ := hx x m
    exact ⟨t, e⟩
  have fm : ∀ v ∈ its, IsFm s.heap v (k (backV v)) := fun v hv => by
    obtain ⟨t, rfl⟩ := e2 v hv
    have hm : V.ref t ∈ xs := by
      rw [e1]
      exact List.mem_map.mpr ⟨_, hv, rfl⟩
    obtain ⟨t', b, e, ht, hb⟩ := hx _ hm
    cases e
    obtain ⟨_, its2, r2, o, ho, hc, n, hd⟩ := I.hok _ _ ht
    obtain ⟨u1, u2, rfl, ri, rj⟩ := vals2 r2
    obtain rfl : u1 = Value.ref b := ri
    obtain ⟨t2, rfl⟩ := rj
    obtain ⟨_, its3, r3, ht3⟩ := I.hok _ _ hb
    exact ⟨t, b, o, t2, n, its3.toArray, rfl, ho, hc, hd, ht3, intsAre_of r3⟩
  refine SrtO.sorted_ord (swo_lexF fun u => k (backV u)) hl.isList (by rw [← rv.length]; exact hz) (fun h2 h₁ a' ha kk => ?_) fun out h1 h2 => ?_
  · refine fm_sortable (s := { s with heap := h₁ }) (by show X.A.units + 1 + 1 + 1 < cLine; omega) (by omega) (fun v hm => (fm v hm).keeps fun b o e _ => (kk b o e).2) fun o e => ?_
    have e' : some o = some (seqObj "list" its.toArray 0) := e.symm.trans ha
    cases e'
    intro c
    exact absurd (Value.type.inj c) (by decide)
  · have h3 : ∀ u ∈ out, ∃ a, u = Value.ref a := fun u hu => e2 u (h2.perm.mem_iff.mp hu)
    have hb : (out.map backV).Perm xs := by
      rw [e1]
      exact h2.perm.map backV
    obtain ⟨n, hn⟩ := PyProof.Rows.sortedAll_at s.heap its out.toArray
    refine ⟨.ref (s.heap.objs.size + 1), upd H (s.heap.objs.size + 1) (.lst (out.map backV)), I.laid (t' := s.toks) (fun b o e => PyProof.Rows.sortedAll_old e) (Nat.le_succ _) ⟨?_, out, n, vals_back h3, hn⟩, rfl, q _ _ (SrtO.srtd_map h1) hb (I.hok.fresh (Nat.le_succ _))⟩
    rw [hb.length_eq]
    exact hz
theorem sortF (K : PySem.W.Frag) {X : Cx} (hu : X.A.units + 64 < cLine) (h : X.K = K := by rfl) : CallR X (.builtin "sorted") (rSortF K) := h ▸ cr_sortF hu
end Fa

/-! families: patterns with how many; in a heap; in a dict while it is filled -/
namespace Fa
open PySem PySem.Spec PyProof.Rows L2
/-- a pattern of days below n -/
structure Pat (n : Int) (ds : List Int) : Prop where
  ne : ds ≠ []
  asc : ds.Pairwise (· < ·)
  bd : ∀ d ∈ ds, 0 ≤ d ∧ d < n
abbrev Fm : Type := List (List Int × Int)
/-- a family: ascending, unlike patterns, each at least once and at most c times -/
structure Fam (n c : Int) (fam : Fm) : Prop where
  asc : fam.Pairwise fun p q => HT.lexLt p.1 q.1 = true
  pat : ∀ p ∈ fam, Pat n p.1
  bd : ∀ p ∈ fam, 1 ≤ p.2 ∧ p.2 ≤ c
/-- at t: the tuple (pattern, many) -/
def FmAt (H : Hp) (x : V) (p : List Int × Int) : Prop := ∃ t b, x = .ref t ∧ H t = some (.tup [.ref b, .int p.2]) ∧ H b = some (.tup (p.1.map V.int))
def FamAt (H : Hp) (a : Addr) (fam : Fm) : Prop := ∃ xs : List V, H a = some (.lst xs) ∧ Paired (FmAt H) xs fam
theorem FmAt.keep {H H' : Hp} {x : V} {p : List Int × Int} (h : FmAt H x p) (k : ∀ b xs, H b = some (.tup xs) → H' b = some (.tup xs)) : FmAt H' x p := by
  obtain ⟨t, b, e, h1, h2⟩ := h
  exact ⟨t, b, e, k _ _ h1, k _ _ h2⟩
theorem FamAt.keep {H H' : Hp} {a : Addr} {fam : Fm} (h : FamAt H a fam) (ha : ∀ xs, H a = some (.lst xs) → H' a = some (.lst xs)) (k : ∀ b xs, H b = some (.tup xs) → H' b = some (.tup xs)) : FamAt H' a fam := by
  obtain ⟨xs, e, p⟩ := h
  exact ⟨xs, ha _ e, L2.Paired.mapP p fun _ _ q => q.keep k⟩
theorem FamAt.same {H H' : Hp} {a : Addr} {fam : Fm} (h : FamAt H a fam) (s : Same H H') : FamAt H' a fam := h.keep (fun _ e => s _ _ e) fun _ _ e => s _ _ e
theorem paired_len {α β : Type} {F : α → β → Prop} {l : List α} {m : List β} (h : Paired F l m) : l.length = m.length := Paired.length h
theorem paired_at {α β : Type} {F : α → β → Prop} : ∀ {l : List α} {m : List β} {i : Nat} {x : α}, Paired F l m → l[i]? = some x → ∃ y, m[i]? = some y ∧ F x y
  | _, _, _, _, .nil, e => by simp at e
  | _, _, 0, _, .cons r _, e => by
    simp at e
    subst e
    exact ⟨_, rfl, r⟩
  | _, _, i + 1, x, .cons _ t, e => by
    obtain ⟨y, h1, h2⟩ := paired_at (i := i) (x := x) t (by simpa using e)
    exact ⟨y, by simpa using h1, h2⟩
/-! ### the dict of a family while it is filled -/
structure KvOk (n c : Int) (i : Nat) (kvs : List (List Key × V)) : Prop where
  nd : (kvs.map (·.1)).Nodup
  len : kvs.length ≤ i
  ok : ∀ kv ∈ kvs, ∃ ds m, kv = (ds.map Sum.inl, V.int m) ∧ Pat n ds ∧ 1 ≤ m ∧ m ≤ c * i
theorem kvOk_nil {n c : Int} : KvOk n c 0 [] := ⟨List.nodup_nil, Nat.le_refl _, fun _ h => nomatch h⟩
theorem kvOk_get {n c : Int} {i : Nat} {kvs : List (List Key × V)} (h : KvOk n c i kvs) (c0 : 0 ≤ c) (k : List Key) : ∃ m, (valV kvs k).getD (.int 0) = .int m ∧ 0 ≤ m ∧ m ≤ c * i := by
  unfold valV
  cases e : kvs.find? fun kv => decide (kv.1 = k) with
  | none => exact ⟨0, rfl, Int.le_refl _, Int.mul_nonneg c0 (by omega)⟩
  | some kv =>
    obtain ⟨ds, m, rfl, _, h1, h2⟩ := h.ok kv (List.mem_of_find?_eq_some e)
    exact ⟨m, rfl, by omega, h2⟩
theorem kvOk_put {n c : Int} {i : Nat} {kvs : List (List Key × V)} (h : KvOk n c i kvs) (c0 : 0 ≤ c) {ds : List Int} {m : Int} (p : Pat n ds) (h1 : 1 ≤ m) (h2 : m ≤ c * (i + 1)) : KvOk n c (i + 1) (putK kvs (ds.map Sum.inl) (.int m)) := by
  have up : ∀ kv ∈ kvs, ∃ ds m, kv = (ds.map Sum.inl, V.int m) ∧ Pat n ds ∧ 1 ≤ m ∧ m ≤ c * ((i + 1 : Nat) : Int) := fun kv hk => by
    obtain ⟨d, m, e, q, b1, b2⟩ := h.ok kv hk
    refine ⟨d, m, e, q, b1, ?_⟩
    have : c * ((i + 1 : Nat) : Int) = c * i + c := by
      rw [Int.natCast_add]
      rw [Int.mul_add]
      show c * i + c * 1 = _
      rw [Int.mul_one]
    omega
  unfold putK
  by_cases e : (kvs.any fun kv => decide (kv.1 = ds.map Sum.inl)) = true
  · rw [if_pos e]
    refine ⟨?_, ?_, fun kv hk => ?_⟩
    · rw [List.map_map, show ((fun x : List Key × V => x.1) ∘ fun kv : List Key × V => if kv.1 = ds.map Sum.inl then (kv.1, V.int m) else kv) = fun kv => kv.1 by
        funext kv
        show (if kv.1 = ds.map Sum.inl then (kv.1, V.int m) else kv).1 = kv.1
        split <;> rfl]
      exact h.nd
    · rw [List.length_map]
      have := h.len
      omega
    · obtain ⟨kv0, h0, rfl⟩ := List.mem_map.mp hk
      by_cases q : kv0.1 = ds.map Sum.inl
      · rw [if_pos q, q]
        exact ⟨ds, m, rfl, p, h1, by rw [Int.natCast_add]; exact h2⟩
      · rw [if_neg q]
        exact up kv0 h0
  · rw [if_neg e]
    refine ⟨?_, ?_, fun kv hk => ?_⟩
    · rw [List.map_append, List.nodup_append]
      refine ⟨h.nd, List.pairwise_singleton _ _, fun a ha b hb => ?_⟩
      have hb' : b = ds.map Sum.inl := List.mem_singleton.mp hb
      intro z
      refine e (List.any_eq_true.mpr ?_)
      obtain ⟨kv, h0, e0⟩ := List.mem_map.mp ha
      exact ⟨kv, h0, decide_eq_true (e0.trans (z.trans hb'))⟩
    · rw [List.length_append]
      have := h.len
      simp only [List.length_singleton]
      omega
    · rcases List.mem_append.mp hk with hk | hk
      · exact up kv hk
      · rw [List.mem_singleton.mp hk]
        exact ⟨ds, m, rfl, p, h1, by rw [Int.natCast_add]; exact h2⟩
/-- the family of the dict's pairs, in the dict's order -/
def famOf (kvs : List (List Key × V)) : Fm := kvs.map fun kv => (kv.1.map fun | .inl i => i | .inr _ => 0, match kv.2 with | .int m => m | _ => 0)
theorem famOf_at {n c : Int} {i : Nat} {kvs : List (List Key × V)} (h : KvOk n c i kvs) {j : Nat} {k : List Key} {v : V} (e : kvs[j]? = some (k, v)) : ∃ ds m, k = ds.map Sum.inl ∧ v = .int m ∧ (famOf kvs)[j]? = some (ds, m) := by
  obtain ⟨ds, m, e2, _⟩ := h.ok (k, v) (List.mem_of_getElem? e)
  obtain ⟨rfl, rfl⟩ := Prod.mk.inj e2
  refine ⟨ds, m, rfl, rfl, ?_⟩
  unfold famOf
  rw [List.getElem?_map, e]
  show some ((ds.map Sum.inl).map _, m) = some (ds, m)
  rw [List.map_map, show ((fun | .inl i => i | .inr _ => 0 : Key → Int) ∘ Sum.inl) = id from rfl, List.map_id]
theorem famOf_all {n c : Int} {i : Nat} {kvs : List (List Key × V)} (h : KvOk n c i kvs) : (∀ p ∈ famOf kvs, Pat n p.1 ∧ 1 ≤ p.2 ∧ p.2 ≤ c * i) ∧ ((famOf kvs).map (·.1)).Nodup ∧ (famOf kvs).length = kvs.length := by
  have key : ∀ kv ∈ kvs, ∃ ds m, kv = (ds.map Sum.inl, V.int m) ∧ Pat n ds ∧ 1 ≤ m ∧ m ≤ c * i := h.ok
  refine ⟨fun p hp => ?_, ?_, ?_⟩
  · obtain ⟨j, hj, e⟩ := List.mem_iff_getElem.mp hp
    have hj' : j < kvs.length := by
      unfold famOf at hj
      rw [List.length_map] at hj
      exact hj
    have e1 : kvs[j]? = some (kvs[j].1, kvs[j].2) := List.getElem?_eq_getElem hj'
    obtain ⟨ds, m, k1, v1, e2⟩ := famOf_at h e1
    rw [List.getElem?_eq_getElem hj, e] at e2
    obtain ⟨d2, m2, e3, q⟩ := key kvs[j] (List.getElem_mem hj')
    have e4 : (kvs[j].1, kvs[j].2) = (d2.map Sum.inl, V.int m2) := e3
    obtain ⟨z1, z2⟩ := Prod.mk.inj e4
    rw [k1] at z1
    rw [v1] at z2
    have d : ds = d2 := (List.map_inj_right fun _ _ hh => Sum.inl.inj hh).mp z1
    have mm : m = m2 := V.int.inj z2
    rw [Option.some.inj e2, d, mm]
    exact q
  · unfold famOf
    rw [List.map_map]
    have nd := h.nd
    have : ∀ l : List (List Key × V), (∀ kv ∈ l, ∃ ds m, kv = (ds.map Sum.inl, V.int m) ∧ Pat n ds ∧ 1 ≤ m ∧ m ≤ c * i) → (l.map (·.1)).Nodup → (l.map ((·.1) ∘ fun kv : List Key × V => ((kv.1.map fun | .inl i => i | .inr _ => 0 : List Int), (match kv.2 with | .int m => m | _ => 0 : Int)))).Nodup := by
      intro l hl hn
      induction l with
      | nil => exact List.nodup_nil
      | cons a l ih =>
        rw [List.map_cons, List.nodup_cons] at hn ⊢
        refine ⟨fun hm => hn.1 ?_, ih (fun kv hk => hl kv (List.mem_cons_of_mem _ hk)) hn.2⟩
        obtain ⟨b, hb, eb⟩ := List.mem_map.mp hm
        obtain ⟨d1, m1, e1, _⟩ := hl a List.mem_cons_self
        obtain ⟨d2, m2, e2, _⟩ := hl b (List.mem_cons_of_mem _ hb)
        subst e1 e2
        have q : (d2.map Sum.inl : List Key).map (fun | .inl i => i | .inr _ => 0) = (d1.map Sum.inl : List Key).map (fun | .inl i => i | .inr _ => 0) := eb
        rw [List.map_map, List.map_map, show ((fun | .inl i => i | .inr _ => 0 : Key → Int) ∘ Sum.inl) = id from rfl, List.map_id, List.map_id] at q
        subst q
        exact List.mem_map.mpr ⟨_, hb, rfl⟩
    exact this kvs key nd
  · unfold famOf
    rw [List.length_map]
/-- unlike patterns in order: ascending -/
theorem sorted_fam {k : V → List Int × Int} {ys : List V} (hs : SrtO.Srtd (ltF k) ys) (nd : (ys.map fun y => (k y).1).Nodup) : (ys.map k).Pairwise fun p q => HT.lexLt p.1 q.1 = true := by
  rw [List.pairwise_map]
  have nd' : ys.Pairwise fun x y => (k x).1 ≠ (k y).1 := List.pairwise_map.mp nd
  have hs' : ys.Pairwise fun x y => ltF k y x = false := hs
  refine (hs'.and nd').imp fun {x y} h => ?_
  have h1 : lexF (k y) (k x) = false := h.1
  rw [lexF_ne fun z => h.2 z.symm] at h1
  cases e : HT.lexLt (k x).1 (k y).1 with
  | true => rfl
  | false => exact absurd (lex_eq _ _ e h1) h.2
theorem ints_inj : ∀ {l m : List Int}, l.map V.int = m.map V.int → l = m
  | [], [], _ => rfl
  | [], _ :: _, h => by cases h
  | _ :: _, [], h => by cases h
  | x :: l, y :: m, h => by
    obtain ⟨h1, h2⟩ := List.cons.inj h
    rw [V.int.inj h1, ints_inj h2]
theorem FmAt.inj {H : Hp} {x : V} {p q : List Int × Int} (h : FmAt H x p) (h' : FmAt H x q) : p = q := by
  obtain ⟨t, b, rfl, h1, h2⟩ := h
  obtain ⟨t', b', e, h3, h4⟩ := h'
  cases e
  rw [h1] at h3
  have e2 := HO.tup.inj (Option.some.inj h3)
  obtain ⟨e3, e4⟩ := List.cons.inj e2
  cases e3
  have e5 := V.int.inj (List.cons.inj e4).1
  rw [h2] at h4
  have e6 := ints_inj (HO.tup.inj (Option.some.inj h4))
  exact Prod.ext e6 e5
theorem fm_key {H : Hp} {xs : List V} {fam : Fm} (h : Paired (FmAt H) xs fam) : ∃ k : V → List Int × Int, xs.map k = fam ∧ ∀ x ∈ xs, FmAt H x (k x) := by
  classical
  refine ⟨fun x => if e : ∃ p, FmAt H x p then e.choose else ([], 0), ?_, ?_⟩
  · induction h with
    | nil => rfl
    | cons r t ih =>
      rw [List.map_cons, ih]
      refine congrArg (· :: _) ?_
      have e : ∃ p, FmAt H _ p := ⟨_, r⟩
      rw [dif_pos e]
      exact e.choose_spec.inj r
  · intro x hx
    obtain ⟨i, hi, e⟩ := List.mem_iff_getElem.mp hx
    obtain ⟨y, _, hy⟩ := paired_at h (by rw [List.getElem?_eq_getElem hi, e])
    have e : ∃ p, FmAt H x p := ⟨_, hy⟩
    show FmAt H x (if e : ∃ p, FmAt H x p then e.choose else ([], 0))
    rw [dif_pos e]
    exact e.choose_spec
theorem paired_map {H : Hp} {k : V → List Int × Int} : ∀ {ys : List V}, (∀ y ∈ ys, FmAt H y (k y)) → Paired (FmAt H) ys (ys.map k)
  | [], _ => .nil
  | _ :: _, h => .cons (h _ List.mem_cons_self) (paired_map fun y hy => h y (List.mem_cons_of_mem _ hy))
/-- the sorted list is a family -/
theorem fam_of_sorted {H : Hp} {n c : Int} {i : Nat} {kvs : List (List Key × V)} {xs ys : List V} {k : V → List Int × Int} (hk : KvOk n c i kvs) (e : xs.map k = famOf kvs) (hx : ∀ x ∈ xs, FmAt H x (k x)) (hs : SrtO.Srtd (ltF k) ys) (hp : ys.Perm xs) :
    Paired (FmAt H) ys (ys.map k) ∧ Fam n (c * i) (ys.map k) ∧ (ys.map k).length ≤ i := by
  obtain ⟨h1, h2, h3⟩ := famOf_all hk
  have pm : (ys.map k).Perm (famOf kvs) := by
    rw [← e]
    exact hp.map k
  refine ⟨paired_map fun y hy => hx y (hp.mem_iff.mp hy), ⟨sorted_fam hs ?_, fun p hm => (h1 p (pm.mem_iff.mp hm)).1, fun p hm => (h1 p (pm.mem_iff.mp hm)).2⟩, ?_⟩
  · have q := pm.map (·.1)
    rw [List.map_map] at q
    exact q.nodup_iff.mpr h2
  · rw [pm.length_eq, h3]
    exact hk.len
theorem valV_at {κ : Type} [DecidableEq κ] : ∀ {kvs : List (κ × V)} {j : Nat} {k : κ} {v : V}, (kvs.map (·.1)).Nodup → kvs[j]? = some (k, v) → valV kvs k = some v
  | [], _, _, _, _, e => by simp at e
  | a :: l, 0, k, v, _, e => by
    simp at e
    subst e
    exact valV_pos rfl
  | a :: l, j + 1, k, v, nd, e => by
    rw [List.map_cons, List.nodup_cons] at nd
    have e' : l[j]? = some (k, v) := by simpa using e
    rw [valV_neg fun z => nd.1 (by
      rw [z]
      exact List.mem_map.mpr ⟨_, List.mem_of_getElem? e', rfl⟩)]
    exact valV_at nd.2 e'
theorem paired_snoc {α β : Type} {F : α → β → Prop} : ∀ {l : List α} {m : List β} {a : α} {b : β}, Paired F l m → F a b → Paired F (l ++ [a]) (m ++ [b])
  | _, _, _, _, .nil, h => .cons h .nil
  | _, _, _, _, .cons r t, h => .cons r (paired_snoc t h)
end Fa

namespace K01
open PySem PySem.Spec PyProof.Rows L2 Fa
abbrev s__law_days : Stmt := topS 38
abbrev N__law_days : List Str := ["jar", "count_here", "way_here", "begin", "wide", "found", "spot"]
theorem sc__law_days : FnScope N__law_days ["jar", "count_here"] (defScope s__law_days) := ⟨rfl, rfl, rfl, by decide +kernel, rfl, by decide +kernel, by decide +kernel⟩
def spMany : Sp := fun vs H Q _ => ∃ (p : Addr) (B : Int), vs = [.ref p] ∧ JarAt H p B ∧ B ≤ 900000000 ∧ ∀ H' r, Kp p H H' → JarAt H' p (B + 2) → 1 ≤ r → r ≤ 100000000000000000000000000 → Q (.int r) H'
def spDays : Sp := fun vs H Q _ => ∃ (p : Addr) (n B : Int), vs = [.ref p, .int n] ∧ JarAt H p B ∧ B ≤ 900000000 ∧ 1 ≤ n ∧ n ≤ 30 ∧
  ∀ H' t ds, Kp p H H' → H t = none → H' t = some (.tup (ds.map V.int)) → Pat n ds → JarAt H' p (B + 40) → Q (.ref t) H'
theorem lt3000 {x : Int} (h : x ≤ 100000000000000000000000000000000) : x < 2 ^ 3000 := by
  have e : (100000000000000000000000000000000 : Int) < 2 ^ 3000 := by decide +kernel
  omega
section
variable {P : Program} {w : World} {K : PySem.W.Frag} {mg : Str → Option Value} {base : Heap}
theorem ok_many {f fD : Addr} {fd fdD : FuncData} {k : Nat} (F : Fun K "_law_many" "_law_many" s__law_many f fd) (F__law_dip : Fun K "_law_dip" "_law_dip" s__law_dip fD fdD) (G__law_dip : FnOk P w K mg base CX0 k fD fdD ["jar", "many"] spDip) (b__law_dip : Binds K fdD ["jar", "many"] [])
    (g__law_dip : mg "_law_dip" = some (.ref fD)) : FnOk P w K mg base CX0 (k + 1) f fd ["jar"] spMany := by
  refine F.ok sc__law_many (fun vs H Q E h => ?_) (fun cdv A outer s H vs Q E hr h => ?_)
  · obtain ⟨p, B, rfl, _⟩ := h
    rfl
  · obtain ⟨p, B, rfl, hJ, hB, q⟩ := h
    refine ⟨_, (pss_one (ps_ret (pe_op op_add pe_int (pe_call G__law_dip (hr.mono (by omega)) (by rfl) g__law_dip F__law_dip.kp b__law_dip .nil pass0 (pa_cons (pv 0) (pa_cons (pe_ix (Fa.ixL K) (pe_lst (pa_cons pe_int (pa_cons pe_int (pa_cons (pe_op Fa.op_powW pe_int pe_int) pa_nil)))) (pe_call G__law_dip (hr.mono (by omega)) (by rfl) g__law_dip F__law_dip.kp b__law_dip .nil pass0 (pa_cons (pv 0) (pa_cons pe_int pa_nil))) (fun _ _ => rfl)) pa_nil)))))), ?_⟩
    refine ⟨_, rfl, _, _, rfl, rfl, pw10 (by decide) (by decide), by show 3 ≤ sizeLine; decide, fun l nl => ?_⟩
    have nlp := hJ.ne nl
    refine ⟨_, rfl, p, 3, B, rfl, hJ.far nlp, by omega, by decide, lt3000 (by decide), fun H1 r1 b1 hJ1 r0 r3 => ?_⟩
    obtain ⟨m, eA, m0, m1⟩ : ∃ m : Int, atI [V.int 3, V.int 50, V.int (10 ^ Int.toNat 26)] r1 = some (V.int m) ∧ 0 < m ∧ m ≤ 100000000000000000000000000 := by
      have e : r1 = 0 ∨ r1 = 1 ∨ r1 = 2 := by omega
      rcases e with rfl | rfl | rfl
      · exact ⟨3, rfl, by decide, by decide⟩
      · exact ⟨50, rfl, by decide, by decide⟩
      · exact ⟨10 ^ Int.toNat 26, rfl, by rw [e26]; decide, by rw [e26]; decide⟩
    refine ⟨l, _, _, _, rfl, rfl, .inl (.inl ((b1 l nlp).trans upd_same)), eA, ?_⟩
    refine ⟨p, m, B + 1, rfl, hJ1, by omega, m0, lt3000 (by omega), fun H2 r2 b2 hJ2 r20 r2m => ⟨_, _, rfl, rfl, ?_⟩⟩
    exact q _ _ ((kp_new nl).trans (b1.trans b2).kp) (hJ2.mono (by omega)) (by omega) (by omega)
theorem ok_days {f fD : Addr} {fd fdD : FuncData} {k : Nat} (F : Fun K "_law_days" "_law_days" s__law_days f fd) (F__law_dip : Fun K "_law_dip" "_law_dip" s__law_dip fD fdD) (G__law_dip : FnOk P w K mg base CX0 k fD fdD ["jar", "many"] spDip) (b__law_dip : Binds K fdD ["jar", "many"] [])
    (g__law_dip : mg "_law_dip" = some (.ref fD)) (m_tuple : mg "tuple" = none) (m_range : mg "range" = none) : FnOk P w K mg base CX0 (k + 1) f fd ["jar", "count_here"] spDays := by
  refine F.ok sc__law_days (fun vs H Q E h => ?_) (fun cdv A outer s H vs Q E hr h => ?_)
  · obtain ⟨p, n, B, rfl, _⟩ := h
    rfl
  · obtain ⟨p, n, B, rfl, hJ, hB, n1, n30, q⟩ := h
    refine ⟨_, (pss_cons (ps_set (i := 2) sc__law_days.nd rfl (by first | exact Or.inl rfl | exact Or.inr rfl) (pe_call G__law_dip (hr.mono (by omega)) (by rfl) g__law_dip F__law_dip.kp b__law_dip .nil pass0 (pa_cons (pv 0) (pa_cons pe_int pa_nil))))
  (pss_cons (ps_if (pt_cmpR op_eq (pv 2) pe_int (nomark _)) (pss_cons (ps_set (i := 3) sc__law_days.nd rfl (by first | exact Or.inl rfl | exact Or.inr rfl) (pe_call G__law_dip (hr.mono (by omega)) (by rfl) g__law_dip F__law_dip.kp b__law_dip .nil pass0 (pa_cons (pv 0) (pa_cons (pv 1) pa_nil))))
  (pss_one (ps_ret (pe_tupRg rfl (by rfl) m_tuple (prg_2 (by rfl) m_range (pv 3) (pe_op op_add (pe_op op_add (pv 3) pe_int) (pe_call G__law_dip (hr.mono (by omega)) (by rfl) g__law_dip F__law_dip.kp b__law_dip .nil pass0 (pa_cons (pv 0) (pa_cons (pe_op op_sub (pv 1) (pv 3)) pa_nil))))))))) pss_nil)
  (pss_cons (ps_set (i := 4) sc__law_days.nd rfl (by first | exact Or.inl rfl | exact Or.inr rfl) (pe_ix (Fa.ixL K) (pe_lst (pa_cons pe_int (pa_cons pe_int pa_nil))) (pe_op op_sub (pv 2) pe_int) (fun _ _ => rfl)))
  (pss_cons (ps_setLc (i := 5) (own := [("spot", 6)]) (g := (gName 6)) rfl sc__law_days.nd rfl rfl (sw_true rfl rfl rfl (by decide +kernel)) (pi_range1 (by rfl) m_range (pa_cons (pv 1) pa_nil)) (blkOk_by (N := N__law_days) (sc := defScope s__law_days) (by decide +kernel)) (fun _ _ _ _ _ => (pg_name (i := 6) sc__law_days.nd rfl (by first | exact Or.inl rfl | exact Or.inr rfl))) (fun _ _ _ _ _ => (pts_one (pt_cmpR op_eq (pe_call G__law_dip (hr.mono (by omega)) (by rfl) g__law_dip F__law_dip.kp b__law_dip .nil pass0 (pa_cons (pv 0) (pa_cons (pv 4) pa_nil))) pe_int (nomark _)))) (fun _ _ _ _ _ => (pv 6)))
  (pss_one (ps_ret (pe_ifExp (pt_cmpR (Fa.neQ K hr.units) (pv 5) (pe_lst pa_nil) (nomark _)) (pe_callTy (Fa.tupQ K) (by rfl) m_tuple PyProof.Rows.boot_tuple (pa_cons (pv 5) pa_nil)) (pe_tup (pa_cons (pe_call G__law_dip (hr.mono (by omega)) (by rfl) g__law_dip F__law_dip.kp b__law_dip .nil pass0 (pa_cons (pv 0) (pa_cons (pv 1) pa_nil))) pa_nil))))))))), ?_⟩
    refine ⟨_, rfl, p, 3, B, rfl, hJ, by omega, by decide, lt3000 (by decide), fun H1 r1 b1 hJ1 r0 r3 => ?_⟩
    refine ⟨_, rfl, rfl, _, rfl, ite2 (fun e => ?_) (fun e => ?_)⟩
    · refine ⟨_, rfl, _, rfl, p, n, B + 1, rfl, hJ1, by omega, by omega, lt3000 (by omega), fun H2 r2 b2 hJ2 r20 r2n => ?_⟩
      refine ⟨_, rfl, _, rfl, _, _, rfl, rfl, _, rfl, _, rfl, _, rfl, _, _, rfl, rfl, p, n - r2, B + 1 + 1, rfl, hJ2, by omega, by omega, lt3000 (by omega), fun H3 r3 b3 hJ3 r30 r3n => ⟨_, _, rfl, rfl, ?_⟩⟩
      refine ⟨_, _, rfl, rfl, RgOk.of_le (by omega) (by omega) (by omega) (by omega), fun t nt => ?_⟩
      have nt' := hJ3.ne nt
      have kp := (b1.trans (b2.trans b3)).kp
      refine q _ t ((List.range (r2 + 1 + r3 - r2).toNat).map fun i : Nat => r2 + (i : Int)) (kp.trans (kp_new nt)) (kp.free nt' nt) ?_ ⟨?_, ?_, ?_⟩ ((hJ3.far nt').mono (by omega))
      · rw [upd_same, List.map_map]
        rfl
      · intro z
        have := congrArg List.length z
        rw [List.length_map, List.length_range] at this
        simp only [List.length_nil] at this
        omega
      · rw [List.pairwise_map]
        exact (List.pairwise_lt_range).imp fun h => by omega
      · intro d hd
        obtain ⟨i, hi, rfl⟩ := List.mem_map.mp hd
        have := List.mem_range.mp hi
        omega
    · have e' : r1 ≠ 0 := fun z => e (decide_eq_true (congrArg V.int z))
      refine ⟨by show 2 ≤ sizeLine; decide, fun l nl => ?_⟩
      have nlp := hJ1.ne nl
      obtain ⟨m, eA, m0, m1⟩ : ∃ m : Int, atI [V.int 5, V.int 2] (r1 - 1) = some (V.int m) ∧ 0 < m ∧ m ≤ 5 := by
        have e : r1 = 1 ∨ r1 = 2 := by omega
        rcases e with rfl | rfl
        · exact ⟨5, rfl, by decide, by decide⟩
        · exact ⟨2, rfl, by decide, by decide⟩
      refine ⟨_, rfl, _, _, rfl, rfl, l, _, _, _, rfl, rfl, .inl (.inl upd_same), eA, ?_⟩
      have hJ2 := hJ1.far (o := .lst [.int 5, .int 2]) nlp
      have k2 : Kp p H (upd H1 l (.lst [.int 5, .int 2])) := b1.kp.trans (kp_new nl)
      generalize upd H1 l _ = H2 at hJ2 k2 ⊢
      refine ⟨_, rfl, n, rfl, by omega, by omega, fun D nD => ?_⟩
      have nDp := hJ2.ne nD
      refine lc_range (lo := 0) (fun i H3 => JarAt H3 p (B + 1 + i) ∧ Kp p H2 H3 ∧ ∃ ds : List Int, H3 D = some (.lst (ds.map V.int)) ∧ ds.length ≤ i ∧ ds.Pairwise (· < ·) ∧ ∀ d ∈ ds, 0 ≤ d ∧ d < i) ?_ ?_ ?_
      · exact ⟨(hJ2.far nDp).mono (by omega), kp_new nD, [], upd_same, Nat.le_refl _, .nil, fun d h => nomatch h⟩
      · rintro i H3 hi ⟨hJ3, k3, ds, eD, ld, asc, bd⟩
        refine ⟨rfl, _, rfl, _, rfl, p, m, B + 1 + i, rfl, hJ3, by omega, m0, lt3000 (by omega), fun H4 r4 b4 hJ4 r40 r4m => ⟨rfl, _, rfl, ite2 (fun e4 => ?_) (fun e4 => ?_)⟩⟩
        · refine ⟨_, rfl, ds.map V.int, (b4 D nDp).trans eD, ?_, ?_⟩
          · rw [List.length_map]
            exact small1000 (by omega)
          · refine ⟨(hJ4.far nDp).mono (by omega), (k3.trans b4.kp).mut nD, ds ++ [(i : Int)], ?_, ?_, ?_, ?_⟩
            · rw [upd_same, List.map_append, Int.zero_add]
              rfl
            · rw [List.length_append]
              simp only [List.length_singleton]
              omega
            · rw [List.pairwise_append]
              refine ⟨asc, List.pairwise_singleton _ _, fun a ha b hb => ?_⟩
              rw [List.mem_singleton.mp hb]
              exact (bd a ha).2
            · intro d hd
              rcases List.mem_append.mp hd with hd | hd
              · have := bd d hd
                omega
              · rw [List.mem_singleton.mp hd]
                omega
        · refine ⟨hJ4.mono (by omega), k3.trans b4.kp, ds, (b4 D nDp).trans eD, by omega, asc, fun d hd => ?_⟩
          have := bd d hd
          omega
      · rintro H3 ⟨hJ3, k3, ds, eD, ld, asc, bd⟩
        refine ⟨_, rfl, Nat.zero_le _, fun z nz => ?_⟩
        have nzp := hJ3.ne nz
        refine ⟨.list (ds.map PyData.int), .list [], .lst (.inl (.inl (same_new nz _ _ eD))) (dp_ints ds), .lst (.inl (.inl upd_same)) .nil, (shp_ints 0 ds).shaped (by decide), rfl, _, rfl, ?_⟩
        have k4 : Kp p H (upd H3 z (.lst [])) := (k2.trans k3).trans (kp_new nz)
        have hJ4 := hJ3.far (o := .lst []) nzp
        have eD4 := (same_new (o := .lst []) nz) _ _ eD
        generalize upd H3 z _ = H4 at k4 hJ4 eD4 ⊢
        cases ds with
        | nil =>
          refine iteN0 rfl ?_
          refine ⟨_, rfl, _, rfl, p, n, B + 1 + (n.toNat : Int), rfl, hJ4, by omega, by omega, lt3000 (by omega), fun H5 r5 b5 hJ5 r50 r5n => ⟨by show 1 ≤ sizeLine; decide, fun t nt => ?_⟩⟩
          have ntp := hJ5.ne nt
          have k5 := k4.trans b5.kp
          refine q _ t [r5] (k5.trans (kp_new nt)) (k5.free ntp nt) upd_same ⟨List.cons_ne_nil _ _, List.pairwise_singleton _ _, fun d hd => ?_⟩ ((hJ5.far ntp).mono (by omega))
          rw [List.mem_singleton.mp hd]
          exact ⟨r50, r5n⟩
        | cons d0 ds =>
          refine iteN1 rfl ?_
          refine ⟨_, rfl, D, _, rfl, .inl ⟨.inl (.inl eD4), fun t nt => ?_⟩⟩
          have ntp := hJ4.ne nt
          exact q _ t (d0 :: ds) (k4.trans (kp_new nt)) (k4.free ntp nt) upd_same ⟨List.cons_ne_nil _ _, asc, fun d hd => by have := bd d hd; omega⟩ ((hJ4.far ntp).mono (by omega))
end
end K01

namespace K01
open PySem PySem.Spec PyProof.Rows L2 Fa
abbrev s__law_family : Stmt := topS 39
abbrev N__law_family : List Str := ["jar", "count_here", "size", "found", "turn", "one"]
theorem sc__law_family : FnScope N__law_family ["jar", "count_here", "size"] (defScope s__law_family) := ⟨rfl, rfl, rfl, by decide +kernel, rfl, by decide +kernel, by decide +kernel⟩
section
variable {P : Program} {w : World} {K : PySem.W.Frag} {mg : Str → Option Value} {base : Heap}
theorem pos26 : (0 : Int) ≤ 100000000000000000000000000 := by decide
def spFamily : Sp := fun vs H Q _ => ∃ (p : Addr) (n m B : Int), vs = [.ref p, .int n, .int m] ∧ JarAt H p B ∧ B ≤ 800000000 ∧ 1 ≤ n ∧ n ≤ 30 ∧ 0 ≤ m ∧ m ≤ 100 ∧
  ∀ H' a fam, Kp p H H' → H a = none → FamAt H' a fam → Fam n (100000000000000000000000000 * m) fam → (fam.length : Int) ≤ m → JarAt H' p (B + 50 * m) → Q (.ref a) H'
theorem ok_family {f fD fM : Addr} {fd fdD fdM : FuncData} {k : Nat} (F : Fun K "_law_family" "_law_family" s__law_family f fd) (F__law_days : Fun K "_law_days" "_law_days" s__law_days fD fdD) (G__law_days : FnOk P w K mg base CX0 k fD fdD ["jar", "count_here"] spDays) (b__law_days : Binds K fdD ["jar", "count_here"] [])
    (g__law_days : mg "_law_days" = some (.ref fD)) (F__law_many : Fun K "_law_many" "_law_many" s__law_many fM fdM) (G__law_many : FnOk P w K mg base CX0 k fM fdM ["jar"] spMany) (b__law_many : Binds K fdM ["jar"] [])
    (g__law_many : mg "_law_many" = some (.ref fM)) (m_range : mg "range" = none) (m_sorted : mg "sorted" = none) : FnOk P w K mg base CX0 (k + 1) f fd ["jar", "count_here", "size"] spFamily := by
  have b_sorted : bootBuiltins "sorted" = some (.builtin "sorted") := by decide +kernel
  refine F.ok sc__law_family (fun vs H Q E h => ?_) (fun cdv A outer s H vs Q E hr h => ?_)
  · obtain ⟨p, n, m, B, rfl, _⟩ := h
    rfl
  · obtain ⟨p, n, m, B, rfl, hJ, hB, n1, n30, m0, m1, q⟩ := h
    refine ⟨_, (pss_cons (ps_set (i := 3) sc__law_family.nd rfl (by first | exact Or.inl rfl | exact Or.inr rfl) pe_dnewT)
  (pss_cons (ps_for PassesOwn.never rfl (pi_range1 (by rfl) m_range (pa_cons (pv 2) pa_nil)) (pg_name (i := 4) sc__law_family.nd rfl (by first | exact Or.inl rfl | exact Or.inr rfl)) (pss_cons (ps_set (i := 5) sc__law_family.nd rfl (by first | exact Or.inl rfl | exact Or.inr rfl) (pe_call G__law_days (hr.mono (by omega)) (by rfl) g__law_days F__law_days.kp b__law_days .nil pass0 (pa_cons (pv 0) (pa_cons (pv 1) pa_nil))))
  (pss_one (ps_dput (hu_of hr) (pv 3) (pv 5) (pe_op op_add (pe_dget2 (hu_of hr) (pv 3) (pv 5) pe_int (by constructor <;> rfl)) (pe_call G__law_many (hr.mono (by omega)) (by rfl) g__law_many F__law_many.kp b__law_many .nil pass0 (pa_cons (pv 0) pa_nil))) rfl))))
  (pss_one (ps_ret (pe_callB (Fa.sortF K hr.units) (by rfl) m_sorted b_sorted (pa_cons (pe_lock (pe_lc (own := [("one", 5)]) (g := gName 5) (tt := tYes) rfl sc__law_family.nd (pi_keys (pv 3)) (blkOk_by (N := N__law_family) (sc := defScope s__law_family) (by decide +kernel)) (fun _ _ _ _ _ => (pg_name (i := 5) sc__law_family.nd rfl (by first | exact Or.inl rfl | exact Or.inr rfl))) (fun _ _ _ _ _ => pts_nil) (fun _ _ _ _ _ => (pe_tup (pa_cons (pv 5) (pa_cons (pe_dget (hu_of hr) (pv 3) (pv 5) (fun _ _ => rfl)) pa_nil)))))) pa_nil)))))), ?_⟩
    refine fun fo nfo => ?_
    have nfp := hJ.ne nfo
    have k0 : Kp p H (upd H fo (.dT [])) := kp_new nfo
    have hJ0 := hJ.far (o := .dT []) nfp
    have e0 : upd H fo (.dT []) fo = some (.dT []) := upd_same
    generalize upd H fo (.dT []) = H0 at k0 hJ0 e0 ⊢
    refine ⟨_, rfl, m, rfl, by omega, by omega, ?_⟩
    refine for_range (lo := 0) (fun i σ H' => Kp p H H' ∧ JarAt H' p (B + 50 * i) ∧ (∃ kvs, H' fo = some (.dT kvs) ∧ KvOk n 100000000000000000000000000 i kvs) ∧ ∃ y z, σ = [some (.ref p), some (.int n), some (.int m), some (.ref fo), y, z]) ?_ ?_ ?_
    · exact ⟨k0, hJ0.mono (by omega), ⟨[], e0, kvOk_nil⟩, none, none, rfl⟩
    · rintro i σ H1 hi ⟨k1, hJ1, ⟨kvs, e1, hk⟩, y, z, rfl⟩
      refine ⟨_, rfl, _, rfl, p, n, B + 50 * i, rfl, hJ1, by omega, n1, n30, fun H2 t ds k2 nt et hPat hJ2 => ?_⟩
      have e2 := k2 _ _ nfp e1
      have et' : H2 t = some (.tup ((ds.map Sum.inl).map kV)) := by
        rw [List.map_map]
        exact et
      obtain ⟨v0, ev0, v00, v0b⟩ := kvOk_get hk pos26 (ds.map Sum.inl)
      refine ⟨_, rfl, fo, rfl, .inr ⟨kvs, .inl e2⟩, _, rfl, _, DGet.t e2 et', _, rfl, p, _, rfl, hJ2, by omega, fun H3 r k3 hJ3 r1 r2 => ?_⟩
      have ntp : t ≠ p := by
        intro z
        obtain ⟨_, _, _, hp, _⟩ := hJ2
        rw [z, hp] at et
        cases et
      have e3 := k3 _ _ nfp e2
      have et3 := k3 _ _ ntp et'
      refine ⟨v0, r, ev0, rfl, _, rfl, _, rfl, fo, _, rfl, DPut.t e3 et3 (small1000 (by have := hk.len; omega)), ?_⟩
      refine ⟨((k1.trans k2).trans k3).mut nfo, (hJ3.far nfp).mono (by omega), ⟨_, upd_same, ?_⟩, _, _, rfl⟩
      refine kvOk_put hk pos26 hPat (by omega) ?_
      rw [Int.mul_add]
      omega
    · rintro σ H1 ⟨k1, hJ1, ⟨kvs, e1, hk⟩, y, z, rfl⟩
      rw [show ((m.toNat : Nat) : Int) = m by omega] at hJ1
      refine ⟨fo, .dT kvs, e1, trivial, fun od => ⟨_, rfl, fo, od, rfl, .inr ⟨kvs, upd_same, fun D nD => ?_⟩⟩⟩
      have nD' : H1 D = none := by
        by_cases z : D = fo
        · rw [z, upd_same] at nD
          cases nD
        · rw [upd_ne z] at nD
          exact nD
      have nDf : D ≠ fo := fun z => by
        rw [z, upd_same] at nD
        cases nD
      have nDp : D ≠ p := hJ1.ne nD'
      refine lc_it walk_keysT (fun i H2 => H2 fo = some (.frz od (.dT kvs)) ∧ Same (upd H1 fo (.frz od (.dT kvs))) H2 ∧ ∃ xs, H2 D = some (.lst xs) ∧ Paired (FmAt H2) xs ((famOf kvs).take i)) ?_ ?_ ?_ ?_
      · exact ⟨same_new nD _ _ upd_same, same_new nD, [], upd_same, .nil⟩
      · rintro i H2 _ ⟨h, _⟩
        exact h
      · rintro i x H2 H2' hi ⟨hf, s2, xs, eD, hP⟩ ⟨rfl, ky, v, q1, ek, rfl, hq⟩
        obtain ⟨ds, mm, rfl, rfl, ef⟩ := famOf_at hk ek
        have lx : xs.length = i := by
          rw [paired_len hP, List.length_take, (famOf_all hk).2.2]
          omega
        refine ⟨rfl, yes_if ⟨_, rfl, _, rfl, _, rfl, fo, _, rfl, .inr ⟨kvs, _, q1, .inr ⟨od, hf⟩, rfl, hq, (valV_at hk.nd ek).symm⟩, by show 2 ≤ sizeLine; decide, fun T nT => ?_⟩⟩
        have nTD : D ≠ T := ne_of_none eD nT
        have tq : H2' q1 = some (.tup (ds.map V.int)) := by
          rw [hq, List.map_map]
          rfl
        refine ⟨xs, by rw [upd_ne nTD]; exact eD, by rw [lx]; exact small1000 (by have := hk.len; omega), ?_, ?_, ?_⟩
        · rw [upd_ne nDf.symm, upd_ne (ne_of_none hf nT)]
          exact hf
        · intro b o e
          rw [upd_ne (ne_of_none e nD), upd_ne (ne_of_none (s2 _ _ e) nT)]
          exact s2 _ _ e
        · refine ⟨xs ++ [.ref T], upd_same, ?_⟩
          have kt : ∀ b us, H2' b = some (.tup us) → upd (upd H2' T (.tup [.ref q1, .int mm])) D (.lst (xs ++ [.ref T])) b = some (.tup us) := fun b us e => by
            rw [upd_ne (ne_of e eD (fun z => by cases z)), upd_ne (ne_of_none e nT)]
            exact e
          rw [List.take_add_one, ef]
          refine paired_snoc (L2.Paired.mapP hP fun _ _ z => z.keep kt) ⟨T, q1, rfl, ?_, kt _ _ tq⟩
          rw [upd_ne nTD.symm, upd_same]
      · rintro H2 ⟨hf, s2, xs, eD, hP⟩
        rw [List.take_of_length_le (by rw [(famOf_all hk).2.2]; exact Nat.le_refl _)] at hP
        have s3 : Kp p H (upd H2 fo (.dT kvs)) := by
          intro b o nb e
          have nf : b ≠ fo := ne_of_none e nfo
          rw [upd_ne nf]
          exact s2 _ _ (by rw [upd_ne nf]; exact k1 _ _ nb e)
        have hJ2 : JarAt (upd H2 fo (.dT kvs)) p (B + 50 * m) := by
          obtain ⟨x1, x2, x3, hp, r⟩ := hJ1
          refine ⟨x1, x2, x3, ?_, r⟩
          rw [upd_ne nfp.symm]
          exact s2 _ _ (by rw [upd_ne nfp.symm]; exact hp)
        have eD2 : upd H2 fo (.dT kvs) D = some (.lst xs) := by
          rw [upd_ne nDf]
          exact eD
        have hP2 : Paired (FmAt (upd H2 fo (.dT kvs))) xs (famOf kvs) := L2.Paired.mapP hP fun _ _ z => z.keep fun b us e => by
          rw [upd_ne (ne_of e hf (fun z => by cases z))]
          exact e
        refine ⟨hf, ?_⟩
        generalize upd H2 fo (.dT kvs) = H3 at s3 hJ2 eD2 hP2 ⊢
        obtain ⟨key, ekey, hkey⟩ := fm_key hP2
        refine ⟨D, xs, key, rfl, .inl (.inl eD2), fun x hx => ?_, fun ys r hs hp nr => ?_⟩
        · obtain ⟨t, b, e, h1, h2⟩ := hkey x hx
          exact ⟨t, b, e, h1, h2⟩
        obtain ⟨g1, g2, g3⟩ := fam_of_sorted hk ekey hkey hs hp
        have nrp := hJ2.ne nr
        refine q _ r (ys.map key) (s3.trans (kp_new nr)) (s3.free nrp nr) ⟨ys, upd_same, L2.Paired.mapP g1 fun _ _ z => z.keep fun b us e => by rw [upd_ne (ne_of_none e nr)]; exact e⟩ ?_ ?_ (hJ2.far nrp)
        · rw [show ((m.toNat : Nat) : Int) = m by omega] at g2
          exact g2
        · omega
end
end K01

/-! sheets: the numbers of a family, how the law reckons them; rows in a heap -/
namespace Fa
open PySem PySem.Spec PyProof.Rows L2
/-! ### who came on the days b to e -/
def hits (p : List Int) (b e : Int) : Bool := p.any fun d => decide (b ≤ d) && decide (d ≤ e)
def unl (fam : Fm) (b e : Int) : Int := (fam.map fun p => if hits p.1 b e then p.2 else 0).sum
def shRow (fam : Fm) (d w : Nat) : List Int := (List.range (min (d + 1) w)).map fun (k : Nat) => unl fam ((d : Int) - (k : Int)) (d : Int)
def shOf (fam : Fm) (n w : Nat) : List (List Int) := (List.range n).map fun d => shRow fam d w
theorem unl_cons (p : List Int × Int) (fam : Fm) (b e : Int) : unl (p :: fam) b e = (if hits p.1 b e then p.2 else 0) + unl fam b e := by
  unfold unl
  rw [List.map_cons, List.sum_cons]
theorem unl_append (f g : Fm) (b e : Int) : unl (f ++ g) b e = unl f b e + unl g b e := by
  unfold unl
  rw [List.map_append, List.sum_append]
theorem unl_nonneg {fam : Fm} (h : ∀ p ∈ fam, 0 ≤ p.2) (b e : Int) : 0 ≤ unl fam b e := by
  induction fam with
  | nil => exact Int.le_refl _
  | cons p fam ih =>
    rw [unl_cons]
    have := ih fun q hq => h q (List.mem_cons_of_mem _ hq)
    have := h p List.mem_cons_self
    split <;> omega
theorem unl_le {fam : Fm} {c : Int} (h : ∀ p ∈ fam, 0 ≤ p.2 ∧ p.2 ≤ c) (b e : Int) : unl fam b e ≤ c * (fam.length : Int) := by
  induction fam with
  | nil =>
    show (0 : Int) ≤ c * ((0 : Nat) : Int)
    rw [Int.natCast_zero, Int.mul_zero]
    exact Int.le_refl _
  | cons p fam ih =>
    rw [unl_cons, List.length_cons, Int.natCast_add, Int.mul_add]
    have := ih fun q hq => h q (List.mem_cons_of_mem _ hq)
    have := h p List.mem_cons_self
    have e1 : c * ((1 : Nat) : Int) = c := Int.mul_one c
    rw [e1]
    split <;> omega
/-! ### the law's reckoning: numbers at (row, back) -/
abbrev Cells : Type := Nat → Nat → Int
/-- one stretch of a pattern: from day d on, until the next one -/
def add1 (g : Cells) (m d d' : Int) : Cells := fun s k => if d ≤ (s : Int) ∧ (s : Int) < d' ∧ (s : Int) - (k : Int) = d then g s k + m else g s k
def prs (p : List Int) (n : Int) : List (Int × Int) := p.zip (p.tail ++ [n])
def addP (g : Cells) (m : Int) (l : List (Int × Int)) : Cells := l.foldl (fun g q => add1 g m q.1 q.2) g
def addF (n : Int) (fam : Fm) : Cells := fam.foldl (fun g p => addP g p.2 (prs p.1 n)) fun _ _ => 0
/-- whose last day up to s is s - k -/
def lastAt (p : List Int) (s k : Nat) : Bool := p.any (fun d => decide (d = (s : Int) - (k : Int))) && p.all fun d => decide (d ≤ (s : Int) → d ≤ (s : Int) - (k : Int))
theorem addP_val (n m : Int) : ∀ (p : List Int) (g : Cells) (s k : Nat), p.Pairwise (· < ·) → (∀ d ∈ p, d < n) → (s : Int) < n → addP g m (prs p n) s k = g s k + if lastAt p s k then m else 0
  | [], g, s, k, _, _, _ => by
    show g s k = g s k + if lastAt [] s k then m else 0
    rw [show lastAt [] s k = false from rfl]
    simp
  | d :: p, g, s, k, ha, hb, hs => by
    obtain ⟨h1, h2⟩ := List.pairwise_cons.mp ha
    have hb' : ∀ e ∈ p, e < n := fun e he => hb e (List.mem_cons_of_mem _ he)
    -- the next day behind d
    obtain ⟨d', hd', e1, lo, hi⟩ : ∃ d', prs (d :: p) n = (d, d') :: prs p n ∧ d < d' ∧ (∀ e ∈ p, d' ≤ e) ∧ (d' = n ∧ p = [] ∨ d' ∈ p) := by
      cases p with
      | nil => exact ⟨n, rfl, hb d List.mem_cons_self, fun e he => (nomatch he), .inl ⟨rfl, rfl⟩⟩
      | cons e p =>
        refine ⟨e, rfl, h1 e List.mem_cons_self, fun x hx => ?_, .inr List.mem_cons_self⟩
        rcases List.mem_cons.mp hx with rfl | hx
        · exact Int.le_refl _
        · exact Int.le_of_lt ((List.pairwise_cons.mp h2).1 x hx)
    rw [hd']
    show addP (add1 g m d d') m (prs p n) s k = _
    rw [addP_val n m p _ s k h2 hb' hs]
    unfold add1
    by_cases c : d ≤ (s : Int) ∧ (s : Int) < d' ∧ (s : Int) - (k : Int) = d
    · rw [if_pos c]
      have l0 : lastAt p s k = false := by
        unfold lastAt
        rw [Bool.and_eq_false_iff]
        left
        rw [List.any_eq_false]
        intro e he z
        have := of_decide_eq_true z
        have := h1 e he
        omega
      have l1 : lastAt (d :: p) s k = true := by
        unfold lastAt
        rw [Bool.and_eq_true_iff]
        refine ⟨List.any_eq_true.mpr ⟨d, List.mem_cons_self, decide_eq_true c.2.2.symm⟩, List.all_eq_true.mpr fun e he => decide_eq_true fun z => ?_⟩
        rcases List.mem_cons.mp he with rfl | he
        · omega
        · have := lo e he
          omega
      rw [l0, l1]
      simp
    · rw [if_neg c]
      have l1 : lastAt (d :: p) s k = lastAt p s k := by
        unfold lastAt
        rw [List.any_cons, List.all_cons]
        by_cases z : d = (s : Int) - (k : Int)
        · -- then a later day is up to s
          have hs' : d' ≤ (s : Int) := by omega
          have hm : d' ∈ p := by
            rcases hi with ⟨rfl, _⟩ | h
            · omega
            · exact h
          have no : (p.all fun d => decide (d ≤ (s : Int) → d ≤ (s : Int) - (k : Int))) = false := by
            rw [List.all_eq_false]
            refine ⟨d', hm, ?_⟩
            intro q
            have := of_decide_eq_true q hs'
            omega
          rw [no, Bool.and_false, Bool.and_false, Bool.and_false]
        · rw [decide_eq_false z, Bool.false_or]
          by_cases a : (p.any fun d => decide (d = (s : Int) - (k : Int))) = true
          · obtain ⟨e, he, q⟩ := List.any_eq_true.mp a
            have e2 := of_decide_eq_true q
            have := h1 e he
            rw [decide_eq_true (show d ≤ (s : Int) → d ≤ (s : Int) - (k : Int) from fun _ => by omega), Bool.true_and]
          · rw [Bool.eq_false_iff.mpr a, Bool.false_and, Bool.false_and]
      rw [l1]
def lst (fam : Fm) (s k : Nat) : Int := (fam.map fun p => if lastAt p.1 s k then p.2 else 0).sum
theorem addF_gen (n : Int) (s k : Nat) (hs : (s : Int) < n) : ∀ (fam : Fm) (g : Cells), (∀ p ∈ fam, Pat n p.1) → fam.foldl (fun g p => addP g p.2 (prs p.1 n)) g s k = g s k + lst fam s k
  | [], g, _ => by
    show g s k = g s k + 0
    omega
  | p :: fam, g, h => by
    have hp := h p List.mem_cons_self
    show fam.foldl _ (addP g p.2 (prs p.1 n)) s k = _
    rw [addF_gen n s k hs fam _ fun q hq => h q (List.mem_cons_of_mem _ hq), addP_val n p.2 p.1 g s k hp.asc (fun d hd => (hp.bd d hd).2) hs]
    show _ = g s k + ((p :: fam).map fun p => if lastAt p.1 s k then p.2 else 0).sum
    rw [List.map_cons, List.sum_cons]
    show g s k + (if lastAt p.1 s k then p.2 else 0) + lst fam s k = _
    unfold lst
    omega
theorem addF_val {n : Int} {fam : Fm} (h : ∀ p ∈ fam, Pat n p.1) {s k : Nat} (hs : (s : Int) < n) : addF n fam s k = lst fam s k := by
  unfold addF
  rw [addF_gen n s k hs fam _ h]
  omega
/-- sums of the first ones -/
def pre (g : Cells) (s : Nat) : Nat → Int
  | 0 => g s 0
  | k + 1 => pre g s k + g s (k + 1)
theorem hits_step {p : List Int} (ha : p.Pairwise (· < ·)) (s k : Nat) : (if hits p ((s : Int) - ((k + 1 : Nat) : Int)) s then (1 : Int) else 0) = (if hits p ((s : Int) - (k : Int)) s then 1 else 0) + if lastAt p s (k + 1) then 1 else 0 := by
  by_cases h : hits p ((s : Int) - (k : Int)) s = true
  · obtain ⟨d, hd, e⟩ := List.any_eq_true.mp h
    obtain ⟨e1, e2⟩ := He.ba e
    have e1 := of_decide_eq_true e1
    have e2 := of_decide_eq_true e2
    have h2 : hits p ((s : Int) - ((k + 1 : Nat) : Int)) s = true := List.any_eq_true.mpr ⟨d, hd, Bool.and_eq_true_iff.mpr ⟨decide_eq_true (by omega), decide_eq_true e2⟩⟩
    have h3 : lastAt p s (k + 1) = false := by
      unfold lastAt
      rw [Bool.and_eq_false_iff]
      right
      rw [List.all_eq_false]
      refine ⟨d, hd, fun q => ?_⟩
      have := of_decide_eq_true q e2
      omega
    rw [h, h2, h3]
    rfl
  · have h0 := Bool.eq_false_iff.mpr h
    have no : ∀ d ∈ p, d ≤ (s : Int) → d < (s : Int) - (k : Int) := fun d hd hs => by
      refine Int.not_le.mp fun z => h (List.any_eq_true.mpr ⟨d, hd, Bool.and_eq_true_iff.mpr ⟨decide_eq_true z, decide_eq_true hs⟩⟩)
    have eqv : hits p ((s : Int) - ((k + 1 : Nat) : Int)) s = lastAt p s (k + 1) := by
      rw [Bool.eq_iff_iff]
      constructor
      · intro q
        obtain ⟨d, hd, e⟩ := List.any_eq_true.mp q
        obtain ⟨e1, e2⟩ := He.ba e
        have e1 := of_decide_eq_true e1
        have e2 := of_decide_eq_true e2
        have := no d hd e2
        refine Bool.and_eq_true_iff.mpr ⟨List.any_eq_true.mpr ⟨d, hd, decide_eq_true (by omega)⟩, List.all_eq_true.mpr fun x hx => decide_eq_true fun z => ?_⟩
        have := no x hx z
        omega
      · intro q
        obtain ⟨q1, _⟩ := He.ba q
        obtain ⟨d, hd, e⟩ := List.any_eq_true.mp q1
        have e := of_decide_eq_true e
        exact List.any_eq_true.mpr ⟨d, hd, Bool.and_eq_true_iff.mpr ⟨decide_eq_true (by omega), decide_eq_true (by omega)⟩⟩
    rw [h0, eqv]
    simp
theorem hits_zero {p : List Int} (s : Nat) : hits p ((s : Int) - ((0 : Nat) : Int)) s = lastAt p s 0 := by
  rw [Bool.eq_iff_iff]
  constructor
  · intro q
    obtain ⟨d, hd, e⟩ := List.any_eq_true.mp q
    obtain ⟨e1, e2⟩ := He.ba e
    have e1 := of_decide_eq_true e1
    have e2 := of_decide_eq_true e2
    exact Bool.and_eq_true_iff.mpr ⟨List.any_eq_true.mpr ⟨d, hd, decide_eq_true (by omega)⟩, List.all_eq_true.mpr fun x hx => decide_eq_true fun z => by omega⟩
  · intro q
    obtain ⟨q1, _⟩ := He.ba q
    obtain ⟨d, hd, e⟩ := List.any_eq_true.mp q1
    have e := of_decide_eq_true e
    exact List.any_eq_true.mpr ⟨d, hd, Bool.and_eq_true_iff.mpr ⟨decide_eq_true (by omega), decide_eq_true (by omega)⟩⟩
theorem ite_mul (b : Bool) (m : Int) : (if b then m else 0) = (if b then (1 : Int) else 0) * m := by
  cases b with
  | true =>
    show m = 1 * m
    omega
  | false =>
    show 0 = 0 * m
    omega
theorem pre_lst (s : Nat) : ∀ (k : Nat) (fam : Fm), (∀ p ∈ fam, p.1.Pairwise (· < ·)) → pre (lst fam) s k = unl fam ((s : Int) - (k : Int)) s
  | 0, fam, h => by
    show lst fam s 0 = _
    unfold lst unl
    congr 1
    refine List.map_congr_left fun p _ => ?_
    rw [hits_zero]
  | k + 1, fam, h => by
    show pre (lst fam) s k + lst fam s (k + 1) = _
    rw [pre_lst s k fam h]
    unfold lst unl
    induction fam with
    | nil => rfl
    | cons p fam ih =>
      simp only [List.map_cons, List.sum_cons]
      have ih' := ih fun q hq => h q (List.mem_cons_of_mem _ hq)
      have st := hits_step (h p List.mem_cons_self) s k
      rw [ite_mul (hits p.1 ((s : Int) - (k : Int)) s), ite_mul (lastAt p.1 s (k + 1)), ite_mul (hits p.1 ((s : Int) - ((k + 1 : Nat) : Int)) s), st, Int.add_mul]
      omega
/-- the law's reckoning gives the sheet's numbers -/
theorem law_cells {n : Int} {fam : Fm} (h : ∀ p ∈ fam, Pat n p.1) {s k : Nat} (hs : (s : Int) < n) : pre (addF n fam) s k = unl fam ((s : Int) - (k : Int)) s := by
  rw [← pre_lst s k fam fun p hp => (h p hp).asc]
  induction k with
  | zero => exact addF_val h hs
  | succ k ih =>
    show pre (addF n fam) s k + addF n fam s (k + 1) = pre (lst fam) s k + lst fam s (k + 1)
    rw [ih, addF_val h hs]
end Fa

/-! defs that are called where no object is being shown: repr can stand in them -/
namespace Fa
open PySem PySem.Spec PyProof.Rows L2
/-- nothing is being shown around -/
def Nog (A : Around) : Prop := A.guards = some []
theorem Nog.deeper {A : Around} (g : Nog A) (env : Env) : Nog (A.deeper env) := g
structure FnG (P : Program) (w : World) (K : PySem.W.Frag) (mg : Str → Option Value) (base : Heap) (k : Nat)
    (f : Addr) (fd : FuncData) (ps : List Str) (sp : Sp) : Prop where
  size : ∀ xs M R W, sp xs M R W → xs.length = ps.length
  runs : ∀ (A : Around) (out : List Env) (st : Shared) (M : Hp) (ar : Args) (us : List Value) (xs : List V) (R : VK) (W : XK),
    Room k A → Nog A → Env0 P w K mg base A out st M → BindsTo st fd ar (ps.zip us) → Vals xs us → sp xs M R W →
    codeAny (model P w) A (.call (.ref f) ar) (CR CX0 out P w M st R W) st
theorem FnG.of {P : Program} {w : World} {K : PySem.W.Frag} {mg : Str → Option Value} {base : Heap} {k : Nat} {f : Addr} {fd : FuncData} {ps : List Str} {sp : Sp}
    (F : FnOk P w K mg base CX0 k f fd ps sp) : FnG P w K mg base k f fd ps sp :=
  ⟨F.len, fun A out st M ar us xs R W hr _ e b v q => F.run A out st M ar us xs R W hr e b v q⟩
theorem FnG.mono {P : Program} {w : World} {K : PySem.W.Frag} {mg : Str → Option Value} {base : Heap} {j k : Nat} {f : Addr} {fd : FuncData} {ps : List Str} {sp : Sp}
    (F : FnG P w K mg base j f fd ps sp) (h : j ≤ k) : FnG P w K mg base k f fd ps sp :=
  ⟨F.size, fun A out st M ar us xs R W hr => F.runs A out st M ar us xs R W (hr.mono h)⟩
section
variable {P : Program} {w : World} {K : PySem.W.Frag} {mg : Str → Option Value} {base : Heap}
/-- a def by its body, where nothing is being shown -/
theorem funG {x qual : Str} {st : Stmt} {f : Addr} {fd : FuncData} {N ps : List Str} {k : Nat} {sp : Sp} (F : Fun K x qual st f fd)
    (S : FnScope N ps (defScope st)) (size : ∀ xs M R W, sp xs M R W → xs.length = ps.length)
    (body : ∀ (cdv : Value) (A : Around) (outer : List Env) (s : Shared) (H : Hp) (vs : List V) (Q : VK) (E : XK),
      Room k (A.deeper (envOfC qual (defScope st) s.heap.objs.size f cdv)) → Nog (A.deeper (envOfC qual (defScope st) s.heap.objs.size f cdv)) → sp vs H Q E →
      ∃ t, PSs (cxOf CX0 P w K mg base N qual (defScope st) f cdv A outer s H E).nox (defBody st) t ∧
        t { nx := fun _ H' => Q .non H', rt := Q } (start N vs) H) : FnG P w K mg base (k + 1) f fd ps sp := by
  obtain ⟨oc, od, kV, doc, pm, an, cdv, ct, osl, rfl, look, code⟩ := F.ex
  refine ⟨size, fun A out sh M ar us xs R W hr ng e b r q => ?_⟩
  have n1 := size _ _ _ _ q
  have kin : K.In sh.heap := e.mod.kin.keeps fun c o z => (e.bs c o z).1
  have free : sh.heap.NoLimit := e.mod.nolimit.keeps fun c o z => (e.bs c o z).1
  have kinds : ∀ y ∈ ps.zip us, (defScope st).names.lookup y.1 = some .local ∨
      ((defScope st).names.lookup y.1 = some .cell ∧ ((cellsFrom (sh.heap.objs.size + 1) (defScope st).names []).lookup y.1).isSome = true) := by
    rintro ⟨nm, u⟩ hy
    rcases S.par nm (List.of_mem_zip hy).1 with z | z
    · exact .inl z
    · exact .inr ⟨z, PySem.W.cellsFrom_some _ _ _ (.inl z)⟩
  have frame := kin _ _ look
  have rec' := PySem.W.codeRec_of kin code
  refine codeAny_call_function hr.depth frame rfl S.co S.gen rfl rec' (b _ _ _ _ ?_)
  refine wpAny_newFunctionEnv_cells S.kind kinds fun env he s1 inn => ?_
  subst he
  refine ⟨free.keeps inn.toInCall.keep, codeAny_func ?_⟩
  obtain ⟨t0, h0, q0⟩ := body cdv A out sh M xs R W (hr.deeper _) (ng.deeper _) q
  have t1 := h0.nox
  have J0 := inv_start (CX := CX0) (E := W) (cd := cdv) (f := f) S hr.hd e n1 r inn
  refine wpAny_mono (t1.run [] s1 (start N xs) M _ J0 q0) (fun fl s2 z => ?_) fun _ _ z => z
  cases fl with
  | ret u =>
    obtain ⟨v, σ2, M2, J, rv, q2⟩ := z
    exact ⟨v, M2, J.os, J.bare, J.base, J.hok, rv, q2⟩
  | next =>
    obtain ⟨σ2, M2, J, q2⟩ := z
    exact ⟨.non, M2, J.os, J.bare, J.base, J.hok, rfl, q2⟩
  | brk =>
    obtain ⟨_, _, _, z2⟩ := z
    cases z2
  | cont =>
    obtain ⟨_, _, _, z2⟩ := z
    cases z2
end
section
variable {X : Cx} {k n : Nat} {f : Addr} {fd : FuncData} {ps ks : List Str} {sp : Sp} {x : Str} {p pos : Pos} {e : Expr} {es : List Expr} {kws : List Keyword} {t tk : TA} {g : List Value → List Value → List Value} {gV : List V → List V → List V}
theorem runG {pins : List (Addr × Obj)} {σ : L2.St} {H : Hp} {s : Shared} {Q : VK} {ar : Args} {us : List Value} {vs : List V} (F : FnG X.prog X.w X.K X.mg X.base k f fd ps sp)
    (hr : Room k X.A) (ng : Nog X.A) (I : Inv X pins σ H s) (b : BindsTo s fd ar (ps.zip us)) (r : Vals vs us) (h : sp vs H Q E0) :
    codeAny (model X.prog X.w) X.A (.call (.ref f) ar) (fun r s' => match r with | .ok (.ret u) => EP X pins σ Q u s' | _ => False) s := by
  refine codeAny_mono (F.runs X.A X.stack s H ar us vs Q E0 hr ng I.env0 b r h) fun z s2 hz => ?_
  match z, hz with
  | .error _, hz => exact hz
  | .ok (.ret _), hz => exact I.after hz
  | .ok .next, hz => exact hz
  | .ok .brk, hz => exact hz
  | .ok .cont, hz => exact hz
theorem runG' {pins : List (Addr × Obj)} {σ : L2.St} {H : Hp} {s : Shared} {Q : VK} {us ws zz : List Value} {nms : List Str} {vs : List V} (F : FnG X.prog X.w X.K X.mg X.base k f fd ps sp)
    (hr : Room k X.A) (ng : Nog X.A) (I : Inv X pins σ H s) (b : BindsTo s fd ⟨us, nms.zip ws⟩ (ps.zip zz)) (r : Vals vs zz) (h : sp vs H Q E0) :
    wpAny (model X.prog X.w) X.A (call (.ref f) us (nms.zip ws)) (EP X pins σ Q) X.xe s := by
  refine wpAny_call (codeAny_mono (runG F hr ng I b r h) fun z s2 hz => ?_)
  match z, hz with
  | .error _, hz => exact False.elim hz
  | .ok (.ret _), hz => exact hz
  | .ok .next, hz => exact False.elim hz
  | .ok .brk, hz => exact False.elim hz
  | .ok .cont, hz => exact False.elim hz
/-- f(e, ..) -/
theorem pe_callG (F : FnG X.prog X.w X.K X.mg X.base k f fd ps sp) (hr : Room k X.A) (ng : Nog X.A) (hg : Gl X x) (hm : X.mg x = some (.ref f)) (hk : PySem.W.keepIn X.K (.ref f) = true)
    (hb : Binds X.K fd ps []) (ha : PA X (e :: es) t) (hdb : (x == ("__debug__" : Str)) = false := by decide)
    (he : starEach (e :: es) X.env = (false, eval e X.env) :: starEach es X.env := by rfl) (hpl : (backTo pos (starEach es X.env)).any (·.1) = false := by rfl) :
    PE X (.Call (.Name x p) (e :: es) [] pos) (tCall sp [] E0 t) := by
  refine ⟨fun pins s σ H Q I h => wpAny_Call_Name_kw (ld_glob I hg hm ?_ hdb)⟩
  refine PySem.W.callWith_K (h₀ := X.base) I.ok.mod.kin hk ?_ he hpl
  refine thn (ha.run pos pins s σ H _ I h) ?_
  rintro us s1 ⟨vs, H1, I1, r, q⟩
  refine ⟨I1.kIn, ?_⟩
  rw [List.append_nil] at q
  have l1 : us.length = ps.length := r.length.symm.trans (F.size _ _ _ _ q)
  have b1 := hb s1 us I1.kIn (by rw [List.append_nil]; exact l1)
  rw [List.append_nil] at b1
  exact runG' (ws := []) (nms := []) F hr ng I1 b1 r q
/-- f(k = v, ..) -/
def tCallKW (sp : Sp) (m : Nat) (gV : List V → List V → List V) (tk : TA) : TE := fun σ H Q => tk σ H fun zs H2 => zs.length = m ∧ sp (gV [] zs) H2 Q E0
theorem pe_callGK (F : FnG X.prog X.w X.K X.mg X.base k f fd ps sp) (hr : Room k X.A) (ng : Nog X.A) (hg : Gl X x) (hm : X.mg x = some (.ref f)) (hk : PySem.W.keepIn X.K (.ref f) = true)
    (hb : KBn X.K fd ps 0 ks g gV) (hkw : PK X kws tk) (hall : (backToKw pos (keywordEach kws X.env)).all (·.1.isSome) = true := by rfl)
    (hks : (backToKw pos (keywordEach kws X.env)).filterMap (·.1) = ks := by rfl) (hdb : (x == ("__debug__" : Str)) = false := by decide)
    (hpl : ((backTo pos (starEach [] X.env)).any (·.1) || (backToKw pos (keywordEach kws X.env)).any (·.1.isNone)) = false := by rfl) :
    PE X (.Call (.Name x p) [] kws pos) (tCallKW sp ks.length gV tk) := by
  refine ⟨fun pins s σ H Q I h => wpAny_Call_Name_kw (ld_glob I hg hm ?_ hdb)⟩
  refine PySem.W.callWith_KW0 (h₀ := X.base) I.ok.mod.kin hk hall ?_ hpl
  refine thn (hkw.run pos pins s σ H _ I h) ?_
  rintro ws s2 ⟨zs, H2, I2, rz, l2, q2⟩
  refine ⟨I2.kIn, ?_⟩
  rw [hks]
  exact runG' (us := []) F hr ng I2 (hb.to s2 [] ws I2.kIn rfl (rz.length.symm.trans l2)) (hb.rel .nil rz) q2
end
end Fa

/-! a law whose defs show objects: its end -/
namespace Fa
open PySem PySem.Spec PyProof.Rows L2
section
variable {P : Program} {w : World} {K : PySem.W.Frag} {mg mb : Str → Option Value} {k : Nat} {fa a : Addr} {fd : FuncData} {x : Str} {sp : Sp} {st : Shared} {vs : List Value} {ns : List Int}
/-- what the law's call must give -/
def Well (st : Shared) (r : Result) (s2 : Shared) : Prop := r = .ok (.ret (.bool true)) ∧ OldK st.heap s2.heap ∧ s2.os = st.os ∧ AllBare s2.gens
theorem law_runG {M : Hp} (kin : K.In st.heap) (main : st.heap.Ns mainGlobals mg) (hb : st.heap.Ns builtinsNs mb)
    (boot : ∀ y : Str, y ≠ "__name__" → mb y = bootBuiltins y) (free : st.heap.NoLimit) (gens : st.gens = #[])
    (at' : st.heap.get? a = some { cls := .type "list", data := .seq vs.toArray }) (room : Room k callerA)
    (F : ∀ base : Heap, K.In base → base.Ns mainGlobals mg → FnG P w K mg base k fa fd [x] sp)
    (bnd : ∀ (s : Shared) (u : Value), BindsTo s fd ⟨[u], []⟩ [(x, u)]) (only : Only M) (q : sp [.ref a] M (fun v _ => v = .bl true) E0)
    (hok : HOk P w M st.heap) (one : ∀ b, M b ≠ none → b = a) (notK : M a ≠ none → K.lookup a = none) :
    codeAny (model P w) callerA (.call (.ref fa) ⟨[.ref a], []⟩) (Well st) st := by
  have plain : ∀ {b : Addr} {o : Obj}, st.heap.get? b = some o → (∀ es ep, o.data = .dict es ep → M b = none) := fun {b o} e es ep d => by
    cases c : M b with
    | none => rfl
    | some u =>
      cases one b (by rw [c]; exact Option.some_ne_none _)
      rw [at'] at e
      cases e
      exact absurd d (by intro z; cases z)
  have toN : ∀ {b : Addr} {m : Str → Option Value}, st.heap.Ns b m → (hidT st.heap M).Ns b m := by
    rintro b m ⟨o, es, ep, e, d, r⟩
    exact ⟨o, es, ep, hidT_get e (plain e es ep d), d, r⟩
  have kin2 : K.In (hidT st.heap M) := fun b o e => by
    refine hidT_get (kin b o e) ?_
    cases c : M b with
    | none => rfl
    | some u =>
      cases one b (by rw [c]; exact Option.some_ne_none _)
      rw [notK (by rw [c]; exact Option.some_ne_none _)] at e
      cases e
  obtain ⟨mc, f1, f2⟩ := free
  have md : Mod K mg (hidT st.heap M) := ⟨kin2, toN main, ⟨mb, toN hb, boot⟩, ⟨mc, toN f1, f2⟩⟩
  have env : Env0 P w K mg (hidT st.heap M) callerA [] st M :=
    ⟨rfl, md, fun b o e => of_hidT e, Nat.le_of_eq (hidT_size _ _), trivial, fun b z => (List.not_mem_nil z).elim, hok, .of_eq gens⟩
  have go := (F _ kin2 (toN main)).runs callerA [] st M ⟨[.ref a], []⟩ [.ref a] [.ref a] _ _ room rfl env (bnd st (.ref a)) (.cons rfl .nil) q
  refine codeAny_mono go fun r s2 z => ?_
  match r, z with
  | .error _, z => exact z.elim
  | .ok .next, z => exact z.elim
  | .ok .brk, z => exact z.elim
  | .ok .cont, z => exact z.elim
  | .ok (.ret u), ⟨v, M2, os, bare, un, hok2, rv, eq⟩ =>
    cases (show v = .bl true from eq)
    cases (show u = Value.bool true from rv)
    refine ⟨rfl, OldK.of_keep fun b o e => ?_, os, bare⟩
    cases c : M b with
    | none => exact un.keep b o e c (fun z => (List.not_mem_nil z).elim) (by simp)
    | some u =>
      rcases only b with z | ⟨ob, xs, z⟩
      · rw [z] at c
        cases c
      · have old := (hok b _ z).1
        have new := (hok2 b _ (un.frzs b ob _ z)).1
        rw [e] at old
        cases old
        exact new
theorem law_callG (kin : K.In st.heap) (main : st.heap.Ns mainGlobals mg) (hb : st.heap.Ns builtinsNs mb) (boot : ∀ y : Str, y ≠ "__name__" → mb y = bootBuiltins y)
    (free : st.heap.NoLimit) (gens : st.gens = #[]) (at' : st.heap.get? a = some { cls := .type "list", data := .seq vs.toArray }) (isI : IntsAre vs ns) (size : ns.length ≤ sizeLine)
    (room : Room k callerA) (F : ∀ base : Heap, K.In base → base.Ns mainGlobals mg → FnG P w K mg base k fa fd [x] sp)
    (bnd : ∀ (s : Shared) (u : Value), BindsTo s fd ⟨[u], []⟩ [(x, u)])
    (q : ∀ M : Hp, Only M → SqL K M a (ns.map V.int) → sp [.ref a] M (fun v _ => v = .bl true) E0) :
    codeAny (model P w) callerA (.call (.ref fa) ⟨[.ref a], []⟩) (Well st) st := by
  have rel := vals_ints isI
  by_cases c : ∃ o, K.lookup a = some o
  · obtain ⟨o, c⟩ := c
    have e := kin a o c
    rw [at'] at e
    cases e
    have sq : SqL K (fun _ => none) a (ns.map V.int) :=
      .inr ⟨_, vs.toArray, _, c, rfl, rfl, rfl, by rw [List.size_toArray, isI.length]; exact size, by simpa using rel⟩
    exact law_runG (M := fun _ => none) kin main hb boot free gens at' room F bnd (fun _ => .inl rfl) (q _ (fun _ => .inl rfl) sq)
      (fun b u z => nomatch z) (fun b z => absurd rfl z) fun z => absurd rfl z
  · have noK : K.lookup a = none := by
      cases d : K.lookup a with
      | none => rfl
      | some o => exact absurd ⟨o, d⟩ c
    let ob : Obj := { cls := .type "list", data := .seq vs.toArray }
    let M : Hp := fun b => if b = a then some (.frz ob (.lst (ns.map V.int))) else none
    have Ma : M a = some (.frz ob (.lst (ns.map V.int))) := if_pos rfl
    have Mb : ∀ b, b ≠ a → M b = none := fun b z => if_neg z
    have only : Only M := fun b => by
      by_cases z : b = a
      · subst z
        exact .inr ⟨_, _, Ma⟩
      · exact .inl (Mb b z)
    refine law_runG (M := M) kin main hb boot free gens at' room F bnd only (q M only (.inl (.inr ⟨ob, Ma⟩))) (fun b u z => ?_) (fun b z => ?_) fun _ => noK
    · by_cases y : b = a
      · subst y
        rw [Ma] at z
        cases z
        exact ⟨at', by rw [List.length_map]; exact size, vs, _, rel, at'⟩
      · rw [Mb b y] at z
        cases z
    · by_cases y : b = a
      · exact y
      · exact absurd (Mb b y) z
end
theorem walkG {l : PySem.W.OpenLaw} {n k : Nat} {q : Program} {loose : List Str} {XP : (Str → Option Value) → Heap → Prop} {YP : World → Heap → Prop} {d : DefRec} {x : Str}
    (most : l.most = some n) (small : n ≤ sizeLine) (plain : d.params.defaults = []) (room : Room k callerA)
    (F : ∀ (w : World) (mg : Str → Option Value) (fa : Addr) (h : Heap), YP w h → h.Ns mainGlobals mg → mg d.name = some (.ref fa) →
      ∃ (K : PySem.W.Frag) (fd : FuncData) (sp : Sp), K.In h ∧ (∀ (s : Shared) (u : Value), BindsTo s fd ⟨[u], []⟩ [(x, u)]) ∧
        (∀ (M : Hp) (a : Addr) (ns : List Int), ns.length ≤ n → Only M → SqL K M a (ns.map V.int) → sp [.ref a] M (fun v _ => v = .bl true) E0) ∧
        ∀ base : Heap, K.In base → base.Ns mainGlobals mg → FnG l.prog w K mg base k fa fd [x] sp) :
    PySem.W.WalkO q loose XP YP l.row.toRowW d [] (fun f vs => PySem.call f vs) := by
  refine Att.attach_call most plain ?_
  intro w s0 s1 mg mb fa o pm cd doc a vs ns G Y ho hd hcd hmg at0 isI len gens
  obtain ⟨K, fd, sp, kin, bnd, ask, go⟩ := F w mg fa _ Y G.T.g hmg
  exact law_callG kin G.T.g G.T.b G.T.builtins G.T.nolimit gens at0 isI (Nat.le_trans len small) room go bnd fun M h1 h2 => ask M a ns len h1 h2
end Fa

namespace Fa
open PySem PySem.Spec PyProof.Rows L2
section
variable (K : PySem.W.Frag) {X : Cx}
theorem tupIQ {tg l : Expr} {tl : TE} (hl : PE X l tl) (h : X.K = K := by rfl) : PI X tg l (iTup K tl) := h ▸ pi_tup hl
theorem slTA (h : X.K = K := by rfl) : SlR X (rSlA K) := h ▸ sl_tupA
theorem catTA (h : X.K = K := by rfl) : OpR X (binaryOp .Add) (rCatA K) := h ▸ op_catA
theorem reprQ (gd : Nog X.A) (hu : X.A.units + 66 < cLine) (h : X.K = K := by rfl) : CallR X (.builtin "repr") (rRepr K) := h ▸ call_repr gd hu
end
/-- a suite that is never reached -/
theorem pss_never {X : Cx} {b : List Stmt} : PSs X b (fun _ _ _ => False) := ⟨fun _ _ _ _ _ _ h => h.elim⟩
theorem asc_len : ∀ {l : List Int} {a n : Int}, l.Pairwise (· < ·) → (∀ d ∈ l, a ≤ d ∧ d < n) → (l.length : Int) ≤ max (n - a) 0
  | [], a, n, _, _ => by
    show ((0 : Nat) : Int) ≤ _
    omega
  | d :: l, a, n, h, b => by
    obtain ⟨h1, h2⟩ := List.pairwise_cons.mp h
    have := asc_len (a := d + 1) (n := n) h2 fun e he => ⟨by have := h1 e he; omega, (b e (List.mem_cons_of_mem _ he)).2⟩
    have := b d List.mem_cons_self
    rw [List.length_cons]
    omega
theorem Pat.len {n : Int} {ds : List Int} (h : Pat n ds) : (ds.length : Int) ≤ max n 0 := by
  have := asc_len (a := 0) h.asc h.bd
  omega
end Fa

namespace K01
open PySem PySem.Spec PyProof.Rows L2 Fa
abbrev s__law_unlike : Stmt := topS 40
abbrev N__law_unlike : List Str := ["some", "begin", "end", "found", "one", "number_here", "spot"]
theorem sc__law_unlike : FnScope N__law_unlike ["some", "begin", "end"] (defScope s__law_unlike) := ⟨rfl, rfl, rfl, by decide +kernel, rfl, by decide +kernel, by decide +kernel⟩
section
variable {P : Program} {w : World} {K : PySem.W.Frag} {mg : Str → Option Value} {base : Heap}
def spUnl : Sp := fun vs H Q _ => ∃ (f : Addr) (fam : Fm) (b e : Int), vs = [.ref f, .int b, .int e] ∧ FamAt H f fam ∧ (∀ p ∈ fam, p.1.length ≤ 100) ∧ ∀ H', Same H H' → Q (.int (unl fam b e)) H'
theorem ok_unl {f : Addr} {fd : FuncData} {k : Nat} (F : Fun K "_law_unlike" "_law_unlike" s__law_unlike f fd) : FnOk P w K mg base CX0 (k + 1) f fd ["some", "begin", "end"] spUnl := by
  refine F.ok sc__law_unlike (fun vs H Q E h => ?_) (fun cdv A outer s H vs Q E hr h => ?_)
  · obtain ⟨f, fam, b, e, rfl, _⟩ := h
    rfl
  · obtain ⟨g, fam, b, e, rfl, ⟨xs, eg, hP⟩, hl, q⟩ := h
    refine ⟨_, (pss_cons (ps_set (i := 3) sc__law_unlike.nd rfl (by first | exact Or.inl rfl | exact Or.inr rfl) pe_int)
  (pss_cons (ps_for PassesOwn.never rfl (Fa.listQ K (pv 0)) (pg_tup rfl (pgs_cons (pg_name (i := 4) sc__law_unlike.nd rfl (by first | exact Or.inl rfl | exact Or.inr rfl)) (pgs_cons (pg_name (i := 5) sc__law_unlike.nd rfl (by first | exact Or.inl rfl | exact Or.inr rfl)) pgs_nil))) (pss_one (ps_if (pt_cmpR (Fa.neQ K hr.units) (pe_lc (own := [("spot", 6)]) (g := (gName 6)) rfl sc__law_unlike.nd (Fa.tupIQ K (pv 4)) (blkOk_by (N := N__law_unlike) (sc := defScope s__law_unlike) (by decide +kernel)) (fun _ _ _ _ _ => (pg_name (i := 6) sc__law_unlike.nd rfl (by first | exact Or.inl rfl | exact Or.inr rfl))) (fun _ _ _ _ _ => (pts_one (PW.pt (pw_and (pt_cmpR op_le (pv 1) (pv 6) (nomark _)) (pw_and1 (pt_cmpR op_le (pv 6) (pv 2) (nomark _))))))) (fun _ _ _ _ _ => (pv 6))) (pe_lst pa_nil) (nomark _)) (pss_one (ps_set (i := 3) sc__law_unlike.nd rfl (by first | exact Or.inl rfl | exact Or.inr rfl) (pe_op op_add (pv 3) (pv 5)))) pss_nil)))
  (pss_one (ps_ret (pv 3))))), ?_⟩
    refine ⟨_, rfl, g, rfl, ⟨xs, .inl (.inl eg)⟩, ?_⟩
    refine for_it (walk_list (xs := xs)) (fun i σ H' => Same H H' ∧ ∃ x y, σ = [some (.ref g), some (.int b), some (.int e), some (.int (unl (fam.take i) b e)), x, y, none]) ?_ ?_ ?_ ?_
    · exact ⟨fun _ _ z => z, none, none, rfl⟩
    · rintro i σ H1 _ ⟨s1, _⟩
      exact .inl (.inl (s1 _ _ eg))
    · rintro i v σ _ H1 hi ⟨s1, x, y, rfl⟩ ⟨rfl, ev⟩
      obtain ⟨pt, ep, t, bb, rfl, h1, h2⟩ := paired_at hP ev
      refine ⟨t, _, rfl, .inl (.inl (s1 _ _ h1)), rfl, ?_⟩
      have hm := List.mem_of_getElem? ep
      refine ⟨_, _, rfl, _, _, rfl, rfl, _, rfl, bb, rfl, ⟨_, .inl (.inl (s1 _ _ h2))⟩, fun D nD => ?_⟩
      refine lc_it (walk_tup (xs := pt.1.map V.int)) (fun j H2 => Same H1 H2 ∧ H2 D = some (.lst (((pt.1.take j).filter fun d => decide (b ≤ d) && decide (d ≤ e)).map V.int))) ?_ ?_ ?_ ?_
      · exact ⟨same_new nD, upd_same⟩
      · rintro j H2 _ ⟨s2, _⟩
        exact .inl (.inl (s2 _ _ (s1 _ _ h2)))
      · rintro j u _ H2 hj ⟨s2, eD⟩ ⟨rfl, eu⟩
        obtain ⟨d, ed, rfl⟩ := int_at eu
        have tk : ((pt.1.take (j + 1)).filter fun d => decide (b ≤ d) && decide (d ≤ e)) = ((pt.1.take j).filter fun d => decide (b ≤ d) && decide (d ≤ e)) ++ if decide (b ≤ d) && decide (d ≤ e) then [d] else [] := by
          rw [List.take_add_one, ed, List.filter_append]
          congr 1
          show List.filter _ [d] = _
          rw [List.filter_cons, List.filter_nil]
        refine ⟨rfl, _, rfl, _, rfl, _, _, rfl, rfl, _, rfl, ite2 (fun e1 => ⟨_, rfl, _, rfl, _, _, rfl, rfl, _, rfl, ite2 (fun e2 => ?_) fun e2 => ?_⟩) fun e1 => ?_⟩
        · refine ⟨_, rfl, _, eD, ?_, fun c o z => ?_, ?_⟩
          · rw [List.length_map]
            refine small1000 (Nat.le_trans (List.length_filter_le _ _) ?_)
            rw [List.length_take]
            have := hl _ hm
            omega
          · rw [upd_ne (ne_of_none z nD)]
            exact s2 _ _ z
          · rw [upd_same, tk, e1, e2, List.map_append]
            rfl
        · refine ⟨s2, ?_⟩
          rw [tk, Bool.eq_false_iff.mpr e2, Bool.and_false]
          simpa using eD
        · refine ⟨s2, ?_⟩
          rw [tk, Bool.eq_false_iff.mpr e1, Bool.false_and]
          simpa using eD
      · rintro H2 ⟨s2, eD⟩
        refine ⟨Nat.zero_le _, fun z nz => ?_⟩
        have nDz : D ≠ z := ne_of_none eD nz
        rw [List.take_of_length_le (by rw [List.length_map]; exact Nat.le_refl _)] at eD
        refine ⟨.list _, .list [], .lst (.inl (.inl (same_new nz _ _ eD))) (dp_ints _), .lst (.inl (.inl upd_same)) .nil, (shp_ints 0 _).shaped (by decide), rfl, _, rfl, ?_⟩
        have s3 : Same H (upd H2 z (.lst [])) := fun c o h => same_new nz _ _ (s2 _ _ (s1 _ _ h))
        have un : unl (fam.take (i + 1)) b e = unl (fam.take i) b e + if hits pt.1 b e then pt.2 else 0 := by
          rw [List.take_add_one, ep, unl_append]
          show _ + ((if hits pt.1 b e then pt.2 else 0) + 0) = _
          omega
        cases c : (pt.1.filter fun d => decide (b ≤ d) && decide (d ≤ e)) with
        | nil =>
          refine iteN0 rfl ⟨s3, some (.ref bb), some (.int pt.2), ?_⟩
          have nh : hits pt.1 b e = false := by
            unfold hits
            rw [List.any_eq_false]
            intro d hd
            exact List.filter_eq_nil_iff.mp c d hd
          rw [un, nh, if_neg Bool.false_ne_true, Int.add_zero]
          rfl
        | cons d0 ds =>
          have yh : hits pt.1 b e = true := by
            unfold hits
            rw [List.any_eq_true]
            have := List.mem_filter.mp (show d0 ∈ pt.1.filter fun d => decide (b ≤ d) && decide (d ≤ e) by rw [c]; exact List.mem_cons_self)
            exact ⟨d0, this.1, this.2⟩
          refine iteN1 rfl ⟨_, rfl, _, rfl, _, _, rfl, rfl, s3, some (.ref bb), some (.int pt.2), ?_⟩
          rw [un, yh, if_pos rfl]
          rfl
    · rintro σ H1 ⟨s1, x, y, rfl⟩
      refine ⟨_, rfl, ?_⟩
      rw [List.take_of_length_le (by rw [hP.length]; exact Nat.le_refl _)]
      exact q _ s1
end
end K01

/-! lists of lists of numbers in a heap -/
namespace Fa
open PySem PySem.Spec PyProof.Rows L2
theorem ixN_int {n : Nat} {i : Int} (h0 : 0 ≤ i) (h1 : i < n) : ixN n i = some i.toNat := by
  unfold ixN
  rw [if_pos h0, if_pos (by omega)]
theorem atI_int {α : Type} {xs : List α} {i : Int} {v : α} (h0 : 0 ≤ i) (h : xs[i.toNat]? = some v) : atI xs i = some v := by
  have := atI_nat h
  rwa [Int.toNat_of_nonneg h0] at this
theorem atI_neg1 {α : Type} {xs : List α} {v : α} (h : xs[xs.length - 1]? = some v) (h0 : xs ≠ []) : atI xs (-1) = some v := by
  obtain ⟨ys, y, rfl⟩ : ∃ ys y, xs = ys ++ [y] := ⟨xs.dropLast, xs.getLast h0, (List.dropLast_concat_getLast h0).symm⟩
  rw [atI_last]
  rw [List.length_append, List.length_singleton, Nat.add_sub_cancel, List.getElem?_append_right (Nat.le_refl _), Nat.sub_self] at h
  exact h
structure GridAt (H : Hp) (g : Addr) (rows : List Addr) (n : Nat) (f : Nat → List Int) : Prop where
  top : H g = some (.lst (rows.map V.ref))
  cnt : rows.length = n
  nd : rows.Nodup
  out : g ∉ rows
  row : ∀ s r, rows[s]? = some r → H r = some (.lst ((f s).map V.int))
section
variable {H H' : Hp} {g : Addr} {rows : List Addr} {n : Nat} {f : Nat → List Int}
theorem GridAt.keep (h : GridAt H g rows n f) (k : ∀ b xs, H b = some (.lst xs) → H' b = some (.lst xs)) : GridAt H' g rows n f :=
  ⟨k _ _ h.top, h.cnt, h.nd, h.out, fun s r e => k _ _ (h.row s r e)⟩
theorem GridAt.same (h : GridAt H g rows n f) (k : Same H H') : GridAt H' g rows n f := h.keep fun _ _ e => k _ _ e
/-- where only some places may have changed -/
theorem GridAt.but (h : GridAt H g rows n f) (k : ∀ b o, (b = g ∨ b ∈ rows) → H b = some o → H' b = some o) : GridAt H' g rows n f :=
  ⟨k _ _ (.inl rfl) h.top, h.cnt, h.nd, h.out, fun s r e => k _ _ (.inr (List.mem_of_getElem? e)) (h.row s r e)⟩
theorem GridAt.get (h : GridAt H g rows n f) {s : Nat} (hs : s < n) : ∃ r, rows[s]? = some r ∧ r ∈ rows ∧ H r = some (.lst ((f s).map V.int)) := by
  have : s < rows.length := by rw [h.cnt]; exact hs
  exact ⟨rows[s], List.getElem?_eq_getElem this, List.getElem_mem this, h.row s _ (List.getElem?_eq_getElem this)⟩
theorem GridAt.uniq (h : GridAt H g rows n f) {s t : Nat} {r : Addr} (hs : rows[s]? = some r) (ht : rows[t]? = some r) : s = t := by
  have a := (List.getElem?_eq_some_iff.mp hs).1
  exact (List.getElem?_inj a h.nd).mp (hs.trans ht.symm)
theorem GridAt.put (h : GridAt H g rows n f) {s : Nat} {r : Addr} {l : List Int} (hs : rows[s]? = some r) : GridAt (upd H r (.lst (l.map V.int))) g rows n (fun t => if t = s then l else f t) := by
  refine ⟨?_, h.cnt, h.nd, h.out, fun t q e => ?_⟩
  · rw [upd_ne (fun z => h.out (by rw [z]; exact List.mem_of_getElem? hs))]
    exact h.top
  · by_cases c : t = s
    · subst c
      rw [hs] at e
      cases e
      rw [upd_same, if_pos rfl]
    · rw [if_neg c, upd_ne (fun z => c (by subst z; exact h.uniq e hs))]
      exact h.row t q e
theorem GridAt.ext {f' : Nat → List Int} (h : GridAt H g rows n f) (e : ∀ s, s < n → f s = f' s) : GridAt H g rows n f' :=
  ⟨h.top, h.cnt, h.nd, h.out, fun s r er => by
    have : s < n := by
      have := (List.getElem?_eq_some_iff.mp er).1
      rw [h.cnt] at this
      exact this
    rw [← e s this]
    exact h.row s r er⟩
theorem GridAt.off (h : GridAt H g rows n f) {p : Addr} {o : HO} (hp : p ≠ g) (hr : p ∉ rows) : GridAt (upd H p o) g rows n f :=
  h.but fun b u hb e => by
    rw [upd_ne]
    · exact e
    · rintro rfl
      rcases hb with z | z
      · exact hp z
      · exact hr z
end
/-! data of a grid -/
def gridD (n : Nat) (f : Nat → List Int) : PyData := .list ((List.range n).map fun s => .list ((f s).map .int))
theorem gridD_ext {n : Nat} {f f' : Nat → List Int} (e : ∀ s, s < n → f s = f' s) : gridD n f = gridD n f' := by
  unfold gridD
  refine congrArg PyData.list (List.map_congr_left fun s hs => ?_)
  rw [e s (List.mem_range.mp hs)]
theorem gridD_shp (m n : Nat) (f : Nat → List Int) : Shp (m + 2) (gridD n f) := shp_list fun d hd => by
  obtain ⟨s, _, rfl⟩ := List.mem_map.mp hd
  exact shp_ints _ _
theorem dpAll_of {K : PySem.W.Frag} {H : Hp} : ∀ {vs : List V} {ds : List PyData}, vs.length = ds.length → (∀ (i : Nat) (v : V) (d : PyData), vs[i]? = some v → ds[i]? = some d → Dp K H v d) → DpAll K H vs ds
  | [], [], _, _ => .nil
  | [], _ :: _, h, _ => by cases h
  | _ :: _, [], h, _ => by cases h
  | v :: vs, d :: ds, h, q => .cons (q 0 v d rfl rfl) (dpAll_of (by simpa using h) fun i v' d' h1 h2 => q (i + 1) v' d' (by simpa using h1) (by simpa using h2))
theorem GridAt.dp {K : PySem.W.Frag} {H : Hp} {g : Addr} {rows : List Addr} {n : Nat} {f : Nat → List Int} (h : GridAt H g rows n f) : Dp K H (.ref g) (gridD n f) := by
  refine .lst (.inl (.inl h.top)) (dpAll_of ?_ fun i v d h1 h2 => ?_)
  · rw [List.length_map, List.length_map, List.length_range, h.cnt]
  · rw [List.getElem?_map] at h1 h2
    cases e : rows[i]? with
    | none =>
      rw [e] at h1
      cases h1
    | some r =>
      rw [e] at h1
      cases h1
      have li : i < n := by
        have := (List.getElem?_eq_some_iff.mp e).1
        rw [h.cnt] at this
        exact this
      rw [List.getElem?_range li] at h2
      cases h2
      exact .lst (.inl (.inl (h.row i r e))) (dp_ints _)
/-! rows of cells -/
def cr (c : Cells) (m s : Nat) : List Int := (List.range m).map (c s)
theorem cr_len (c : Cells) (m s : Nat) : (cr c m s).length = m := by
  unfold cr
  rw [List.length_map, List.length_range]
theorem cr_at {c : Cells} {m s k : Nat} (h : k < m) : (cr c m s)[k]? = some (c s k) := by
  unfold cr
  rw [List.getElem?_map, List.getElem?_range h]
  rfl
theorem cr_atV {c : Cells} {m s k : Nat} (h : k < m) : ((cr c m s).map V.int)[k]? = some (.int (c s k)) := by
  rw [List.getElem?_map, cr_at h]
  rfl
theorem cr_set {c : Cells} {m s k : Nat} {v : Int} : (cr c m s).set k v = cr (fun s' k' => if s' = s ∧ k' = k then v else c s' k') m s := by
  refine List.ext_getElem? fun i => ?_
  by_cases hi : i < m
  · rw [cr_at hi]
    by_cases e : i = k
    · subst e
      rw [List.getElem?_set_self (by rw [cr_len]; exact hi), if_pos ⟨rfl, rfl⟩]
    · rw [List.getElem?_set_ne (fun z => e z.symm), cr_at hi, if_neg fun z => e z.2]
  · rw [List.getElem?_eq_none (by rw [List.length_set, cr_len]; omega), List.getElem?_eq_none (by rw [cr_len]; omega)]
theorem cr_ext {c c' : Cells} {m s : Nat} (h : ∀ k, k < m → c s k = c' s k) : cr c m s = cr c' m s := List.map_congr_left fun k hk => h k (List.mem_range.mp hk)
theorem set_mapV (l : List Int) (k : Nat) (v : Int) : (l.map V.int).set k (.int v) = (l.set k v).map V.int := by
  rw [List.map_set]
/-- a place of a grid of cells is written -/
theorem GridAt.poke {H : Hp} {g : Addr} {rows : List Addr} {n : Nat} {c c' : Cells} {len : Nat → Nat} {s k : Nat} {r : Addr} {v : Int} (h : GridAt H g rows n fun s => cr c (len s) s) (hs : rows[s]? = some r)
    (hc : ∀ s' k', s' < n → k' < len s' → c' s' k' = if s' = s ∧ k' = k then v else c s' k') :
    GridAt (upd H r (.lst (((cr c (len s) s).map V.int).set k (.int v)))) g rows n fun s => cr c' (len s) s := by
  rw [set_mapV, cr_set]
  refine (h.put hs).ext fun t ht => ?_
  by_cases e : t = s
  · rw [if_pos e]
    subst e
    exact cr_ext fun k' hk => (hc t k' ht hk).symm
  · rw [if_neg e]
    refine cr_ext fun k' hk => ?_
    rw [hc t k' ht hk, if_neg fun z => e z.1]
theorem flat_zeros (k : Nat) : (List.replicate k [V.int 0]).flatten = ((List.range k).map fun _ => (0 : Int)).map V.int := by
  rw [List.map_map]
  refine List.ext_getElem? fun i => ?_
  have : (List.replicate k [V.int 0]).flatten = List.replicate k (V.int 0) := by
    induction k with
    | zero => rfl
    | succ k ih =>
      rw [List.replicate_succ, List.flatten_cons, ih, List.replicate_succ]
      rfl
  rw [this]
  by_cases hi : i < k
  · rw [List.getElem?_replicate, if_pos hi, List.getElem?_map, List.getElem?_range hi]
    rfl
  · rw [List.getElem?_replicate, if_neg hi, List.getElem?_eq_none (by rw [List.length_map, List.length_range]; omega)]
/-- one more row at the end -/
theorem GridAt.grow {H : Hp} {g r : Addr} {rows : List Addr} {i : Nat} {f : Nat → List Int} (h : GridAt H g rows i f) (hr : H r = some (.lst ((f i).map V.int))) (ng : r ≠ g) (nr : r ∉ rows) :
    GridAt (upd H g (.lst (rows.map V.ref ++ [.ref r]))) g (rows ++ [r]) (i + 1) f := by
  refine ⟨?_, ?_, ?_, ?_, fun s q e => ?_⟩
  · rw [upd_same, List.map_append]
    rfl
  · rw [List.length_append, h.cnt]
    rfl
  · rw [List.nodup_append]
    refine ⟨h.nd, List.pairwise_singleton _ _, fun a ha b hb z => ?_⟩
    rw [List.mem_singleton.mp hb] at z
    subst z
    exact nr ha
  · intro z
    rcases List.mem_append.mp z with z | z
    · exact h.out z
    · exact ng (List.mem_singleton.mp z).symm
  · have nq : q ≠ g := by
      rintro rfl
      rcases List.mem_append.mp (List.mem_of_getElem? e) with z | z
      · exact h.out z
      · exact ng (List.mem_singleton.mp z).symm
    rw [upd_ne nq]
    by_cases hs : s < i
    · rw [List.getElem?_append_left (by rw [h.cnt]; exact hs)] at e
      exact h.row s q e
    · have : s = i := by
        have := (List.getElem?_eq_some_iff.mp e).1
        rw [List.length_append, h.cnt, List.length_singleton] at this
        omega
      subst this
      rw [List.getElem?_append_right (by rw [h.cnt]; exact Nat.le_refl _), h.cnt, Nat.sub_self] at e
      cases e
      exact hr
theorem gridAt_nil {H : Hp} {g : Addr} {f : Nat → List Int} (h : H g = some (.lst [])) : GridAt H g [] 0 f :=
  ⟨h, rfl, List.nodup_nil, fun z => (List.not_mem_nil z).elim, fun s r e => by cases e⟩
/-! tuples that stay, parts of tuples -/
theorem sqT_same {K : PySem.W.Frag} {H H' : Hp} {a : Addr} {xs : List V} (s : Same H H') (h : SqT K H a xs) : SqT K H' a xs := by
  rcases h with (h | ⟨o, h⟩) | h
  · exact .inl (.inl (s _ _ h))
  · exact .inl (.inr ⟨o, s _ _ h⟩)
  · exact .inr h
theorem sqT_mut {K : PySem.W.Frag} {H : Hp} {a r : Addr} {xs l : List V} {o' : HO} (hr : H r = some (.lst l)) (h : SqT K H a xs) : SqT K (upd H r o') a xs := by
  rcases h with (h | ⟨o, h⟩) | h
  · refine .inl (.inl ?_)
    rw [upd_ne (ne_of h hr (fun z => by cases z))]
    exact h
  · refine .inl (.inr ⟨o, ?_⟩)
    rw [upd_ne (ne_of h hr (fun z => by cases z))]
    exact h
  · exact .inr h
theorem slA_ok {K : PySem.W.Frag} {H : Hp} {a : Addr} {xs : List V} {lo hi : Option Int} {Q : VK} (h : SqT K H a xs) (q : ∀ H' t, Same H H' → SqT K H' t (cutV xs lo hi) → Q (.ref t) H') : rSlA K (.ref a) lo hi H Q := by
  refine ⟨a, xs, rfl, h, fun w => ?_, fun _ p np => q _ p (same_new np) (.inl (.inl upd_same))⟩
  refine q H a (Same.refl H) ?_
  have : cutV xs lo hi = xs := by
    unfold cutV
    rw [w.1, w.2, List.drop_zero, Nat.sub_zero, List.take_length]
  rw [this]
  exact h
theorem catA_ok {K : PySem.W.Frag} {H : Hp} {a b : Addr} {xs ys : List V} {Q : VK} (h : SqT K H a xs) (h' : SqT K H b ys) (l : xs.length + ys.length ≤ sizeLine) (q : ∀ H' t, Same H H' → SqT K H' t (xs ++ ys) → Q (.ref t) H') : rCatA K (.ref a) (.ref b) H Q := by
  refine ⟨a, b, xs, ys, rfl, rfl, h, h', l, fun e => ?_, fun _ e => ?_, fun _ _ p np => q _ p (same_new np) (.inl (.inl upd_same))⟩
  · subst e
    exact q H b (Same.refl H) h'
  · subst e
    refine q H a (Same.refl H) ?_
    rw [List.append_nil]
    exact h
theorem cut_tail (x : V) (xs : List V) : cutV (x :: xs) (some 1) none = xs := by
  unfold cutV
  show (List.drop (min 1 (xs.length + 1)) (x :: xs)).take (xs.length + 1 - min 1 (xs.length + 1)) = xs
  rw [show min 1 (xs.length + 1) = 1 by omega]
  show xs.take (xs.length + 1 - 1) = xs
  rw [Nat.add_sub_cancel, List.take_length]
theorem cut_to (xs : List V) (m : Nat) : cutV xs none (some (m : Int)) = xs.take m := by
  unfold cutV
  rw [HT.sIx_none, HT.sIx_nat, List.drop_zero, Nat.sub_zero, ← List.take_take, List.take_length]
/-! the law's reckoning, step by step -/
theorem addP_take {g : Cells} {m : Int} {l : List (Int × Int)} {j : Nat} {q : Int × Int} (h : l[j]? = some q) : addP g m (l.take (j + 1)) = add1 (addP g m (l.take j)) m q.1 q.2 := by
  rw [List.take_add_one, h]
  unfold addP
  rw [List.foldl_append]
  rfl
theorem addF_take {n : Int} {fam : Fm} {i : Nat} {p : List Int × Int} (h : fam[i]? = some p) : addF n (fam.take (i + 1)) = addP (addF n (fam.take i)) p.2 (prs p.1 n) := by
  rw [List.take_add_one, h]
  unfold addF
  rw [List.foldl_append]
  rfl
theorem prs_len {p : List Int} {n : Int} (h : p ≠ []) : (prs p n).length = p.length := by
  unfold prs
  rw [List.length_zip, List.length_append, List.length_tail, List.length_singleton]
  have : p.length ≠ 0 := fun z => h (List.length_eq_zero_iff.mp z)
  omega
theorem prs_at {p : List Int} {n : Int} {j : Nat} {d d' : Int} (h : p[j]? = some d) (h' : (p.tail ++ [n])[j]? = some d') : (prs p n)[j]? = some (d, d') := by
  unfold prs
  rw [List.getElem?_zip_eq_some]
  exact ⟨h, h'⟩
theorem prs_bd {p : List Int} {n : Int} {j : Nat} {d d' : Int} (hp : Pat n p) (h : p[j]? = some d) (h' : (p.tail ++ [n])[j]? = some d') : 0 ≤ d ∧ d < n ∧ 0 ≤ d' ∧ d' ≤ n := by
  have a := hp.bd d (List.mem_of_getElem? h)
  refine ⟨a.1, a.2, ?_⟩
  rcases List.mem_append.mp (List.mem_of_getElem? h') with z | z
  · have := hp.bd d' (List.mem_of_mem_tail z)
    omega
  · rw [List.mem_singleton.mp z]
    omega
theorem add1_zero (g : Cells) (m d : Int) : add1 g m d (d + ((0 : Nat) : Int)) = g := by
  funext s k
  unfold add1
  rw [if_neg]
  omega
theorem add1_step (g : Cells) (m : Int) (d e s k : Nat) : add1 g m (d : Int) ((d : Int) + ((e + 1 : Nat) : Int)) s k =
    if s = d + e ∧ k = e then add1 g m (d : Int) ((d : Int) + (e : Int)) s k + m else add1 g m (d : Int) ((d : Int) + (e : Int)) s k := by
  unfold add1
  by_cases c : s = d + e ∧ k = e
  · obtain ⟨rfl, rfl⟩ := c
    rw [if_pos (by omega), if_pos ⟨rfl, rfl⟩, if_neg (by omega)]
  · rw [if_neg c]
    by_cases a : (d : Int) ≤ (s : Int) ∧ (s : Int) < (d : Int) + (e : Int) ∧ (s : Int) - (k : Int) = d
    · rw [if_pos a, if_pos (by omega)]
    · rw [if_neg a, if_neg (by omega)]
theorem add1_end (g : Cells) (m d d' : Int) : add1 g m d (d + ((d' - d).toNat : Int)) = add1 g m d d' := by
  funext s k
  unfold add1
  by_cases a : d ≤ (s : Int) ∧ (s : Int) < d' ∧ (s : Int) - (k : Int) = d
  · rw [if_pos a, if_pos (by omega)]
  · rw [if_neg a, if_neg (by omega)]
theorem cr_take (c : Cells) (m s w : Nat) : (cr c m s).take w = cr c (min m w) s := by
  unfold cr
  rw [← List.map_take, List.take_range, Nat.min_comm]
theorem shRow_cr {n : Nat} {fam : Fm} (h : ∀ p ∈ fam, Pat n p.1) {s : Nat} (hs : s < n) (m : Nat) : (cr (fun s k => pre (addF n fam) s k) (s + 1) s).take m = shRow fam s m := by
  rw [cr_take]
  unfold shRow cr
  refine List.map_congr_left fun k _ => ?_
  exact law_cells h (by omega)
end Fa

namespace K01
open PySem PySem.Spec PyProof.Rows L2 Fa
abbrev s__law_sheet : Stmt := topS 41
abbrev N__law_sheet : List Str := ["some", "count_here", "wide", "found", "one", "number_here", "day_here", "later_day", "spot", "row_here", "back_here"]
theorem sc__law_sheet : FnScope N__law_sheet ["some", "count_here", "wide"] (defScope s__law_sheet) := ⟨rfl, rfl, rfl, by decide +kernel, rfl, by decide +kernel, by decide +kernel⟩
section
variable {P : Program} {w : World} {K : PySem.W.Frag} {mg : Str → Option Value} {base : Heap}
def spShe : Sp := fun vs H Q _ => ∃ (f : Addr) (fam : Fm) (n m : Nat), vs = [.ref f, .int n, .int m] ∧ FamAt H f fam ∧ (∀ p ∈ fam, Pat n p.1) ∧ n ≤ 30 ∧ m ≤ 30 ∧
  ∀ H' g rows, Same H H' → H g = none → (∀ r ∈ rows, H r = none) → GridAt H' g rows n (fun s => shRow fam s m) → Q (.ref g) H'
theorem ok_she {f : Addr} {fd : FuncData} {k : Nat} (F : Fun K "_law_sheet" "_law_sheet" s__law_sheet f fd) (m_range : mg "range" = none) (m_zip : mg "zip" = none) (m_len : mg "len" = none) : FnOk P w K mg base CX0 (k + 1) f fd ["some", "count_here", "wide"] spShe := by
  refine F.ok sc__law_sheet (fun vs H Q E h => ?_) (fun cdv A outer s H vs Q E hr h => ?_)
  · obtain ⟨f, fam, n, m, rfl, _⟩ := h
    rfl
  · obtain ⟨g, fam, n, m, rfl, ⟨xs, eg, hP⟩, hp, hn, hm, q⟩ := h
    refine ⟨_, (pss_cons (ps_setLc (i := 3) (own := [("spot", 8)]) (g := (gName 8)) (tt := tYes) rfl sc__law_sheet.nd rfl rfl (sw_true rfl rfl rfl (by decide +kernel)) (pi_range1 (by rfl) m_range (pa_cons (pv 1) pa_nil)) (blkOk_by (N := N__law_sheet) (sc := defScope s__law_sheet) (by decide +kernel)) (fun _ _ _ _ _ => (pg_name (i := 8) sc__law_sheet.nd rfl (by first | exact Or.inl rfl | exact Or.inr rfl))) (fun _ _ _ _ _ => pts_nil) (fun _ _ _ _ _ => (pe_op op_rep (pe_lst (pa_cons pe_int pa_nil)) (pe_op op_add (pv 8) pe_int))))
  (pss_cons (ps_for PassesOwn.never rfl (Fa.listQ K (pv 0)) (pg_tup rfl (pgs_cons (pg_name (i := 4) sc__law_sheet.nd rfl (by first | exact Or.inl rfl | exact Or.inr rfl)) (pgs_cons (pg_name (i := 5) sc__law_sheet.nd rfl (by first | exact Or.inl rfl | exact Or.inr rfl)) pgs_nil))) (pss_one (ps_for PassesOwn.never rfl (RZ.pi_zipA (by rfl) m_zip (pa_cons (pv 4) (pa_cons (pe_op (Fa.catTA K) (pe_slice (Fa.slTA K) (pv 4) (po_some pe_int) po_none) (pe_tup (pa_cons (pv 1) pa_nil))) pa_nil))) (pg_tup rfl (pgs_cons (pg_name (i := 6) sc__law_sheet.nd rfl (by first | exact Or.inl rfl | exact Or.inr rfl)) (pgs_cons (pg_name (i := 7) sc__law_sheet.nd rfl (by first | exact Or.inl rfl | exact Or.inr rfl)) pgs_nil))) (pss_one (ps_for PassesOwn.never rfl (pi_range2 (by rfl) m_range (pa_cons (pv 6) (pa_cons (pv 7) pa_nil))) (pg_name (i := 8) sc__law_sheet.nd rfl (by first | exact Or.inl rfl | exact Or.inr rfl)) (pss_cons (ps_set (i := 9) sc__law_sheet.nd rfl (by first | exact Or.inl rfl | exact Or.inr rfl) (pe_ix (Fa.ixL K) (pv 3) (pv 8) (fun _ _ => rfl)))
  (pss_one (ps_asg (pe_op op_add (pe_ix (Fa.ixL K) (pv 9) (pe_op op_sub (pv 8) (pv 6)) (fun _ _ => rfl)) (pv 5)) (pg_sub (pv 9) (pe_op op_sub (pv 8) (pv 6)) set_list)))))))))
  (pss_cons (ps_for PassesOwn.never rfl (Fa.listQ K (pv 3)) (pg_name (i := 9) sc__law_sheet.nd rfl (by first | exact Or.inl rfl | exact Or.inr rfl)) (pss_one (ps_for PassesOwn.never rfl (pi_range2 (by rfl) m_range (pa_cons pe_int (pa_cons (pe_callB (Fa.lenQ K) (by rfl) m_len PySem.boot_len (pa_cons (pv 9) pa_nil)) pa_nil))) (pg_name (i := 10) sc__law_sheet.nd rfl (by first | exact Or.inl rfl | exact Or.inr rfl)) (pss_one (ps_asg (pe_op op_add (pe_ix (Fa.ixL K) (pv 9) (pv 10) (fun _ _ => rfl)) (pe_ix (Fa.ixL K) (pv 9) (pe_op op_sub (pv 10) pe_int) (fun _ _ => rfl))) (pg_sub (pv 9) (pv 10) set_list))))))
  (pss_one (ps_ret (pe_lc (own := [("row_here", 9)]) (g := (gName 9)) (tt := tYes) rfl sc__law_sheet.nd (Fa.listQ K (pv 3)) (blkOk_by (N := N__law_sheet) (sc := defScope s__law_sheet) (by decide +kernel)) (fun _ _ _ _ _ => (pg_name (i := 9) sc__law_sheet.nd rfl (by first | exact Or.inl rfl | exact Or.inr rfl))) (fun _ _ _ _ _ => pts_nil) (fun _ _ _ _ _ => (pe_slice (Fa.slL K) (pv 9) po_none (po_some (pv 2)))))))))), ?_⟩
    refine ⟨_, rfl, n, rfl, by omega, by omega, fun D nD => ?_⟩
    refine lc_range (lo := 0) (fun i H2 => Same H H2 ∧ ∃ rows, GridAt H2 D rows i (fun s => cr (fun _ _ => 0) (s + 1) s) ∧ ∀ r ∈ rows, H r = none) ?_ ?_ ?_
    · exact ⟨same_new nD, [], gridAt_nil upd_same, fun r z => (List.not_mem_nil z).elim⟩
    · rintro i H2 hi ⟨s2, rows, G, fresh⟩
      refine ⟨rfl, yes_if ⟨by show 1 ≤ sizeLine; decide, fun l nl => ⟨_, rfl, _, _, rfl, rfl, l, _, _, rfl, rfl, upd_same, by omega, by omega, ?_, fun p np => ?_⟩⟩⟩
      · show 1 * _ ≤ sizeLine
        rw [Nat.one_mul]
        exact Nat.le_of_lt (small1000 (by omega))
      · have nlD : D ≠ l := ne_of_none G.top nl
        have lp : l ≠ p := ne_of_none upd_same np
        have np2 : H2 p = none := by rwa [upd_ne lp.symm] at np
        have npD : D ≠ p := ne_of_none G.top np2
        have npr : p ∉ rows := fun z => by
          obtain ⟨j, hj, e⟩ := List.mem_iff_getElem.mp z
          have := G.row j p (by rw [List.getElem?_eq_getElem hj, e])
          rw [np2] at this
          cases this
        have nlr : l ∉ rows := fun z => by
          obtain ⟨j, hj, e⟩ := List.mem_iff_getElem.mp z
          have := G.row j l (by rw [List.getElem?_eq_getElem hj, e])
          rw [nl] at this
          cases this
        have G3 := (G.off (o := .lst [.int 0]) nlD.symm nlr).off (p := p) (o := .lst (List.replicate ((0 : Int) + (i : Int) + 1).toNat [V.int 0]).flatten) npD.symm npr
        have s3 : Same H _ := fun b o e => same_new (o := .lst (List.replicate ((0 : Int) + (i : Int) + 1).toNat [V.int 0]).flatten) np _ _ (same_new (o := .lst [.int 0]) nl _ _ (s2 _ _ e))
        have ep : upd (upd H2 l (.lst [.int 0])) p (.lst (List.replicate ((0 : Int) + (i : Int) + 1).toNat [V.int 0]).flatten) p = some (.lst ((cr (fun _ _ => 0) (i + 1) i).map V.int)) := by
          rw [upd_same, flat_zeros, show ((0 : Int) + (i : Int) + 1).toNat = i + 1 by omega]
          rfl
        have hnp : H p = none := s2.free np2
        refine ⟨rows.map V.ref, G3.top, ?_, ?_⟩
        · rw [List.length_map, G.cnt]
          exact small1000 (by omega)
        generalize upd (upd H2 l (.lst [.int 0])) p (.lst (List.replicate ((0 : Int) + (i : Int) + 1).toNat [V.int 0]).flatten) = H3 at G3 s3 ep ⊢
        refine ⟨fun b o e => ?_, _, G3.grow ep npD.symm npr, fun r hr => ?_⟩
        · rw [upd_ne (ne_of_none e nD)]
          exact s3 _ _ e
        · rcases List.mem_append.mp hr with z | z
          · exact fresh r z
          · rw [List.mem_singleton.mp z]
            exact hnp
    · rintro H2 ⟨s2, rows, G, fresh⟩
      refine ⟨_, rfl, g, rfl, ⟨xs, .inl (.inl (s2 _ _ eg))⟩, ?_⟩
      refine for_it (walk_list (xs := xs)) (fun i σ H' => Same H H' ∧ GridAt H' D rows n (fun s => cr (addF n (fam.take i)) (s + 1) s) ∧ ∃ x4 x5 x6 x7 x8 x9, σ = [some (.ref g), some (.int n), some (.int m), some (.ref D), x4, x5, x6, x7, x8, x9, none]) ?_ ?_ ?_ ?_
      · exact ⟨s2, G, none, none, none, none, none, none, rfl⟩
      · rintro i σ H1 _ ⟨s1, _⟩
        exact .inl (.inl (s1 _ _ eg))
      · rintro i v σ _ H3 hi ⟨s3, G3, x4, x5, x6, x7, x8, x9, rfl⟩ ⟨rfl, ev⟩
        obtain ⟨pt, ep, t, bb, rfl, h1, h2⟩ := paired_at hP ev
        have hpt := hp pt (List.mem_of_getElem? ep)
        have cutE : cutV (pt.1.map V.int) (some 1) none = pt.1.tail.map V.int := by
          cases e : pt.1 with
          | nil => exact absurd e hpt.ne
          | cons d ds => exact cut_tail _ _
        have plen : pt.1.length ≤ 30 := by
          have := hpt.len
          omega
        refine ⟨t, _, rfl, .inl (.inl (s3 _ _ h1)), rfl, _, _, rfl, _, _, rfl, rfl, ?_⟩
        refine ⟨_, rfl, _, rfl, 1, rfl, ?_⟩
        unfold tNoPart
        show rSlA K _ _ _ _ _
        refine slA_ok (.inl (.inl (s3 _ _ h2))) fun H4 t4 s4 q4 => ⟨_, rfl, by show 1 ≤ sizeLine; decide, fun t5 nt5 => ?_⟩
        refine catA_ok (sqT_same (same_new nt5) q4) (.inl (.inl upd_same)) ?_ fun H6 t6 s6 q6 => ?_
        · rw [cutE, List.length_map, List.length_tail]
          exact Nat.le_of_lt (small1000 (by show pt.1.length - 1 + 1 ≤ 1000; omega))
        · rw [cutE] at q6
          have s36 : Same H3 H6 := (s4.trans (same_new nt5)).trans s6
          refine ⟨bb, t6, _, _, rfl, .inr ⟨.inl (.inl (s36 _ _ (s3 _ _ h2))), q6, ?_⟩⟩
          refine RZ.for_zipT (xs := pt.1.map V.int) (ys := pt.1.tail.map V.int ++ [.int n]) ?_ (fun j σ H' => Same H H' ∧ (∀ t us, SqT K H6 t us → SqT K H' t us) ∧ GridAt H' D rows n (fun s => cr (addP (addF n (fam.take i)) pt.2 ((prs pt.1 n).take j)) (s + 1) s) ∧ ∃ x6 x7 x8 x9, σ = [some (.ref g), some (.int n), some (.int m), some (.ref D), some (.ref bb), some (.int pt.2), x6, x7, x8, x9, none]) ?_ ?_ ?_ ?_
          · rw [List.length_append, List.length_map, List.length_map, List.length_tail]
            have : pt.1.length ≠ 0 := fun z => hpt.ne (List.length_eq_zero_iff.mp z)
            simp only [List.length_singleton]
            omega
          · exact ⟨s3.trans s36, fun _ _ z => z, G3.same s36, x6, x7, x8, x9, rfl⟩
          · rintro j σ H7 ⟨_, k7, _⟩
            exact ⟨k7 _ _ (.inl (.inl (s36 _ _ (s3 _ _ h2)))), k7 _ _ q6⟩
          · rintro j vx vy T σ H7 hx hy ⟨s7, k7, G7, y6, y7, y8, y9, rfl⟩ nT
            obtain ⟨d, ed, rfl⟩ := int_at hx
            obtain ⟨d', ed', rfl⟩ : ∃ d', (pt.1.tail ++ [(n : Int)])[j]? = some d' ∧ vy = .int d' := by
              have e : pt.1.tail.map V.int ++ [V.int n] = (pt.1.tail ++ [(n : Int)]).map V.int := by
                rw [List.map_append]
                rfl
              rw [e] at hy
              exact int_at hy
            have hpr := prs_at ed ed'
            obtain ⟨d0, dn, d0', dn'⟩ := prs_bd hpt ed ed'
            obtain ⟨dN, rfl⟩ := Int.eq_ofNat_of_zero_le d0
            have s7' : Same H7 (upd H7 T (.tup [.int dN, .int d'])) := same_new nT
            refine ⟨T, _, rfl, .inl (.inl upd_same), rfl, _, _, rfl, _, _, rfl, rfl, _, rfl, _, rfl, dN, d', rfl, ⟨by omega, by omega, by omega, by omega⟩, ?_⟩
            have G8 := G7.same s7'
            have s8 := s7.trans s7'
            have k8 : ∀ t us, SqT K H6 t us → SqT K (upd H7 T (.tup [.int dN, .int d'])) t us := fun t us z => sqT_same s7' (k7 t us z)
            generalize upd H7 T (.tup [.int dN, .int d']) = H8 at G8 s8 k8 ⊢
            refine for_range (lo := (dN : Int)) (fun e σ H' => Same H H' ∧ (∀ t us, SqT K H6 t us → SqT K H' t us) ∧ GridAt H' D rows n (fun s => cr (add1 (addP (addF n (fam.take i)) pt.2 ((prs pt.1 n).take j)) pt.2 dN ((dN : Int) + (e : Int))) (s + 1) s) ∧
              ∃ x8 x9, σ = [some (.ref g), some (.int n), some (.int m), some (.ref D), some (.ref bb), some (.int pt.2), some (.int dN), some (.int d'), x8, x9, none]) ?_ ?_ ?_
            · refine ⟨s8, k8, ?_, y8, y9, rfl⟩
              rw [add1_zero]
              exact G8
            · rintro e σ H9 he ⟨s9, k9, G9, z8, z9, rfl⟩
              obtain ⟨r, er, hr', hrow⟩ := G9.get (s := dN + e) (by omega)
              have at1 : atI (rows.map V.ref) ((dN : Int) + (e : Int)) = some (.ref r) := atI_int (by omega) (by rw [show ((dN : Int) + (e : Int)).toNat = dN + e by omega, List.getElem?_map, er]; rfl)
              have ie : ((dN : Int) + (e : Int) - (dN : Int)) = ((e : Nat) : Int) := by omega
              refine ⟨_, rfl, _, rfl, D, _, _, _, rfl, rfl, .inl (.inl G9.top), at1, ?_⟩
              refine ⟨_, rfl, _, rfl, _, rfl, _, _, rfl, rfl, r, _, _, _, rfl, rfl, .inl (.inl hrow), by rw [ie]; exact atI_nat (cr_atV (by omega)), _, rfl, _, _, rfl, rfl, _, rfl, _, rfl, _, rfl, _, _, rfl, rfl, r, _, _, e, rfl, rfl, hrow, ?_, ?_⟩
              · rw [ie, List.length_map, cr_len]
                exact ixN_int (by omega) (by omega)
              · refine ⟨fun b o z => ?_, fun t us z => sqT_mut hrow (k9 t us z), G9.poke er fun s' k' hs' hk' => ?_, _, _, rfl⟩
                · rw [upd_ne (fun q => by subst q; rw [fresh b hr'] at z; cases z)]
                  exact s9 _ _ z
                · show add1 _ _ _ ((dN : Int) + ((e + 1 : Nat) : Int)) s' k' = _
                  rw [add1_step]
                  by_cases c : s' = dN + e ∧ k' = e
                  · obtain ⟨rfl, rfl⟩ := c
                    rw [if_pos ⟨rfl, rfl⟩]
                  · rw [if_neg c, if_neg c]
            · rintro σ H9 ⟨s9, k9, G9, z8, z9, rfl⟩
              rw [add1_end] at G9
              refine ⟨s9, k9, ?_, _, _, _, _, rfl⟩
              rw [addP_take hpr]
              exact G9
          · rintro σ H7 ⟨s7, k7, G7, y6, y7, y8, y9, rfl⟩
            refine ⟨s7, ?_, _, _, _, _, _, _, rfl⟩
            have tk : (prs pt.1 n).take (pt.1.map V.int).length = prs pt.1 n := List.take_of_length_le (by rw [prs_len hpt.ne, List.length_map]; exact Nat.le_refl _)
            rw [tk] at G7
            rw [addF_take ep]
            exact G7
      · rintro σ H3 ⟨s3, G3, x4, x5, x6, x7, x8, x9, rfl⟩
        rw [List.take_of_length_le (show fam.length ≤ xs.length by rw [hP.length]; exact Nat.le_refl _)] at G3
        refine ⟨_, rfl, D, rfl, ⟨_, .inl (.inl G3.top)⟩, ?_⟩
        refine for_it (walk_list (xs := rows.map V.ref)) (fun i σ H' => Same H H' ∧ GridAt H' D rows n (fun s => cr (fun s k => if s < i then pre (addF n fam) s k else addF n fam s k) (s + 1) s) ∧
          ∃ x4 x5 x6 x7 x8 x9 x10, σ = [some (.ref g), some (.int n), some (.int m), some (.ref D), x4, x5, x6, x7, x8, x9, x10]) ?_ ?_ ?_ ?_
        · refine ⟨s3, G3.ext fun s _ => cr_ext fun k _ => ?_, x4, x5, x6, x7, x8, x9, none, rfl⟩
          rw [if_neg (by omega)]
        · rintro i σ H4 _ ⟨_, G4, _⟩
          exact .inl (.inl G4.top)
        · rintro i v σ _ H4 hi ⟨s4, G4, y4, y5, y6, y7, y8, y9, y10, rfl⟩ ⟨rfl, ev⟩
          rw [List.length_map, G4.cnt] at hi
          obtain ⟨r, er, hr', hrow⟩ := G4.get (s := i) hi
          rw [List.getElem?_map, er] at ev
          cases ev
          refine ⟨_, rfl, r, _, rfl, .inl (.inl (.inl hrow)), 1, _, rfl, ⟨by omega, by omega, by omega, by rw [List.length_map, cr_len]; omega⟩, ?_⟩
          rw [List.length_map, cr_len, show (((i + 1 : Nat) : Int) - 1).toNat = i by omega]
          refine for_range (lo := 1) (fun j σ H' => Same H H' ∧ GridAt H' D rows n (fun s => cr (fun s k => if s < i ∨ (s = i ∧ k ≤ j) then pre (addF n fam) s k else addF n fam s k) (s + 1) s) ∧
            ∃ x10, σ = [some (.ref g), some (.int n), some (.int m), some (.ref D), y4, y5, y6, y7, y8, some (.ref r), x10]) ?_ ?_ ?_
          · refine ⟨s4, G4.ext fun s _ => cr_ext fun k _ => ?_, y10, rfl⟩
            by_cases c : s < i
            · rw [if_pos c, if_pos (.inl c)]
            · rw [if_neg c]
              by_cases c2 : s = i ∧ k ≤ 0
              · rw [if_pos (.inr c2)]
                obtain ⟨rfl, c3⟩ := c2
                obtain rfl : k = 0 := by omega
                rfl
              · rw [if_neg (by omega)]
          · rintro j σ H5 hj ⟨s5, G5, z10, rfl⟩
            have hrow5 := G5.row i r er
            refine ⟨_, rfl, _, rfl, r, _, _, _, rfl, rfl, .inl (.inl hrow5), by rw [show (1 : Int) + (j : Int) = ((j + 1 : Nat) : Int) by omega]; exact atI_nat (cr_atV (by omega)),
              _, rfl, _, rfl, _, _, rfl, rfl, r, _, _, _, rfl, rfl, .inl (.inl hrow5), by rw [show (1 : Int) + (j : Int) - 1 = ((j : Nat) : Int) by omega]; exact atI_nat (cr_atV (by omega)), _, _, rfl, rfl, _, rfl, _, rfl, r, _, _, j + 1, rfl, rfl, hrow5, ?_, ?_⟩
            · rw [List.length_map, cr_len, show (1 : Int) + (j : Int) = ((j + 1 : Nat) : Int) by omega]
              exact ixN_int (by omega) (by omega)
            · refine ⟨fun b o z => ?_, G5.poke er fun s' k' hs' hk' => ?_, _, rfl⟩
              · rw [upd_ne (fun q => by subst q; rw [fresh b hr'] at z; cases z)]
                exact s5 _ _ z
              · by_cases c : s' = i ∧ k' = j + 1
                · obtain ⟨rfl, rfl⟩ := c
                  rw [if_pos (.inr ⟨rfl, Nat.le_refl _⟩), if_pos ⟨rfl, rfl⟩, if_neg (by omega), if_pos (.inr ⟨rfl, Nat.le_refl _⟩)]
                  show pre _ _ _ + _ = _
                  omega
                · rw [if_neg c]
                  by_cases c2 : s' < i ∨ (s' = i ∧ k' ≤ j)
                  · rw [if_pos c2, if_pos (by omega)]
                  · rw [if_neg c2, if_neg (by omega)]
          · rintro σ H5 ⟨s5, G5, z10, rfl⟩
            refine ⟨s5, G5.ext fun s _ => cr_ext fun k hk => ?_, _, _, _, _, _, _, _, rfl⟩
            by_cases c : s < i + 1
            · rw [if_pos c, if_pos (by omega)]
            · rw [if_neg c, if_neg (by omega)]
        · rintro σ H4 ⟨s4, G4, y4, y5, y6, y7, y8, y9, y10, rfl⟩
          rw [List.length_map, G4.cnt] at G4
          have G5 : GridAt H4 D rows n (fun s => cr (fun s k => pre (addF n fam) s k) (s + 1) s) := G4.ext fun s hs => cr_ext fun k _ => by rw [if_pos hs]
          refine ⟨_, rfl, D, rfl, ⟨_, .inl (.inl G5.top)⟩, fun D2 nD2 => ?_⟩
          have nD2' : H D2 = none := s4.free nD2
          refine lc_it (walk_list (xs := rows.map V.ref)) (fun i H2 => Same H4 H2 ∧ ∃ rs, GridAt H2 D2 rs i (fun s => shRow fam s m) ∧ ∀ r ∈ rs, H r = none) ?_ ?_ ?_ ?_
          · exact ⟨same_new nD2, [], gridAt_nil upd_same, fun r z => (List.not_mem_nil z).elim⟩
          · rintro i H6 _ ⟨s6, _⟩
            exact .inl (.inl (s6 _ _ G5.top))
          · rintro i v _ H6 hi ⟨s6, rs, G6, fr⟩ ⟨rfl, ev⟩
            rw [List.length_map, G5.cnt] at hi
            obtain ⟨r, er, hr', hrow⟩ := G5.get (s := i) hi
            rw [List.getElem?_map, er] at ev
            cases ev
            refine ⟨rfl, yes_if ⟨_, rfl, ?_⟩⟩
            unfold tNoPart
            refine ⟨_, rfl, m, rfl, r, _, rfl, .inl (.inl (s6 _ _ hrow)), fun p np => ?_⟩
            have npD : p ≠ D2 := fun z => by rw [z, G6.top] at np; cases np
            have npr : p ∉ rs := fun z => by
              obtain ⟨j, hj, e⟩ := List.mem_iff_getElem.mp z
              have := G6.row j p (by rw [List.getElem?_eq_getElem hj, e])
              rw [np] at this
              cases this
            have G7 := G6.off (o := .lst (cutV ((cr (fun s k => pre (addF n fam) s k) (i + 1) i).map V.int) none (some m))) npD npr
            refine ⟨rs.map V.ref, G7.top, ?_, fun b o z => ?_, rs ++ [p], G7.grow ?_ npD npr, fun q hq => ?_⟩
            · rw [List.length_map, G6.cnt]
              exact small1000 (by omega)
            · rw [upd_ne (ne_of_none z nD2)]
              exact same_new np _ _ (s6 _ _ z)
            · rw [upd_same, cut_to, ← List.map_take, shRow_cr hp hi]
            · rcases List.mem_append.mp hq with z | z
              · exact fr q z
              · rw [List.mem_singleton.mp z]
                exact s4.free (s6.free np)
          · rintro H6 ⟨s6, rs, G6, fr⟩
            rw [List.length_map, G5.cnt] at G6
            exact q H6 D2 rs (s4.trans s6) nD2' fr G6
end
end K01

namespace Fa
open PySem PySem.Spec PyProof.Rows L2
theorem cut_last (xs : List V) (x : V) : cutV (xs ++ [x]) none (some (-1)) = xs := by
  unfold cutV
  rw [HT.sIx_none]
  show ((xs ++ [x]).drop 0).take ((-1 + ((xs ++ [x]).length : Int)).toNat - 0) = xs
  rw [List.drop_zero, List.length_append, List.length_singleton, show (-1 + ((xs.length + 1 : Nat) : Int)).toNat - 0 = xs.length by omega, List.take_left]
/-- all that was tracked stands, but at these -/
def Off (l : List Addr) (H H' : Hp) : Prop := ∀ b o, b ∉ l → H b = some o → H' b = some o
theorem Off.refl (l : List Addr) (H : Hp) : Off l H H := fun _ _ _ h => h
theorem Off.trans {l : List Addr} {H H1 H2 : Hp} (a : Off l H H1) (b : Off l H1 H2) : Off l H H2 := fun c o n h => b c o n (a c o n h)
theorem off_same {l : List Addr} {H H' : Hp} (s : Same H H') : Off l H H' := fun c o _ h => s c o h
theorem Off.mut {l : List Addr} {H H1 : Hp} {p : Addr} {o : HO} (a : Off l H H1) (h : p ∈ l) : Off l H (upd H1 p o) := fun c u n e => by
  rw [upd_ne (fun z => n (by rw [z]; exact h))]
  exact a c u n e
theorem GridAt.offs {H H' : Hp} {g : Addr} {rows l : List Addr} {n : Nat} {f : Nat → List Int} (h : GridAt H g rows n f) (a : Off l H H') (ng : g ∉ l) (nr : ∀ r ∈ rows, r ∉ l) : GridAt H' g rows n f :=
  h.but fun b o hb e => a b o (hb.elim (fun z => by rw [z]; exact ng) (nr b)) e
theorem sqL_same {K : PySem.W.Frag} {H H' : Hp} {a : Addr} {xs : List V} (s : Same H H') (h : SqL K H a xs) : SqL K H' a xs := s.seq h
theorem rg0 (n : Nat) : rgV 0 (n : Int) = ((List.range n).map fun i : Nat => (i : Int)).map V.int := by
  unfold rgV
  rw [List.map_map, show ((n : Int) - 0).toNat = n by omega]
  refine List.map_congr_left fun i _ => ?_
  show V.int (0 + (i : Int)) = V.int (i : Int)
  rw [Int.zero_add]
theorem GridAt.noRow {H : Hp} {g p : Addr} {rs : List Addr} {n : Nat} {f : Nat → List Int} (G : GridAt H g rs n f) (np : H p = none) : p ≠ g ∧ p ∉ rs := by
  refine ⟨fun z => ?_, fun z => ?_⟩
  · rw [z, G.top] at np
    cases np
  · obtain ⟨j, hj, e⟩ := List.mem_iff_getElem.mp z
    have := G.row j p (by rw [List.getElem?_eq_getElem hj, e])
    rw [np] at this
    cases this
/-- a comprehension's turn: a new row at p, then its place in the new list at g -/
theorem grow_step {H0 H : Hp} {g p : Addr} {rs : List Addr} {i : Nat} {f : Nat → List Int} {l : List V} (s : Same H0 H) (ng : H0 g = none) (G : GridAt H g rs i f) (np : H p = none) (hl : l = (f i).map V.int) (hi : i ≤ 900) :
    upd H p (.lst l) g = some (.lst (rs.map V.ref)) ∧ (rs.map V.ref).length < sizeLine ∧ Same H0 (upd (upd H p (.lst l)) g (.lst (rs.map V.ref ++ [.ref p]))) ∧
      GridAt (upd (upd H p (.lst l)) g (.lst (rs.map V.ref ++ [.ref p]))) g (rs ++ [p]) (i + 1) f := by
  obtain ⟨npg, npr⟩ := G.noRow np
  have G7 := G.off (o := .lst l) npg npr
  refine ⟨G7.top, ?_, fun b o z => ?_, G7.grow (by rw [upd_same, hl]) npg npr⟩
  · rw [List.length_map, G.cnt]
    exact small1000 (by omega)
  · rw [upd_ne (ne_of_none z ng)]
    exact same_new np _ _ (s _ _ z)
/-- a place of a grid is written -/
theorem GridAt.write {H : Hp} {g : Addr} {rows : List Addr} {n : Nat} {f : Nat → List Int} {s k : Nat} {r : Addr} {v : Int} (h : GridAt H g rows n f) (hs : rows[s]? = some r) :
    GridAt (upd H r (.lst (((f s).map V.int).set k (.int v)))) g rows n fun t => if t = s then (f s).set k v else f t := by
  rw [set_mapV]
  exact h.put hs
end Fa

namespace K01
open PySem PySem.Spec PyProof.Rows L2 Fa
abbrev s__law_bent : Stmt := topS 43
abbrev N__law_bent : List Str := ["jar", "sheet_here", "found", "turn", "spot", "back_here", "more", "row_here"]
theorem sc__law_bent : FnScope N__law_bent ["jar", "sheet_here"] (defScope s__law_bent) := ⟨rfl, rfl, rfl, by decide +kernel, rfl, by decide +kernel, by decide +kernel⟩
/-- numbers of a sheet: rows of told lengths, numbers from 0 to C -/
def Nums (n : Nat) (len : Nat → Nat) (C : Int) (f : Nat → List Int) : Prop := ∀ s, s < n → (f s).length = len s ∧ ∀ x ∈ f s, 0 ≤ x ∧ x ≤ C
section
variable {P : Program} {w : World} {K : PySem.W.Frag} {mg : Str → Option Value} {base : Heap}
def spBent : Sp := fun vs H Q _ => ∃ (p g : Addr) (rows : List Addr) (n : Nat) (len : Nat → Nat) (f : Nat → List Int) (B C : Int), vs = [.ref p, .ref g] ∧ JarAt H p B ∧ B ≤ 800000000 ∧ GridAt H g rows n f ∧ 1 ≤ n ∧ n ≤ 30 ∧ (∀ s, s < n → 1 ≤ len s ∧ len s ≤ 30) ∧
  2 ≤ C ∧ Nums n len C f ∧ ∀ H' g' rows' f', Kp p H H' → H g' = none → (∀ r ∈ rows', H r = none) → GridAt H' g' rows' n f' → Nums n len (27 * C) f' → JarAt H' p (B + 20) → Q (.ref g') H'
theorem ok_bent {f fD : Addr} {fd fdD : FuncData} {k : Nat} (F : Fun K "_law_bent" "_law_bent" s__law_bent f fd) (F__law_dip : Fun K "_law_dip" "_law_dip" s__law_dip fD fdD) (G__law_dip : FnOk P w K mg base CX0 k fD fdD ["jar", "many"] spDip) (b__law_dip : Binds K fdD ["jar", "many"] [])
    (g__law_dip : mg "_law_dip" = some (.ref fD)) (m_range : mg "range" = none) (m_len : mg "len" = none) (m_list : mg "list" = none) (m_max : mg "max" = none) : FnOk P w K mg base CX0 (k + 1) f fd ["jar", "sheet_here"] spBent := by
  refine F.ok sc__law_bent (fun vs H Q E h => ?_) (fun cdv A outer s H vs Q E hr h => ?_)
  · obtain ⟨p, g, _, _, _, _, _, _, rfl, _⟩ := h
    rfl
  · obtain ⟨p, g, rows, n, len, f, B, C, rfl, hJ, hB, G, n1, n30, hlen, C2, hf, q⟩ := h
    refine ⟨_, (pss_cons (ps_setLc (i := 2) (own := [("row_here", 7)]) (g := (gName 7)) (tt := tYes) rfl sc__law_bent.nd rfl rfl (sw_true rfl rfl rfl (by decide +kernel)) (Fa.listQ K (pv 1)) (blkOk_by (N := N__law_bent) (sc := defScope s__law_bent) (by decide +kernel)) (fun _ _ _ _ _ => (pg_name (i := 7) sc__law_bent.nd rfl (by first | exact Or.inl rfl | exact Or.inr rfl))) (fun _ _ _ _ _ => pts_nil) (fun _ _ _ _ _ => (pe_callTy (Fa.lstQ K) (by rfl) m_list PyProof.Rows.boot_list (pa_cons (pv 7) pa_nil))))
  (pss_cons (ps_for PassesOwn.never rfl (pi_range1 (by rfl) m_range (pa_cons (pe_op op_add pe_int (pe_call G__law_dip (hr.mono (by omega)) (by rfl) g__law_dip F__law_dip.kp b__law_dip .nil pass0 (pa_cons (pv 0) (pa_cons pe_int pa_nil)))) pa_nil)) (pg_name (i := 3) sc__law_bent.nd rfl (by first | exact Or.inl rfl | exact Or.inr rfl)) (pss_cons (ps_set (i := 4) sc__law_bent.nd rfl (by first | exact Or.inl rfl | exact Or.inr rfl) (pe_call G__law_dip (hr.mono (by omega)) (by rfl) g__law_dip F__law_dip.kp b__law_dip .nil pass0 (pa_cons (pv 0) (pa_cons (pe_callB (Fa.lenQ K) (by rfl) m_len PySem.boot_len (pa_cons (pv 2) pa_nil)) pa_nil))))
  (pss_cons (ps_set (i := 5) sc__law_bent.nd rfl (by first | exact Or.inl rfl | exact Or.inr rfl) (pe_call G__law_dip (hr.mono (by omega)) (by rfl) g__law_dip F__law_dip.kp b__law_dip .nil pass0 (pa_cons (pv 0) (pa_cons (pe_callB (Fa.lenQ K) (by rfl) m_len PySem.boot_len (pa_cons (pe_ix (Fa.ixL K) (pv 2) (pv 4) (fun _ _ => rfl)) pa_nil)) pa_nil))))
  (pss_cons (ps_set (i := 6) sc__law_bent.nd rfl (by first | exact Or.inl rfl | exact Or.inr rfl) (pe_ix (Fa.ixL K) (pe_lst (pa_cons pe_int (pa_cons (pe_un un_neg pe_int) (pa_cons pe_int (pa_cons (pe_un un_neg pe_int) (pa_cons (pe_op op_add (pe_ix (Fa.ixL K) (pe_ix (Fa.ixL K) (pv 2) (pv 4) (fun _ _ => rfl)) pe_int (fun _ _ => rfl)) pe_int) (pa_cons (pe_op op_sub pe_int (pe_ix (Fa.ixL K) (pe_ix (Fa.ixL K) (pv 2) (pv 4) (fun _ _ => rfl)) pe_int (fun _ _ => rfl))) pa_nil))))))) (pe_call G__law_dip (hr.mono (by omega)) (by rfl) g__law_dip F__law_dip.kp b__law_dip .nil pass0 (pa_cons (pv 0) (pa_cons pe_int pa_nil))) (fun _ _ => rfl)))
  (pss_one (ps_asg (pe_callB (call_max2 rfl) (by rfl) m_max PyProof.Rows.boot_max (pa_cons pe_int (pa_cons (pe_op op_add (pe_ix (Fa.ixL K) (pe_ix (Fa.ixL K) (pv 2) (pv 4) (fun _ _ => rfl)) (pv 5) (fun _ _ => rfl)) (pv 6)) pa_nil))) (pg_sub (pe_ix (Fa.ixL K) (pv 2) (pv 4) (fun _ _ => rfl)) (pv 5) set_list)))))))
  (pss_one (ps_ret (pv 2))))), ?_⟩
    refine ⟨_, rfl, g, rfl, ⟨_, .inl (.inl G.top)⟩, fun D nD => ?_⟩
    refine lc_it (walk_list (xs := rows.map V.ref)) (fun i H2 => Same H H2 ∧ ∃ rs, GridAt H2 D rs i f ∧ ∀ r ∈ rs, H r = none) ?_ ?_ ?_ ?_
    · exact ⟨same_new nD, [], gridAt_nil upd_same, fun r z => (List.not_mem_nil z).elim⟩
    · rintro i H2 _ ⟨s2, _⟩
      exact .inl (.inl (s2 _ _ G.top))
    · rintro i v _ H2 hi ⟨s2, rs, G2, fr⟩ ⟨rfl, ev⟩
      rw [List.length_map, G.cnt] at hi
      obtain ⟨r, er, hr', hrow⟩ := G.get (s := i) hi
      rw [List.getElem?_map, er] at ev
      cases ev
      refine ⟨rfl, yes_if ⟨_, rfl, r, _, rfl, .inl (.inl (.inl (s2 _ _ hrow))), fun z nz => ?_⟩⟩
      obtain ⟨a1, a2, a3, a4⟩ := grow_step s2 nD G2 nz rfl (by omega)
      refine ⟨_, a1, a2, a3, _, a4, fun q hq => ?_⟩
      rcases List.mem_append.mp hq with z | z
      · exact fr q z
      · rw [List.mem_singleton.mp z]
        exact s2.free nz
    · rintro H2 ⟨s2, rs, G2, fr⟩
      rw [List.length_map, G.cnt] at G2
      have hJ2 := hJ.same s2
      have Dp : D ≠ p := hJ.ne nD
      have rp : ∀ r ∈ rs, r ≠ p := fun r hr => hJ.ne (fr r hr)
      refine ⟨_, rfl, p, 3, B, rfl, hJ2, by omega, by decide, lt3000 (by decide), fun H3 r1 b3 hJ3 r10 r13 => ?_⟩
      have G3 : GridAt H3 D rs n f := G2.but fun b o hb e => (b3 b (hb.elim (fun z => by rw [z]; exact Dp) (rp b))).trans e
      refine ⟨_, _, rfl, rfl, _, rfl, by omega, by omega, ?_⟩
      refine for_range (lo := 0) (fun i σ H' => Kp p H H' ∧ JarAt H' p (B + 1 + 3 * i) ∧ (∃ f', GridAt H' D rs n f' ∧ Nums n len (C * 3 ^ i) f') ∧ ∃ x3 x4 x5 x6, σ = [some (.ref p), some (.ref g), some (.ref D), x3, x4, x5, x6, none]) ?_ ?_ ?_
      · refine ⟨(kp_same s2).trans b3.kp, hJ3.mono (by omega), ⟨f, G3, ?_⟩, none, none, none, none, rfl⟩
        rw [Int.pow_zero, Int.mul_one]
        exact hf
      · rintro i σ H4 hi ⟨k4, hJ4, ⟨f4, G4, hf4⟩, x3, x4, x5, x6, rfl⟩
        have i3 : i < 3 := by omega
        refine ⟨_, rfl, _, rfl, D, _, rfl, .inl (.inl (.inl G4.top)), p, _, B + 1 + 3 * i, rfl, hJ4, by omega, by rw [List.length_map, G4.cnt]; omega, lt3000 (by rw [List.length_map, G4.cnt]; omega), fun H5 sp b5 hJ5 sp0 sp1 => ?_⟩
        rw [List.length_map, G4.cnt] at sp1
        obtain ⟨s, rfl⟩ := Int.eq_ofNat_of_zero_le sp0
        have hs : s < n := by omega
        have G5 : GridAt H5 D rs n f4 := G4.but fun b o hb e => (b5 b (hb.elim (fun z => by rw [z]; exact Dp) (rp b))).trans e
        obtain ⟨r, er, hr', hrow5⟩ := G5.get hs
        have at1 : atI (rs.map V.ref) (s : Int) = some (.ref r) := atI_nat (by rw [List.getElem?_map, er]; rfl)
        have ln := (hf4 s hs).1
        have lns := hlen s hs
        refine ⟨_, rfl, _, rfl, _, rfl, D, _, _, _, rfl, rfl, .inl (.inl G5.top), at1, r, _, rfl, .inl (.inl (.inl hrow5)), p, _, B + 1 + 3 * i + 1, rfl, hJ5, by omega, by rw [List.length_map, ln]; omega, lt3000 (by rw [List.length_map, ln]; omega), fun H6 bk b6 hJ6 bk0 bk1 => ?_⟩
        rw [List.length_map, ln] at bk1
        obtain ⟨b, rfl⟩ := Int.eq_ofNat_of_zero_le bk0
        have hb : b < len s := by omega
        have G6 : GridAt H6 D rs n f4 := G5.but fun b o hb e => (b6 b (hb.elim (fun z => by rw [z]; exact Dp) (rp b))).trans e
        have hrow6 := G6.row s r er
        obtain ⟨x0, ex0⟩ : ∃ x0, (f4 s)[0]? = some x0 := ⟨(f4 s)[0]'(by omega), List.getElem?_eq_getElem _⟩
        obtain ⟨xb, exb⟩ : ∃ xb, (f4 s)[b]? = some xb := ⟨(f4 s)[b]'(by omega), List.getElem?_eq_getElem _⟩
        have bx0 := (hf4 s hs).2 x0 (List.mem_of_getElem? ex0)
        have bxb := (hf4 s hs).2 xb (List.mem_of_getElem? exb)
        have at0 : atI ((f4 s).map V.int) 0 = some (.int x0) := atI_int (Int.le_refl _) (by rw [List.getElem?_map]; show Option.map V.int (f4 s)[0]? = _; rw [ex0]; rfl)
        have atb : atI ((f4 s).map V.int) (b : Int) = some (.int xb) := atI_nat (by rw [List.getElem?_map, exb]; rfl)
        have two : (1 : Int) ≤ 3 ^ i := by
          have : i = 0 ∨ i = 1 ∨ i = 2 := by omega
          rcases this with rfl | rfl | rfl <;> decide
        have cb : 2 ≤ C * 3 ^ i := by
          have := Int.mul_le_mul_of_nonneg_left two (show 0 ≤ C by omega)
          omega
        have cs : C * 3 ^ (i + 1) = C * 3 ^ i * 3 := by rw [Int.pow_succ, Int.mul_assoc]
        refine ⟨1, rfl, 2, rfl, _, rfl, _, rfl, D, _, _, _, rfl, rfl, .inl (.inl G6.top), at1, r, _, _, _, rfl, rfl, .inl (.inl hrow6), at0, _, _, rfl, rfl,
          _, rfl, _, rfl, D, _, _, _, rfl, rfl, .inl (.inl G6.top), at1, r, _, _, _, rfl, rfl, .inl (.inl hrow6), at0, _, _, rfl, rfl, by show 6 ≤ sizeLine; decide, fun l nl => ?_⟩
        have nlp := hJ6.ne nl
        refine ⟨_, rfl, p, 6, B + 1 + 3 * i + 1 + 1, rfl, hJ6.far nlp, by omega, by decide, lt3000 (by decide), fun H7 r7 b7 hJ7 r70 r76 => ?_⟩
        obtain ⟨m, eA, mC⟩ : ∃ m : Int, atI [V.int 1, V.int (-1), V.int 2, V.int (-2), V.int (x0 + 1), V.int (0 - x0)] r7 = some (.int m) ∧ m ≤ C * 3 ^ i + 1 := by
          have e : r7 = 0 ∨ r7 = 1 ∨ r7 = 2 ∨ r7 = 3 ∨ r7 = 4 ∨ r7 = 5 := by omega
          rcases e with rfl | rfl | rfl | rfl | rfl | rfl
          · exact ⟨_, rfl, by omega⟩
          · exact ⟨_, rfl, by omega⟩
          · exact ⟨_, rfl, by omega⟩
          · exact ⟨_, rfl, by omega⟩
          · exact ⟨_, rfl, by omega⟩
          · exact ⟨_, rfl, by omega⟩
        have s67 : Same H6 (upd H6 l (.lst [V.int 1, V.int (-1), V.int 2, V.int (-2), V.int (x0 + 1), V.int (0 - x0)])) := same_new nl
        have G7 : GridAt H7 D rs n f4 := (G6.same s67).but fun b o hb e => (b7 b (hb.elim (fun z => by rw [z]; exact Dp) (rp b))).trans e
        have hrow7 := G7.row s r er
        refine ⟨l, _, _, _, rfl, rfl, .inl (.inl ((b7 l nlp).trans upd_same)), eA, ?_⟩
        refine ⟨_, rfl, _, rfl, D, _, _, _, rfl, rfl, .inl (.inl G7.top), at1, _, rfl, r, _, _, _, rfl, rfl, .inl (.inl hrow7), atb, _, rfl, _, _, rfl, rfl, 0, _, rfl,
          _, rfl, _, rfl, D, _, _, _, rfl, rfl, .inl (.inl G7.top), at1, _, rfl, r, _, _, b, rfl, rfl, hrow7, ixN_int (by omega) (by rw [List.length_map, ln]; omega), ?_⟩
        have k7 : Kp p H H7 := ((((k4.trans b5.kp).trans b6.kp).trans (kp_new nl)).trans b7.kp)
        refine ⟨k7.mut (fr r hr'), (hJ7.far (rp r hr')).mono (by omega), ⟨_, G7.write er, fun t ht => ?_⟩, _, _, _, _, rfl⟩
        by_cases c : t = s
        · rw [if_pos c, c]
          refine ⟨by rw [List.length_set]; exact ln, fun x hx => ?_⟩
          rw [cs]
          rcases List.mem_or_eq_of_mem_set hx with z | z
          · have := (hf4 s hs).2 x z
            omega
          · rw [z]
            split <;> omega
        · rw [if_neg c]
          refine ⟨(hf4 t ht).1, fun x hx => ?_⟩
          rw [cs]
          have := (hf4 t ht).2 x hx
          omega
      · rintro σ H4 ⟨k4, hJ4, ⟨f4, G4, hf4⟩, x3, x4, x5, x6, rfl⟩
        refine ⟨_, rfl, q H4 D rs f4 k4 nD fr G4 (fun t ht => ⟨(hf4 t ht).1, fun x hx => ?_⟩) (hJ4.mono (by omega))⟩
        have b := (hf4 t ht).2 x hx
        refine ⟨b.1, Int.le_trans b.2 ?_⟩
        rw [Int.mul_comm 27 C]
        refine Int.mul_le_mul_of_nonneg_left ?_ (by omega)
        have : (1 + r1).toNat = 1 ∨ (1 + r1).toNat = 2 ∨ (1 + r1).toNat = 3 := by omega
        rcases this with e | e | e <;> rw [e] <;> decide
end
end K01

/-! type(x) == T, type(x) != T -/
namespace Fa
open PySem PySem.Spec PyProof.Rows L2
theorem slot_type_ne : Slot "type" (cmpInfo .NotEq).2.1 "object.__ne__" :=
  .of (owner := "object") (n := "__ne__") (by rw [typeLookup_type, builtinLookup_eq_fast]; kernel_rfl) (by decide +kernel) (by decide +kernel)
    (by decide +kernel) (by first | exact .inl (by decide +kernel) | exact .inr (by decide +kernel)) (by rw [isSubtype_type]; kernel_rfl)
section
variable {prog : Program} {w : World} {A : Around} {E : Value → Shared → Prop} {s : Shared} {Q : Value → Shared → Prop}
theorem ne_type_same {Y : String} (hY : ∀ s' : Shared, s'.TypeIs (.type Y) "type") (h : Q (.bool false) s) : wpAny (model prog w) A (compareOp .NotEq (.type Y) (.type Y)) Q E s := by
  show wpAny _ A (richCompare .NotEq _ _) Q E s
  refine wpAny_richCompare_same (T := "type") (hY s) (hY s) slot_type_ne ?_
  refine wpAny_call (codeAny_call_builtin slot_type_ne.plain F.cmpEntry_ne (slot_type_ne.check _ _ _ _ _ _ _ _ (hY s) (F.cmpArgs_ne _ _) ?_))
  have sl : Slot "type" "__eq__" "object.__eq__" := TypeEq.slot_type_eq
  unfold Builtin.«object.__ne__»
  repeat (first | with_reducible refine wpAny_cRoomFor_or (.inl rfl) ?_ | with_reducible refine wpAny_callSpecialIfBound?_slot (hY _) sl (call_gives sl (hY _) F.entry_object_eq (F.args_object_eq_2 _ _) (TypeEq.object_eq_same rfl (by simp)) ?_) | wp_step)
  simp only [Made.post]
  repeat wp_step
  exact ⟨nofun, h⟩
end
def Own3 (T : String) : Prop := T = "int" ∨ T = "list" ∨ T = "tuple"
theorem Own3.meta' {T : String} (h : Own3 T) (s' : Shared) : s'.TypeIs (.type T) "type" := by
  rcases h with rfl | rfl | rfl
  · exact TypeEq.meta_int s'
  · exact TypeEq.meta_list s'
  · exact TypeEq.meta_tuple s'
def rTsE : R2 := fun x y H Q => ∃ T, x = .ty T ∧ y = .ty T ∧ Own3 T ∧ Q (.bl true) H
def rTsN : R2 := fun x y H Q => ∃ T, x = .ty T ∧ y = .ty T ∧ Own3 T ∧ Q (.bl false) H
section
variable {X : Cx}
theorem op_eqTs : OpR X (compareOp .Eq) rTsE := by
  intro pins s σ H x y v u Q I rx ry h
  obtain ⟨T, rfl, rfl, m, q⟩ := h
  cases (show v = Value.type T from rx)
  cases (show u = Value.type T from ry)
  exact TypeEq.eq_type_same m.meta' (fin_bl I q rfl)
theorem op_neTs : OpR X (compareOp .NotEq) rTsN := by
  intro pins s σ H x y v u Q I rx ry h
  obtain ⟨T, rfl, rfl, m, q⟩ := h
  cases (show v = Value.type T from rx)
  cases (show u = Value.type T from ry)
  exact ne_type_same m.meta' (fin_bl I q rfl)
theorem tyQ (K : PySem.W.Frag) (h : X.K = K := by rfl) : CallR X (.type "type") (rTyp K) := h ▸ call_type1
theorem ltTQ (K : PySem.W.Frag) (hu : X.A.units < cLine) (h : X.K = K := by rfl) : OpR X (compareOp .Lt) (rLtT K) := h ▸ op_ltT hu
end
/-- the shape of a sheet of n days and of width w -/
structure Shf (n w : Nat) (f : Nat → List Int) : Prop where
  n1 : 1 ≤ n
  n30 : n ≤ 30
  w1 : 1 ≤ w
  wn : w ≤ n
  len : ∀ s, s < n → (f s).length = min (s + 1) w
  nn : ∀ s, s < n → ∀ x ∈ f s, 0 ≤ x
def ShAt (H : Hp) (g : Addr) (n w : Nat) (f : Nat → List Int) : Prop := (∃ rows, GridAt H g rows n f) ∧ Shf n w f
theorem ShAt.same {H H' : Hp} {g : Addr} {n w : Nat} {f : Nat → List Int} (h : ShAt H g n w f) (s : Same H H') : ShAt H' g n w f := by
  obtain ⟨⟨rows, G⟩, z⟩ := h
  exact ⟨⟨rows, G.same s⟩, z⟩
theorem Shf.last {n w : Nat} {f : Nat → List Int} (h : Shf n w f) : (f (n - 1)).length = w := by
  have a := h.n1
  have b := h.wn
  have := h.len (n - 1) (by omega)
  omega
theorem GridAt.last {H : Hp} {g : Addr} {rows : List Addr} {n : Nat} {f : Nat → List Int} (G : GridAt H g rows n f) (h : 1 ≤ n) : ∃ r, atI (rows.map V.ref) (-1) = some (.ref r) ∧ rows[n - 1]? = some r ∧ H r = some (.lst ((f (n - 1)).map V.int)) := by
  obtain ⟨r, er, _, hr⟩ := G.get (s := n - 1) (by omega)
  refine ⟨r, atI_neg1 ?_ ?_, er, hr⟩
  · rw [List.length_map, G.cnt, List.getElem?_map, er]
    rfl
  · intro z
    have := congrArg List.length z
    rw [List.length_map, G.cnt] at this
    simp only [List.length_nil] at this
    omega
theorem pgTQ (K : PySem.W.Frag) {X : Cx} {es : List Expr} {kx : Nat} {pos : Pos} {t : TGs} {n : Nat} (hc : X.calm = true) (h : PGs X es t) (hK : X.K = K := by rfl)
    (hn : (assignEach es X.env).length = n := by rfl) (hst : (assignEach es X.env).findIdx? (·.1) = none := by rfl) : PG X (.Tuple es kx pos) (gTup K n t) := hK ▸ pg_tup hc h hn hst
theorem iteNe {x y : V} {A B : Prop} (h : x = y) (b : B) : if (!decide (x = y)) = true then A else B := by
  rw [decide_eq_true h]
  exact iteF b
theorem iteEq {x y : V} {A B : Prop} (h : x = y) (a : A) : if decide (x = y) = true then A else B := by
  rw [decide_eq_true h]
  exact iteT a
theorem iteDF {c A B : Prop} [Decidable c] (hc : ¬ c) (h : B) : if decide c = true then A else B := by
  rw [decide_eq_false hc]
  exact iteF h
/-- j times True -/
def yesV (j : Nat) : List V := (List.replicate j true).map V.bl
theorem yes_snoc {j : Nat} {b : Bool} (h : b = true) : yesV j ++ [V.bl b] = yesV (j + 1) := by
  subst h
  unfold yesV
  rw [List.replicate_succ', List.map_append]
  rfl
theorem yes_len (j : Nat) : (yesV j).length = j := by
  unfold yesV
  rw [List.length_map, List.length_replicate]
theorem yes_all (j : Nat) : (List.replicate j true).all id = true := by
  rw [List.all_eq_true]
  intro b hb
  rw [(List.mem_replicate.mp hb).2]
  rfl
end Fa

namespace K01
open PySem PySem.Spec PyProof.Rows L2 Fa
abbrev s_is_integer : Stmt := topS 10
abbrev N_is_integer : List Str := ["thing"]
theorem sc_is_integer : FnScope N_is_integer ["thing"] (defScope s_is_integer) := ⟨rfl, rfl, rfl, by decide +kernel, rfl, by decide +kernel, by decide +kernel⟩
abbrev s_is_row : Stmt := topS 12
abbrev N_is_row : List Str := ["thing", "length", "number"]
theorem sc_is_row : FnScope N_is_row ["thing", "length"] (defScope s_is_row) := ⟨rfl, rfl, rfl, by decide +kernel, rfl, by decide +kernel, by decide +kernel⟩
abbrev s_is_sheet : Stmt := topS 13
abbrev N_is_sheet : List Str := ["thing", "last_row", "width", "day", "row"]
theorem sc_is_sheet : FnScope N_is_sheet ["thing"] (defScope s_is_sheet) := ⟨rfl, rfl, rfl, by decide +kernel, rfl, by decide +kernel, by decide +kernel⟩
section
variable {P : Program} {w : World} {K : PySem.W.Frag} {mg : Str → Option Value} {base : Heap}
def spIsInt : Sp := fun vs H Q _ => ∃ i : Int, vs = [.int i] ∧ Q (.bl true) H
def spRow : Sp := fun vs H Q _ => ∃ (r : Addr) (l : List Int) (L : Int), vs = [.ref r, .int L] ∧ L = l.length ∧ H r = some (.lst (l.map V.int)) ∧ l.length ≤ 900 ∧ (∀ x ∈ l, 0 ≤ x) ∧ ∀ H', Same H H' → Q (.bl true) H'
def spIsSh : Sp := fun vs H Q _ => ∃ (g : Addr) (n w : Nat) (f : Nat → List Int), vs = [.ref g] ∧ ShAt H g n w f ∧ ∀ H', Same H H' → Q (.bl true) H'
theorem b_int : bootBuiltins "int" = some (.type "int") := by decide +kernel
theorem b_list : bootBuiltins "list" = some (.type "list") := by decide +kernel
theorem b_tuple : bootBuiltins "tuple" = some (.type "tuple") := by decide +kernel
theorem ok_isint {f : Addr} {fd : FuncData} {k : Nat} (F : Fun K "is_integer" "is_integer" s_is_integer f fd) (m_type : mg "type" = none) (m_int : mg "int" = none) : FnOk P w K mg base CX0 (k + 1) f fd ["thing"] spIsInt := by
  refine F.ok sc_is_integer (fun vs H Q E h => ?_) (fun cdv A outer s H vs Q E hr h => ?_)
  · obtain ⟨i, rfl, _⟩ := h
    rfl
  · obtain ⟨i, rfl, q⟩ := h
    refine ⟨_, (pss_one (ps_ret (pe_cmpR Fa.op_eqTs (pe_callTy (Fa.tyQ K) (by rfl) m_type PyProof.Rows.boot_type (pa_cons (pv 0) pa_nil)) (pe_bltn (v := .ty "int") rfl m_int b_int rfl) (nomark _)))), ?_⟩
    exact ⟨_, rfl, _, _, rfl, .int i, "int", rfl, rfl, .inl rfl, q⟩
theorem ok_row {f fI : Addr} {fd fdI : FuncData} {k : Nat} (F : Fun K "is_row" "is_row" s_is_row f fd) (F_is_integer : Fun K "is_integer" "is_integer" s_is_integer fI fdI) (G_is_integer : FnOk P w K mg base CX0 k fI fdI ["thing"] spIsInt) (b_is_integer : Binds K fdI ["thing"] [])
    (g_is_integer : mg "is_integer" = some (.ref fI)) (m_type : mg "type" = none) (m_list : mg "list" = none) (m_len : mg "len" = none) (m_all : mg "all" = none) : FnOk P w K mg base CX0 (k + 1) f fd ["thing", "length"] spRow := by
  refine F.ok sc_is_row (fun vs H Q E h => ?_) (fun cdv A outer s H vs Q E hr h => ?_)
  · obtain ⟨r, l, _, rfl, _⟩ := h
    rfl
  · obtain ⟨r, l, L, rfl, hL, e, hl, nn, q⟩ := h
    refine ⟨_, (pss_cons (ps_if (PW.pt (pw_or (pt_cmpR Fa.op_neTs (pe_callTy (Fa.tyQ K) (by rfl) m_type PyProof.Rows.boot_type (pa_cons (pv 0) pa_nil)) (pe_bltn (v := .ty "list") rfl m_list b_list rfl) (nomark _)) (pw_or1 (pt_cmpR op_ne (pe_callB (Fa.lenQ K) (by rfl) m_len PySem.boot_len (pa_cons (pv 0) pa_nil)) (pv 1) (nomark _))))) (pss_one (ps_ret pe_bl)) pss_nil)
  (pss_one (ps_ret (pe_callB (Fa.allQ K rfl) (by rfl) m_all PyProof.Rows.boot_all (pa_cons (pe_lc (own := [("number", 2)]) (g := (gName 2)) (tt := tYes) rfl sc_is_row.nd (Fa.listQ K (pv 0)) (blkOk_by (N := N_is_row) (sc := defScope s_is_row) (by decide +kernel)) (fun _ _ _ _ _ => (pg_name (i := 2) sc_is_row.nd rfl (by first | exact Or.inl rfl | exact Or.inr rfl))) (fun _ _ _ _ _ => pts_nil) (fun _ _ _ _ _ => (pe_and (pe_call G_is_integer (hr.mono (by omega)) (by rfl) g_is_integer F_is_integer.kp b_is_integer .nil pass0 (pa_cons (pv 2) pa_nil)) (pe_one (pe_cmpR op_ge (pv 2) pe_int (nomark _)))))) pa_nil))))), ?_⟩
    refine ⟨_, rfl, _, "list", rfl, .lst (.inl (.inl e)), "list", rfl, rfl, .inr (.inl rfl), _, rfl, iteF ⟨_, rfl, r, _, rfl, .inl (.inl (.inl e)), _, rfl, rfl, _, rfl, iteNe ?_ ?_⟩⟩
    · rw [List.length_map, hL]
    · refine ⟨_, rfl, r, rfl, ⟨_, .inl (.inl e)⟩, fun D nD => ?_⟩
      refine lc_it (walk_list (xs := l.map V.int)) (fun j H2 => Same H H2 ∧ H2 D = some (.lst (yesV j))) ?_ ?_ ?_ ?_
      · exact ⟨same_new nD, upd_same⟩
      · rintro j H2 _ ⟨s2, _⟩
        exact .inl (.inl (s2 _ _ e))
      · rintro j u _ H2 hj ⟨s2, eD⟩ ⟨rfl, eu⟩
        obtain ⟨d, ed, rfl⟩ := int_at eu
        rw [List.length_map] at hj
        have dn : 0 ≤ d := nn d (List.mem_of_getElem? ed)
        refine ⟨rfl, yes_if ⟨_, rfl, d, rfl, _, rfl, iteT ⟨_, rfl, _, _, rfl, rfl, _, eD, ?_, ?_, ?_⟩⟩⟩
        · rw [yes_len]
          exact small1000 (by omega)
        · intro c o z
          rw [upd_ne (ne_of_none z nD)]
          exact s2 _ _ z
        · rw [upd_same, yes_snoc (decide_eq_true dn)]
      · rintro H2 ⟨s2, eD⟩
        refine ⟨D, _, rfl, .inl (.inl eD), ?_⟩
        rw [yes_all]
        exact q _ s2
theorem ok_issh {f fR : Addr} {fd fdR : FuncData} {k : Nat} (F : Fun K "is_sheet" "is_sheet" s_is_sheet f fd) (F_is_row : Fun K "is_row" "is_row" s_is_row fR fdR) (G_is_row : FnOk P w K mg base CX0 k fR fdR ["thing", "length"] spRow) (b_is_row : Binds K fdR ["thing", "length"] [])
    (g_is_row : mg "is_row" = some (.ref fR)) {tk : Tok} (g_MOST_DAYS : mg "MOST_DAYS" = some (.int 30 tk)) (m_type : mg "type" = none) (m_list : mg "list" = none) (m_len : mg "len" = none) (m_all : mg "all" = none) (m_min : mg "min" = none) (m_enumerate : mg "enumerate" = none) : FnOk P w K mg base CX0 (k + 1) f fd ["thing"] spIsSh := by
  refine F.ok sc_is_sheet (fun vs H Q E h => ?_) (fun cdv A outer s H vs Q E hr h => ?_)
  · obtain ⟨g, _, _, _, rfl, _⟩ := h
    rfl
  · obtain ⟨g, n, m, f, rfl, ⟨⟨rows, G⟩, hf⟩, q⟩ := h
    refine ⟨_, (pss_cons (ps_if (PW.pt (pw_or (pt_cmpR Fa.op_neTs (pe_callTy (Fa.tyQ K) (by rfl) m_type PyProof.Rows.boot_type (pa_cons (pv 0) pa_nil)) (pe_bltn (v := .ty "list") rfl m_list b_list rfl) (nomark _)) (pw_or1 (pt_not (pt_chain op_le op_le pe_int (pe_callB (Fa.lenQ K) (by rfl) m_len PySem.boot_len (pa_cons (pv 0) pa_nil)) (pe_glob (v := .int 30) rfl g_MOST_DAYS ⟨_, rfl⟩)))))) (pss_one (ps_ret pe_bl)) pss_nil)
  (pss_cons (ps_set (i := 1) sc_is_sheet.nd rfl (by first | exact Or.inl rfl | exact Or.inr rfl) (pe_ix (Fa.ixL K) (pv 0) (pe_un un_neg pe_int) (fun _ _ => rfl)))
  (pss_cons (ps_if (PW.pt (pw_or (pt_cmpR Fa.op_neTs (pe_callTy (Fa.tyQ K) (by rfl) m_type PyProof.Rows.boot_type (pa_cons (pv 1) pa_nil)) (pe_bltn (v := .ty "list") rfl m_list b_list rfl) (nomark _)) (pw_or1 (pt_not (pt_chain op_le op_le pe_int (pe_callB (Fa.lenQ K) (by rfl) m_len PySem.boot_len (pa_cons (pv 1) pa_nil)) (pe_callB (Fa.lenQ K) (by rfl) m_len PySem.boot_len (pa_cons (pv 0) pa_nil))))))) (pss_one (ps_ret pe_bl)) pss_nil)
  (pss_cons (ps_set (i := 2) sc_is_sheet.nd rfl (by first | exact Or.inl rfl | exact Or.inr rfl) (pe_callB (Fa.lenQ K) (by rfl) m_len PySem.boot_len (pa_cons (pv 1) pa_nil)))
  (pss_one (ps_ret (pe_callB (Fa.allQ K rfl) (by rfl) m_all PyProof.Rows.boot_all (pa_cons (pe_lc (own := [("day", 3), ("row", 4)]) (g := (gTup K 2 (gCons (gName 3) (gCons (gName 4) gNil)))) (tt := tYes) rfl sc_is_sheet.nd (pi_enum (by rfl) m_enumerate (pa_cons (pv 0) pa_nil)) (blkOk_by (N := N_is_sheet) (sc := defScope s_is_sheet) (by decide +kernel)) (fun _ _ _ _ _ => (Fa.pgTQ K rfl (pgs_cons (pg_name (i := 3) sc_is_sheet.nd rfl (by first | exact Or.inl rfl | exact Or.inr rfl)) (pgs_cons (pg_name (i := 4) sc_is_sheet.nd rfl (by first | exact Or.inl rfl | exact Or.inr rfl)) pgs_nil)))) (fun _ _ _ _ _ => pts_nil) (fun _ _ _ _ _ => (pe_call G_is_row (hr.mono (by omega)) (by rfl) g_is_row F_is_row.kp b_is_row .nil pass0 (pa_cons (pv 4) (pa_cons (pe_callB (call_min2 rfl) (by rfl) m_min PyProof.Rows.boot_min (pa_cons (pe_op op_add (pv 3) pe_int) (pa_cons (pv 2) pa_nil))) pa_nil))))) pa_nil)))))))), ?_⟩
    have n1 := hf.n1
    have n30 := hf.n30
    have w1 := hf.w1
    have wn := hf.wn
    have rl : (rows.map V.ref).length = n := by rw [List.length_map, G.cnt]
    obtain ⟨r, ea, er, hr'⟩ := G.last n1
    have ll : ((f (n - 1)).map V.int).length = m := by rw [List.length_map, hf.last]
    refine ⟨_, rfl, _, "list", rfl, .lst (.inl (.inl G.top)), "list", rfl, rfl, .inr (.inl rfl), _, rfl, iteF ⟨_, rfl, g, _, rfl, .inl (.inl (.inl G.top)), _, _, rfl, rfl, _, rfl, iteDS (by rw [rl]; omega) ⟨_, _, rfl, rfl, _, rfl, iteN0 (decide_eq_true (by rw [rl]; omega)) ?_⟩⟩⟩
    refine ⟨_, rfl, 1, rfl, g, _, _, _, rfl, rfl, .inl (.inl G.top), ea, ?_⟩
    refine ⟨_, rfl, _, "list", rfl, .lst (.inl (.inl hr')), "list", rfl, rfl, .inr (.inl rfl), _, rfl, iteF ⟨_, rfl, r, _, rfl, .inl (.inl (.inl hr')), _, _, rfl, rfl, _, rfl, iteDS (by rw [ll]; omega) ⟨_, rfl, g, _, rfl, .inl (.inl (.inl G.top)), _, _, rfl, rfl, _, rfl, iteN0 (decide_eq_true (by rw [ll, rl]; omega)) ?_⟩⟩⟩
    refine ⟨_, rfl, r, _, rfl, .inl (.inl (.inl hr')), ?_⟩
    refine ⟨_, rfl, g, _, rfl, .inl (.inl G.top), fun D nD => ?_⟩
    refine lc_it (walk_enum (xs := rows.map V.ref)) (fun i H2 => Same H H2 ∧ H2 D = some (.lst (yesV i))) ?_ ?_ ?_ ?_
    · exact ⟨same_new nD, upd_same⟩
    · rintro i H2 _ ⟨s2, _⟩
      exact .inl (.inl (s2 _ _ G.top))
    · rintro i v H2 _ hi ⟨s2, eD⟩ ⟨T, x, y, rfl, nT, rfl, ex, ey⟩
      rw [rl] at hi
      obtain ⟨r, er, hr', hrow⟩ := G.get (s := i) hi
      have ey : (rows.map V.ref)[i]? = some y := ey
      rw [List.getElem?_map, er] at ey
      cases ey
      cases ex
      have s3 : Same H (upd H2 T (.tup [.int (i : Nat), .ref r])) := s2.trans (same_new nT)
      have eD3 := (same_new (o := .tup [.int (i : Nat), .ref r]) nT) _ _ eD
      refine ⟨T, _, rfl, .inl (.inl upd_same), rfl, _, _, rfl, _, _, rfl, rfl, rfl, yes_if ?_⟩
      refine ⟨_, rfl, _, rfl, _, _, rfl, rfl, _, rfl, _, _, rfl, r, f i, _, rfl, ?_, s3 _ _ hrow, ?_, hf.nn i hi, fun H4 s4 => ?_⟩
      · rw [hf.len i hi, ll]
        split <;> omega
      · rw [hf.len i hi]
        omega
      · refine ⟨_, s4 _ _ eD3, ?_, ?_, ?_⟩
        · rw [yes_len]
          exact small1000 (by omega)
        · intro c o z
          rw [upd_ne (ne_of_none z nD)]
          exact s4 _ _ (s3 _ _ z)
        · rw [upd_same, yes_snoc rfl]
    · rintro H2 ⟨s2, eD⟩
      refine ⟨D, _, rfl, .inl (.inl eD), ?_⟩
      rw [yes_all]
      exact q _ s2
end
end K01

namespace K01
open PySem PySem.Spec PyProof.Rows L2 Fa
abbrev s_is_between : Stmt := topS 11
abbrev N_is_between : List Str := ["thing", "least", "most"]
theorem sc_is_between : FnScope N_is_between ["thing", "least", "most"] (defScope s_is_between) := ⟨rfl, rfl, rfl, by decide +kernel, rfl, by decide +kernel, by decide +kernel⟩
section
variable {P : Program} {w : World} {K : PySem.W.Frag} {mg : Str → Option Value} {base : Heap}
def spBetw : Sp := fun vs H Q _ => ∃ i a b : Int, vs = [.int i, .int a, .int b] ∧ a ≤ i ∧ i ≤ b ∧ Q (.bl true) H
theorem ok_betw {f fI : Addr} {fd fdI : FuncData} {k : Nat} (F : Fun K "is_between" "is_between" s_is_between f fd) (F_is_integer : Fun K "is_integer" "is_integer" s_is_integer fI fdI) (G_is_integer : FnOk P w K mg base CX0 k fI fdI ["thing"] spIsInt) (b_is_integer : Binds K fdI ["thing"] [])
    (g_is_integer : mg "is_integer" = some (.ref fI)) : FnOk P w K mg base CX0 (k + 1) f fd ["thing", "least", "most"] spBetw := by
  refine F.ok sc_is_between (fun vs H Q E h => ?_) (fun cdv A outer s H vs Q E hr h => ?_)
  · obtain ⟨i, a, b, rfl, _⟩ := h
    rfl
  · obtain ⟨i, a, b, rfl, h1, h2, q⟩ := h
    refine ⟨_, (pss_one (ps_ret (pe_and (pe_call G_is_integer (hr.mono (by omega)) (by rfl) g_is_integer F_is_integer.kp b_is_integer .nil pass0 (pa_cons (pv 0) pa_nil)) (pe_one (pe_chain op_le op_le (pv 1) (pv 0) (pv 2)))))), ?_⟩
    exact ⟨_, rfl, i, rfl, _, rfl, iteT ⟨_, rfl, _, rfl, _, _, rfl, rfl, _, rfl, iteDS h1 ⟨_, rfl, _, _, rfl, rfl, by
      show Q (V.bl (decide (i ≤ b))) H
      rw [decide_eq_true h2]
      exact q⟩⟩⟩
end
end K01

namespace K01
open PySem PySem.Spec PyProof.Rows L2 Fa
abbrev s_check_sheet : Stmt := topS 17
abbrev N_check_sheet : List Str := ["sheet"]
theorem sc_check_sheet : FnScope N_check_sheet ["sheet"] (defScope s_check_sheet) := ⟨rfl, rfl, rfl, by decide +kernel, rfl, by decide +kernel, by decide +kernel⟩
abbrev s_told_number : Stmt := topS 32
abbrev N_told_number : List Str := ["sheet", "first", "last"]
theorem sc_told_number : FnScope N_told_number ["sheet", "first", "last"] (defScope s_told_number) := ⟨rfl, rfl, rfl, by decide +kernel, rfl, by decide +kernel, by decide +kernel⟩
section
variable {P : Program} {w : World} {K : PySem.W.Frag} {mg : Str → Option Value} {base : Heap}
def spCkSh : Sp := fun vs H Q _ => ∃ (g : Addr) (n w : Nat) (f : Nat → List Int), vs = [.ref g] ∧ ShAt H g n w f ∧ ∀ H', Same H H' → Q .non H'
/-- the number of a told stretch, 0 for none -/
def uu (f : Nat → List Int) (a b : Int) : Int := if a ≤ b then (f b.toNat).getD (b - a).toNat 0 else 0
/-- within what is told -/
def Told (n w : Nat) (a b : Int) : Prop := a ≤ b → 0 ≤ a ∧ b < n ∧ b - a < w
def spU : Sp := fun vs H Q _ => ∃ (g : Addr) (n w : Nat) (f : Nat → List Int) (a b : Int), vs = [.ref g, .int a, .int b] ∧ ShAt H g n w f ∧ Told n w a b ∧ Q (.int (uu f a b)) H
theorem uu_get {n w : Nat} {f : Nat → List Int} (hf : Shf n w f) {a b : Int} (h : a ≤ b) (t : Told n w a b) : (f b.toNat)[(b - a).toNat]? = some (uu f a b) := by
  obtain ⟨t1, t2, t3⟩ := t h
  have l := hf.len b.toNat (by omega)
  have lt : (b - a).toNat < (f b.toNat).length := by omega
  unfold uu
  rw [if_pos h, List.getD_eq_getElem?_getD, List.getElem?_eq_getElem lt]
  rfl
theorem ok_cksh {f fG : Addr} {fd fdG : FuncData} {k : Nat} (F : Fun K "check_sheet" "check_sheet" s_check_sheet f fd) (F_is_sheet : Fun K "is_sheet" "is_sheet" s_is_sheet fG fdG) (G_is_sheet : FnOk P w K mg base CX0 k fG fdG ["thing"] spIsSh) (b_is_sheet : Binds K fdG ["thing"] [])
    (g_is_sheet : mg "is_sheet" = some (.ref fG)) : FnOk P w K mg base CX0 (k + 1) f fd ["sheet"] spCkSh := by
  refine F.ok sc_check_sheet (fun vs H Q E h => ?_) (fun cdv A outer s H vs Q E hr h => ?_)
  · obtain ⟨g, _, _, _, rfl, _⟩ := h
    rfl
  · obtain ⟨g, n, m, f, rfl, hS, q⟩ := h
    refine ⟨_, (pss_one (ps_if (pt_not (pt_val (pe_call G_is_sheet (hr.mono (by omega)) (by rfl) g_is_sheet F_is_sheet.kp b_is_sheet .nil pass0 (pa_cons (pv 0) pa_nil)))) Fa.pss_never pss_nil)), ?_⟩
    exact ⟨_, rfl, g, n, m, f, rfl, hS, fun H' s' => ⟨_, rfl, iteN0 rfl (q H' s')⟩⟩
theorem ok_toldU {f : Addr} {fd : FuncData} {k : Nat} (F : Fun K "told_number" "told_number" s_told_number f fd) : FnOk P w K mg base CX0 (k + 1) f fd ["sheet", "first", "last"] spU := by
  refine F.ok sc_told_number (fun vs H Q E h => ?_) (fun cdv A outer s H vs Q E hr h => ?_)
  · obtain ⟨g, _, _, _, _, _, rfl, _⟩ := h
    rfl
  · obtain ⟨g, n, m, f, a, b, rfl, ⟨⟨rows, G⟩, hS⟩, ht, q⟩ := h
    refine ⟨_, (pss_cons (ps_if (pt_cmpR op_gt (pv 1) (pv 2) (nomark _)) (pss_one (ps_ret pe_int)) pss_nil)
  (pss_one (ps_ret (pe_ix (Fa.ixL K) (pe_ix (Fa.ixL K) (pv 0) (pv 2) (fun _ _ => rfl)) (pe_op op_sub (pv 2) (pv 1)) (fun _ _ => rfl))))), ?_⟩
    by_cases ab : a ≤ b
    · obtain ⟨t1, t2, t3⟩ := ht ab
      obtain ⟨r, er, _, hrow⟩ := G.get (s := b.toNat) (by omega)
      have at1 : atI (rows.map V.ref) b = some (.ref r) := atI_int (by omega) (by rw [List.getElem?_map, er]; rfl)
      have at2 : atI ((f b.toNat).map V.int) (b - a) = some (.int (uu f a b)) := atI_int (by omega) (by rw [List.getElem?_map, uu_get hS ab ht]; rfl)
      exact ⟨_, rfl, _, rfl, _, _, rfl, rfl, _, rfl, iteDF (by omega) ⟨_, rfl, _, rfl, g, _, _, _, rfl, rfl, .inl (.inl G.top), at1, _, rfl, _, rfl, _, _, rfl, rfl, r, _, _, _, rfl, rfl, .inl (.inl hrow), at2, q⟩⟩
    · refine ⟨_, rfl, _, rfl, _, _, rfl, rfl, _, rfl, iteDS (by omega) ?_⟩
      unfold uu at q
      rw [if_neg ab] at q
      exact q
end
end K01

namespace K01
open PySem PySem.Spec PyProof.Rows L2 Fa
abbrev s_check_day : Stmt := topS 21
abbrev N_check_day : List Str := ["sheet", "day"]
theorem sc_check_day : FnScope N_check_day ["sheet", "day"] (defScope s_check_day) := ⟨rfl, rfl, rfl, by decide +kernel, rfl, by decide +kernel, by decide +kernel⟩
abbrev s_check_apart : Stmt := topS 22
abbrev N_check_apart : List Str := ["sheet", "first", "last", "least"]
theorem sc_check_apart : FnScope N_check_apart ["sheet", "first", "last", "least"] (defScope s_check_apart) := ⟨rfl, rfl, rfl, by decide +kernel, rfl, by decide +kernel, by decide +kernel⟩
section
variable {P : Program} {w : World} {K : PySem.W.Frag} {mg : Str → Option Value} {base : Heap}
def spCkDay : Sp := fun vs H Q _ => ∃ (g : Addr) (n w : Nat) (f : Nat → List Int) (d : Int), vs = [.ref g, .int d] ∧ ShAt H g n w f ∧ 0 ≤ d ∧ d < n ∧ Q .non H
def spCkAp : Sp := fun vs H Q _ => ∃ (g : Addr) (n w : Nat) (f : Nat → List Int) (a b c : Int), vs = [.ref g, .int a, .int b, .int c] ∧ ShAt H g n w f ∧ 0 ≤ a ∧ a < n ∧ 0 ≤ b ∧ b < n ∧ c ≤ b - a ∧ Q .non H
theorem ok_ckday {f fG : Addr} {fd fdG : FuncData} {k : Nat} (F : Fun K "check_day" "check_day" s_check_day f fd) (F_is_between : Fun K "is_between" "is_between" s_is_between fG fdG) (G_is_between : FnOk P w K mg base CX0 k fG fdG ["thing", "least", "most"] spBetw) (b_is_between : Binds K fdG ["thing", "least", "most"] [])
    (g_is_between : mg "is_between" = some (.ref fG)) (m_len : mg "len" = none) : FnOk P w K mg base CX0 (k + 1) f fd ["sheet", "day"] spCkDay := by
  refine F.ok sc_check_day (fun vs H Q E h => ?_) (fun cdv A outer s H vs Q E hr h => ?_)
  · obtain ⟨g, _, _, _, _, rfl, _⟩ := h
    rfl
  · obtain ⟨g, n, m, f, d, rfl, ⟨⟨rows, G⟩, hS⟩, h1, h2, q⟩ := h
    refine ⟨_, (pss_one (ps_if (pt_not (pt_val (pe_call G_is_between (hr.mono (by omega)) (by rfl) g_is_between F_is_between.kp b_is_between .nil pass0 (pa_cons (pv 1) (pa_cons pe_int (pa_cons (pe_op op_sub (pe_callB (Fa.lenQ K) (by rfl) m_len PySem.boot_len (pa_cons (pv 0) pa_nil)) pe_int) pa_nil)))))) Fa.pss_never pss_nil)), ?_⟩
    exact ⟨_, rfl, _, rfl, g, _, rfl, .inl (.inl (.inl G.top)), _, _, rfl, rfl, d, 0, _, rfl, h1, by rw [List.length_map, G.cnt]; omega, _, rfl, iteN0 rfl q⟩
theorem ok_ckap {f fG : Addr} {fd fdG : FuncData} {k : Nat} (F : Fun K "check_apart" "check_apart" s_check_apart f fd) (F_check_day : Fun K "check_day" "check_day" s_check_day fG fdG) (G_check_day : FnOk P w K mg base CX0 k fG fdG ["sheet", "day"] spCkDay) (b_check_day : Binds K fdG ["sheet", "day"] [])
    (g_check_day : mg "check_day" = some (.ref fG)) : FnOk P w K mg base CX0 (k + 1) f fd ["sheet", "first", "last", "least"] spCkAp := by
  refine F.ok sc_check_apart (fun vs H Q E h => ?_) (fun cdv A outer s H vs Q E hr h => ?_)
  · obtain ⟨g, _, _, _, _, _, _, rfl, _⟩ := h
    rfl
  · obtain ⟨g, n, m, f, a, b, c, rfl, hS, a0, a1, b0, b1, h1, q⟩ := h
    refine ⟨_, (pss_cons (ps_expr (pe_call G_check_day (hr.mono (by omega)) (by rfl) g_check_day F_check_day.kp b_check_day .nil pass0 (pa_cons (pv 0) (pa_cons (pv 1) pa_nil))))
  (pss_cons (ps_expr (pe_call G_check_day (hr.mono (by omega)) (by rfl) g_check_day F_check_day.kp b_check_day .nil pass0 (pa_cons (pv 0) (pa_cons (pv 2) pa_nil))))
  (pss_one (ps_if (pt_cmpR op_lt (pe_op op_sub (pv 2) (pv 1)) (pv 3) (nomark _)) Fa.pss_never pss_nil)))), ?_⟩
    exact ⟨_, rfl, _, rfl, g, n, m, f, a, rfl, hS, a0, a1, _, rfl, _, rfl, g, n, m, f, b, rfl, hS, b0, b1, _, rfl, _, rfl, _, _, rfl, rfl, _, rfl, _, _, rfl, rfl, _, rfl, iteDF (by omega) q⟩
end
end K01

namespace K01
open PySem PySem.Spec PyProof.Rows L2 Fa
abbrev s_is_pattern : Stmt := topS 14
abbrev N_is_pattern : List Str := ["thing", "count", "day", "at"]
theorem sc_is_pattern : FnScope N_is_pattern ["thing", "count"] (defScope s_is_pattern) := ⟨rfl, rfl, rfl, by decide +kernel, rfl, by decide +kernel, by decide +kernel⟩
abbrev s_is_group : Stmt := topS 15
abbrev N_is_group : List Str := ["thing", "count", "pattern", "many"]
theorem sc_is_group : FnScope N_is_group ["thing", "count"] (defScope s_is_group) := ⟨rfl, rfl, rfl, by decide +kernel, rfl, by decide +kernel, by decide +kernel⟩
abbrev s_is_family_below : Stmt := topS 16
abbrev N_is_family_below : List Str := ["thing", "count", "previous", "group"]
theorem sc_is_family_below : FnScope N_is_family_below ["thing", "count"] (defScope s_is_family_below) := ⟨rfl, rfl, rfl, by decide +kernel, rfl, by decide +kernel, by decide +kernel⟩
abbrev s_check_family : Stmt := topS 18
abbrev N_check_family : List Str := ["family", "count"]
theorem sc_check_family : FnScope N_check_family ["family", "count"] (defScope s_check_family) := ⟨rfl, rfl, rfl, by decide +kernel, rfl, by decide +kernel, by decide +kernel⟩
abbrev s_check_count : Stmt := topS 19
abbrev N_check_count : List Str := ["count"]
theorem sc_check_count : FnScope N_check_count ["count"] (defScope s_check_count) := ⟨rfl, rfl, rfl, by decide +kernel, rfl, by decide +kernel, by decide +kernel⟩
abbrev s_check_width : Stmt := topS 20
abbrev N_check_width : List Str := ["width", "most"]
theorem sc_check_width : FnScope N_check_width ["width", "most"] (defScope s_check_width) := ⟨rfl, rfl, rfl, by decide +kernel, rfl, by decide +kernel, by decide +kernel⟩
section
variable {P : Program} {w : World} {K : PySem.W.Frag} {mg : Str → Option Value} {base : Heap}
def spPat : Sp := fun vs H Q _ => ∃ (t : Addr) (ds : List Int) (n : Int), vs = [.ref t, .int n] ∧ H t = some (.tup (ds.map V.int)) ∧ Pat n ds ∧ n ≤ 30 ∧ ∀ H', Same H H' → Q (.bl true) H'
def spGroup : Sp := fun vs H Q _ => ∃ (x : V) (p : List Int × Int) (n : Int), vs = [x, .int n] ∧ FmAt H x p ∧ Pat n p.1 ∧ 1 ≤ p.2 ∧ n ≤ 30 ∧ ∀ H', Same H H' → Q (.bl true) H'
/-- a family of the program's: days below n -/
def FmOk (n : Int) (fam : Fm) : Prop := (∃ c, Fam n c fam) ∧ fam.length ≤ 2000 ∧ n ≤ 30
def spFamB : Sp := fun vs H Q _ => ∃ (a : Addr) (fam : Fm) (n : Int), vs = [.ref a, .int n] ∧ FamAt H a fam ∧ FmOk n fam ∧ ∀ H', Same H H' → Q (.bl true) H'
def spCkFam : Sp := fun vs H Q _ => ∃ (a : Addr) (fam : Fm) (n : Int), vs = [.ref a, .int n] ∧ FamAt H a fam ∧ FmOk n fam ∧ ∀ H', Same H H' → Q .non H'
def spCkCount : Sp := fun vs H Q _ => ∃ n : Int, vs = [.int n] ∧ 1 ≤ n ∧ n ≤ 30 ∧ Q .non H
def spCkWidth : Sp := fun vs H Q _ => ∃ n m : Int, vs = [.int n, .int m] ∧ 1 ≤ n ∧ n ≤ m ∧ Q .non H
theorem ok_pat {f fB : Addr} {fd fdB : FuncData} {k : Nat} (F : Fun K "is_pattern" "is_pattern" s_is_pattern f fd) (F_is_between : Fun K "is_between" "is_between" s_is_between fB fdB) (G_is_between : FnOk P w K mg base CX0 k fB fdB ["thing", "least", "most"] spBetw) (b_is_between : Binds K fdB ["thing", "least", "most"] [])
    (g_is_between : mg "is_between" = some (.ref fB)) (m_type : mg "type" = none) (m_tuple : mg "tuple" = none) (m_len : mg "len" = none) (m_all : mg "all" = none) (m_range : mg "range" = none) : FnOk P w K mg base CX0 (k + 1) f fd ["thing", "count"] spPat := by
  refine F.ok sc_is_pattern (fun vs H Q E h => ?_) (fun cdv A outer s H vs Q E hr h => ?_)
  · obtain ⟨t, ds, n, rfl, _⟩ := h
    rfl
  · obtain ⟨t, ds, n, rfl, e, hp, hn, q⟩ := h
    refine ⟨_, (pss_cons (ps_if (PW.pt (pw_or (pt_cmpR Fa.op_neTs (pe_callTy (Fa.tyQ K) (by rfl) m_type PyProof.Rows.boot_type (pa_cons (pv 0) pa_nil)) (pe_bltn (v := .ty "tuple") rfl m_tuple b_tuple rfl) (nomark _)) (pw_or1 (pt_cmpR op_eq (pe_callB (Fa.lenQ K) (by rfl) m_len PySem.boot_len (pa_cons (pv 0) pa_nil)) pe_int (nomark _))))) (pss_one (ps_ret pe_bl)) pss_nil)
  (pss_cons (ps_if (pt_not (pt_val (pe_callB (Fa.allQ K rfl) (by rfl) m_all PyProof.Rows.boot_all (pa_cons (pe_lc (own := [("day", 2)]) (g := (gName 2)) (tt := tYes) rfl sc_is_pattern.nd (Fa.tupIQ K (pv 0)) (blkOk_by (N := N_is_pattern) (sc := defScope s_is_pattern) (by decide +kernel)) (fun _ _ _ _ _ => (pg_name (i := 2) sc_is_pattern.nd rfl (by first | exact Or.inl rfl | exact Or.inr rfl))) (fun _ _ _ _ _ => pts_nil) (fun _ _ _ _ _ => (pe_call G_is_between (hr.mono (by omega)) (by rfl) g_is_between F_is_between.kp b_is_between .nil pass0 (pa_cons (pv 2) (pa_cons pe_int (pa_cons (pe_op op_sub (pv 1) pe_int) pa_nil)))))) pa_nil)))) (pss_one (ps_ret pe_bl)) pss_nil)
  (pss_one (ps_ret (pe_callB (Fa.allQ K rfl) (by rfl) m_all PyProof.Rows.boot_all (pa_cons (pe_lc (own := [("at", 3)]) (g := (gName 3)) (tt := tYes) rfl sc_is_pattern.nd (pi_range1 (by rfl) m_range (pa_cons (pe_op op_sub (pe_callB (Fa.lenQ K) (by rfl) m_len PySem.boot_len (pa_cons (pv 0) pa_nil)) pe_int) pa_nil)) (blkOk_by (N := N_is_pattern) (sc := defScope s_is_pattern) (by decide +kernel)) (fun _ _ _ _ _ => (pg_name (i := 3) sc_is_pattern.nd rfl (by first | exact Or.inl rfl | exact Or.inr rfl))) (fun _ _ _ _ _ => pts_nil) (fun _ _ _ _ _ => (pe_cmpR op_lt (pe_ix (Fa.ixT K) (pv 0) (pv 3) (fun _ _ => rfl)) (pe_ix (Fa.ixT K) (pv 0) (pe_op op_add (pv 3) pe_int) (fun _ _ => rfl)) (nomark _)))) pa_nil)))))), ?_⟩
    have dl : (ds.map V.int).length = ds.length := List.length_map _
    have d1 : ds.length ≠ 0 := fun z => hp.ne (List.length_eq_zero_iff.mp z)
    have d30 : ds.length ≤ 30 := by
      have := hp.len
      omega
    refine ⟨_, rfl, _, "tuple", rfl, .tup (.inl (.inl e)), "tuple", rfl, rfl, .inr (.inr rfl), _, rfl, iteF ⟨_, rfl, t, _, rfl, .inr (.inl (.inl e)), rfl, _, rfl, iteDF (fun z => ?_) ?_⟩⟩
    · have := V.int.inj z
      omega
    refine ⟨_, rfl, t, rfl, ⟨_, .inl (.inl e)⟩, fun D nD => ?_⟩
    refine lc_it (walk_tup (xs := ds.map V.int)) (fun j H2 => Same H H2 ∧ H2 D = some (.lst (yesV j))) ?_ ?_ ?_ ?_
    · exact ⟨same_new nD, upd_same⟩
    · rintro j H2 _ ⟨s2, _⟩
      exact .inl (.inl (s2 _ _ e))
    · rintro j u _ H2 hj ⟨s2, eD⟩ ⟨rfl, eu⟩
      obtain ⟨d, ed, rfl⟩ := int_at eu
      rw [dl] at hj
      have bd := hp.bd d (List.mem_of_getElem? ed)
      refine ⟨rfl, yes_if ⟨_, rfl, _, rfl, _, _, rfl, rfl, d, 0, n - 1, rfl, bd.1, by omega, _, eD, ?_, ?_, ?_⟩⟩
      · rw [yes_len]
        exact small1000 (by omega)
      · intro c o z
        rw [upd_ne (ne_of_none z nD)]
        exact s2 _ _ z
      · rw [upd_same, yes_snoc rfl]
    · rintro H2 ⟨s2, eD⟩
      have e2 := s2 _ _ e
      refine ⟨D, _, rfl, .inl (.inl eD), _, rfl, iteN0 (yes_all _) ?_⟩
      refine ⟨_, rfl, t, _, rfl, .inr (.inl (.inl e2)), _, _, rfl, rfl, _, rfl, by omega, by omega, fun D2 nD2 => ?_⟩
      refine lc_range (lo := 0) (fun j H3 => Same H2 H3 ∧ H3 D2 = some (.lst (yesV j))) ?_ ?_ ?_
      · exact ⟨same_new nD2, upd_same⟩
      · rintro j H3 hj ⟨s3, eD2⟩
        rw [dl] at hj
        have j1 : j < ds.length := by omega
        have j2 : j + 1 < ds.length := by omega
        have lt := List.pairwise_iff_getElem.mp hp.asc j (j + 1) j1 j2 (Nat.lt_succ_self j)
        have at1 : atI (ds.map V.int) ((0 : Int) + (j : Int)) = some (.int ds[j]) := atI_int (by omega) (by rw [show ((0 : Int) + (j : Int)).toNat = j by omega, List.getElem?_map, List.getElem?_eq_getElem j1]; rfl)
        have at2 : atI (ds.map V.int) ((0 : Int) + (j : Int) + 1) = some (.int ds[j + 1]) := atI_int (by omega) (by rw [show ((0 : Int) + (j : Int) + 1).toNat = j + 1 by omega, List.getElem?_map, List.getElem?_eq_getElem j2]; rfl)
        refine ⟨rfl, yes_if ⟨_, rfl, _, rfl, t, _, _, _, rfl, rfl, .inl (.inl (s3 _ _ e2)), at1, _, rfl, _, rfl, _, _, rfl, rfl, t, _, _, _, rfl, rfl, .inl (.inl (s3 _ _ e2)), at2, _, _, rfl, rfl, _, eD2, ?_, ?_, ?_⟩⟩
        · rw [yes_len]
          exact small1000 (by omega)
        · intro c o z
          rw [upd_ne (ne_of_none z nD2)]
          exact s3 _ _ z
        · rw [upd_same, yes_snoc (decide_eq_true lt)]
      · rintro H3 ⟨s3, eD2⟩
        refine ⟨D2, _, rfl, .inl (.inl eD2), ?_⟩
        rw [yes_all]
        exact q _ (s2.trans s3)
theorem ok_group {f fP fI : Addr} {fd fdP fdI : FuncData} {k : Nat} (F : Fun K "is_group" "is_group" s_is_group f fd) (F_is_pattern : Fun K "is_pattern" "is_pattern" s_is_pattern fP fdP) (G_is_pattern : FnOk P w K mg base CX0 k fP fdP ["thing", "count"] spPat) (b_is_pattern : Binds K fdP ["thing", "count"] [])
    (g_is_pattern : mg "is_pattern" = some (.ref fP)) (F_is_integer : Fun K "is_integer" "is_integer" s_is_integer fI fdI) (G_is_integer : FnOk P w K mg base CX0 k fI fdI ["thing"] spIsInt) (b_is_integer : Binds K fdI ["thing"] [])
    (g_is_integer : mg "is_integer" = some (.ref fI)) (m_type : mg "type" = none) (m_tuple : mg "tuple" = none) (m_len : mg "len" = none) : FnOk P w K mg base CX0 (k + 1) f fd ["thing", "count"] spGroup := by
  refine F.ok sc_is_group (fun vs H Q E h => ?_) (fun cdv A outer s H vs Q E hr h => ?_)
  · obtain ⟨t, ds, n, rfl, _⟩ := h
    rfl
  · obtain ⟨x, p, n, rfl, ⟨t, b, rfl, h1, h2⟩, hp, hm, hn, q⟩ := h
    refine ⟨_, (pss_cons (ps_if (PW.pt (pw_or (pt_cmpR Fa.op_neTs (pe_callTy (Fa.tyQ K) (by rfl) m_type PyProof.Rows.boot_type (pa_cons (pv 0) pa_nil)) (pe_bltn (v := .ty "tuple") rfl m_tuple b_tuple rfl) (nomark _)) (pw_or1 (pt_cmpR op_ne (pe_callB (Fa.lenQ K) (by rfl) m_len PySem.boot_len (pa_cons (pv 0) pa_nil)) pe_int (nomark _))))) (pss_one (ps_ret pe_bl)) pss_nil)
  (pss_cons (ps_asg (pv 0) (pg_tup rfl (pgs_cons (pg_name (i := 2) sc_is_group.nd rfl (by first | exact Or.inl rfl | exact Or.inr rfl)) (pgs_cons (pg_name (i := 3) sc_is_group.nd rfl (by first | exact Or.inl rfl | exact Or.inr rfl)) pgs_nil))))
  (pss_one (ps_ret (pe_and (pe_call G_is_pattern (hr.mono (by omega)) (by rfl) g_is_pattern F_is_pattern.kp b_is_pattern .nil pass0 (pa_cons (pv 2) (pa_cons (pv 1) pa_nil))) (pe_and (pe_call G_is_integer (hr.mono (by omega)) (by rfl) g_is_integer F_is_integer.kp b_is_integer .nil pass0 (pa_cons (pv 3) pa_nil)) (pe_one (pe_cmpR op_ge (pv 3) pe_int (nomark _))))))))), ?_⟩
    refine ⟨_, rfl, _, "tuple", rfl, .tup (.inl (.inl h1)), "tuple", rfl, rfl, .inr (.inr rfl), _, rfl, iteF ⟨_, rfl, t, _, rfl, .inr (.inl (.inl h1)), rfl, _, rfl, iteNe rfl ?_⟩⟩
    refine ⟨_, rfl, t, _, rfl, .inl (.inl h1), rfl, _, _, rfl, _, _, rfl, rfl, ?_⟩
    refine ⟨_, rfl, _, rfl, b, p.1, n, rfl, h2, hp, hn, fun H' s' => ⟨_, rfl, iteT ⟨_, rfl, p.2, rfl, _, rfl, iteT ⟨_, rfl, _, _, rfl, rfl, ?_⟩⟩⟩⟩
    show Q (V.bl (decide (1 ≤ p.2))) H'
    rw [decide_eq_true hm]
    exact q H' s'
theorem ok_famB {f fG : Addr} {fd fdG : FuncData} {k : Nat} (F : Fun K "is_family_below" "is_family_below" s_is_family_below f fd) (F_is_group : Fun K "is_group" "is_group" s_is_group fG fdG) (G_is_group : FnOk P w K mg base CX0 k fG fdG ["thing", "count"] spGroup) (b_is_group : Binds K fdG ["thing", "count"] [])
    (g_is_group : mg "is_group" = some (.ref fG)) {tk : Tok} (g_MOST_GROUPS : mg "MOST_GROUPS" = some (.int 2000 tk)) (m_type : mg "type" = none) (m_list : mg "list" = none) (m_len : mg "len" = none) : FnOk P w K mg base CX0 (k + 1) f fd ["thing", "count"] spFamB := by
  refine F.ok sc_is_family_below (fun vs H Q E h => ?_) (fun cdv A outer s H vs Q E hr h => ?_)
  · obtain ⟨t, ds, n, rfl, _⟩ := h
    rfl
  · obtain ⟨a, fam, n, rfl, ⟨xs, ea, hP⟩, ⟨⟨c, hf⟩, hl, hn⟩, q⟩ := h
    refine ⟨_, (pss_cons (ps_if (PW.pt (pw_or (pt_cmpR Fa.op_neTs (pe_callTy (Fa.tyQ K) (by rfl) m_type PyProof.Rows.boot_type (pa_cons (pv 0) pa_nil)) (pe_bltn (v := .ty "list") rfl m_list b_list rfl) (nomark _)) (pw_or1 (pt_cmpR op_gt (pe_callB (Fa.lenQ K) (by rfl) m_len PySem.boot_len (pa_cons (pv 0) pa_nil)) (pe_glob (v := .int 2000) rfl g_MOST_GROUPS ⟨_, rfl⟩) (nomark _))))) (pss_one (ps_ret pe_bl)) pss_nil)
  (pss_cons (ps_set (i := 2) sc_is_family_below.nd rfl (by first | exact Or.inl rfl | exact Or.inr rfl) (pe_tup pa_nil))
  (pss_cons (ps_for PassesOwn.never rfl (Fa.listQ K (pv 0)) (pg_name (i := 3) sc_is_family_below.nd rfl (by first | exact Or.inl rfl | exact Or.inr rfl)) (pss_cons (ps_if (PW.pt (pw_or (pt_not (pt_val (pe_call G_is_group (hr.mono (by omega)) (by rfl) g_is_group F_is_group.kp b_is_group .nil pass0 (pa_cons (pv 3) (pa_cons (pv 1) pa_nil))))) (pw_or1 (pt_not (pt_cmpR (Fa.ltTQ K (Nat.lt_of_succ_lt (hu_of hr))) (pv 2) (pe_ix (Fa.ixT K) (pv 3) pe_int (fun _ _ => rfl)) (nomark _)))))) (pss_one (ps_ret pe_bl)) pss_nil)
  (pss_one (ps_set (i := 2) sc_is_family_below.nd rfl (by first | exact Or.inl rfl | exact Or.inr rfl) (pe_ix (Fa.ixT K) (pv 3) pe_int (fun _ _ => rfl))))))
  (pss_one (ps_ret pe_bl))))), ?_⟩
    have xl : xs.length = fam.length := hP.length
    refine ⟨_, rfl, _, "list", rfl, .lst (.inl (.inl ea)), "list", rfl, rfl, .inr (.inl rfl), _, rfl, iteF ⟨_, rfl, a, _, rfl, .inl (.inl (.inl ea)), _, _, rfl, rfl, _, rfl, iteDF (by omega) ?_⟩⟩
    refine ⟨Nat.zero_le _, fun p0 np0 => ?_⟩
    have s0 : Same H (upd H p0 (.tup [])) := same_new np0
    refine ⟨_, rfl, a, rfl, ⟨_, .inl (.inl (s0 _ _ ea))⟩, ?_⟩
    refine for_it (walk_list (xs := xs)) (fun i σ H' => Same H H' ∧ ∃ pv pds gx, σ = [some (.ref a), some (.int n), some (.ref pv), gx] ∧ H' pv = some (.tup (pds.map V.int)) ∧ ∀ q, fam[i]? = some q → HT.lexLt pds q.1 = true) ?_ ?_ ?_ ?_
    · refine ⟨s0, p0, [], none, rfl, upd_same, fun q hq => ?_⟩
      have := (hf.pat q (List.mem_of_getElem? hq)).ne
      cases e : q.1 with
      | nil => exact absurd e this
      | cons d l => rfl
    · rintro i σ H1 _ ⟨s1, _⟩
      exact .inl (.inl (s1 _ _ ea))
    · rintro i v σ _ H1 hi ⟨s1, pv, pds, gx, rfl, epv, hlt⟩ ⟨rfl, ev⟩
      obtain ⟨pt, ep, fm⟩ := paired_at hP ev
      have fm1 := fm.keep (H' := H1) fun b us z => s1 _ _ z
      have hm := List.mem_of_getElem? ep
      have fmc := fm1
      obtain ⟨t, b, rfl, h1, h2⟩ := fmc
      refine ⟨_, rfl, _, rfl, _, pt, n, rfl, fm1, hf.pat pt hm, (hf.bd pt hm).1, hn, fun H2 s2 => ⟨_, rfl, iteN0 rfl ?_⟩⟩
      refine ⟨_, rfl, _, rfl, t, _, _, .ref b, rfl, rfl, .inl (.inl (s2 _ _ h1)), rfl, pv, b, pds, pt.1, rfl, rfl, .inl (.inl (s2 _ _ epv)), .inl (.inl (s2 _ _ h2)), _, rfl, iteN0 (hlt pt ep) ?_⟩
      refine ⟨_, rfl, t, _, _, .ref b, rfl, rfl, .inl (.inl (s2 _ _ h1)), rfl, s1.trans s2, b, pt.1, _, rfl, s2 _ _ h2, fun q hq => ?_⟩
      obtain ⟨i1, e1⟩ := List.getElem?_eq_some_iff.mp ep
      obtain ⟨i2, e2⟩ := List.getElem?_eq_some_iff.mp hq
      have := List.pairwise_iff_getElem.mp hf.asc i (i + 1) i1 i2 (Nat.lt_succ_self i)
      rw [e1, e2] at this
      exact this
    · rintro σ H1 ⟨s1, pv, pds, gx, rfl, epv, hlt⟩
      exact q H1 s1
theorem ok_ckfam {f fG : Addr} {fd fdG : FuncData} {k : Nat} (F : Fun K "check_family" "check_family" s_check_family f fd) (F_is_family_below : Fun K "is_family_below" "is_family_below" s_is_family_below fG fdG) (G_is_family_below : FnOk P w K mg base CX0 k fG fdG ["thing", "count"] spFamB) (b_is_family_below : Binds K fdG ["thing", "count"] [])
    (g_is_family_below : mg "is_family_below" = some (.ref fG)) : FnOk P w K mg base CX0 (k + 1) f fd ["family", "count"] spCkFam := by
  refine F.ok sc_check_family (fun vs H Q E h => ?_) (fun cdv A outer s H vs Q E hr h => ?_)
  · obtain ⟨a, _, _, rfl, _⟩ := h
    rfl
  · obtain ⟨a, fam, n, rfl, hF, hO, q⟩ := h
    refine ⟨_, (pss_one (ps_if (pt_not (pt_val (pe_call G_is_family_below (hr.mono (by omega)) (by rfl) g_is_family_below F_is_family_below.kp b_is_family_below .nil pass0 (pa_cons (pv 0) (pa_cons (pv 1) pa_nil))))) Fa.pss_never pss_nil)), ?_⟩
    exact ⟨_, rfl, _, rfl, a, fam, n, rfl, hF, hO, fun H' s' => ⟨_, rfl, iteN0 rfl (q H' s')⟩⟩
theorem ok_ckcount {f fG : Addr} {fd fdG : FuncData} {k : Nat} (F : Fun K "check_count" "check_count" s_check_count f fd) (F_is_between : Fun K "is_between" "is_between" s_is_between fG fdG) (G_is_between : FnOk P w K mg base CX0 k fG fdG ["thing", "least", "most"] spBetw) (b_is_between : Binds K fdG ["thing", "least", "most"] [])
    (g_is_between : mg "is_between" = some (.ref fG)) {tk : Tok} (g_MOST_DAYS : mg "MOST_DAYS" = some (.int 30 tk)) : FnOk P w K mg base CX0 (k + 1) f fd ["count"] spCkCount := by
  refine F.ok sc_check_count (fun vs H Q E h => ?_) (fun cdv A outer s H vs Q E hr h => ?_)
  · obtain ⟨a, rfl, _⟩ := h
    rfl
  · obtain ⟨n, rfl, h1, h2, q⟩ := h
    refine ⟨_, (pss_one (ps_if (pt_not (pt_val (pe_call G_is_between (hr.mono (by omega)) (by rfl) g_is_between F_is_between.kp b_is_between .nil pass0 (pa_cons (pv 0) (pa_cons pe_int (pa_cons (pe_glob (v := .int 30) rfl g_MOST_DAYS ⟨_, rfl⟩) pa_nil)))))) Fa.pss_never pss_nil)), ?_⟩
    exact ⟨_, rfl, n, 1, 30, rfl, h1, h2, _, rfl, iteN0 rfl q⟩
theorem ok_ckwidth {f fG : Addr} {fd fdG : FuncData} {k : Nat} (F : Fun K "check_width" "check_width" s_check_width f fd) (F_is_between : Fun K "is_between" "is_between" s_is_between fG fdG) (G_is_between : FnOk P w K mg base CX0 k fG fdG ["thing", "least", "most"] spBetw) (b_is_between : Binds K fdG ["thing", "least", "most"] [])
    (g_is_between : mg "is_between" = some (.ref fG)) : FnOk P w K mg base CX0 (k + 1) f fd ["width", "most"] spCkWidth := by
  refine F.ok sc_check_width (fun vs H Q E h => ?_) (fun cdv A outer s H vs Q E hr h => ?_)
  · obtain ⟨a, b, rfl, _⟩ := h
    rfl
  · obtain ⟨n, m, rfl, h1, h2, q⟩ := h
    refine ⟨_, (pss_one (ps_if (pt_not (pt_val (pe_call G_is_between (hr.mono (by omega)) (by rfl) g_is_between F_is_between.kp b_is_between .nil pass0 (pa_cons (pv 0) (pa_cons pe_int (pa_cons (pv 1) pa_nil)))))) Fa.pss_never pss_nil)), ?_⟩
    exact ⟨_, rfl, _, rfl, n, 1, m, rfl, h1, h2, _, rfl, iteN0 rfl q⟩
end
end K01

namespace Fa
open PySem PySem.Spec PyProof.Rows L2
/-- xs[i] op= e of a list: the read -/
def rGetL (K : PySem.W.Frag) : V → V → Hp → VK → Prop := fun o i H Q => ∃ (p : Addr) (xs : List V) (k : Int) (v : V), o = .ref p ∧ i = .int k ∧ SqL K H p xs ∧ 0 ≤ k ∧ atI xs k = some v ∧ Q v H
theorem getL (K : PySem.W.Frag) {X : Cx} (hK : X.K = K := by rfl) : PGet X (rGetL K) := by
  subst hK
  intro pins s σ H o i ov iv Q I ro ri h
  obtain ⟨p, xs, k, v, rfl, rfl, sq, k0, e, q⟩ := h
  cases ro
  obtain ⟨t, rfl⟩ := ri
  obtain ⟨its, rel, pl, small⟩ := I.list sq
  obtain ⟨j, h1, h2, h3, h4, h5⟩ := atI_get e
  obtain ⟨x, ex, rx⟩ := rel.get h2
  have hl := rel.length
  have big := line63
  have kj : k.toNat = j := by
    rw [seqIndex_of k0 h5] at h1
    exact Option.some.inj h1
  exact wpAny_getItem_list (Q := fun r s' => EP X pins σ Q r s') pl.isList k0 (by omega) (by rw [kj]; simpa using ex) ⟨v, H, I, rx, q⟩
theorem isN_int {i : Int} {A B : Prop} (h : A) : if (!decide (V.int i = V.non)) = true then A else B := by
  rw [decide_eq_false (fun z => nomatch z)]
  exact iteT h
theorem isN_non {A B : Prop} (h : B) : if (!decide (V.non = V.non)) = true then A else B := by
  rw [decide_eq_true rfl]
  exact iteF h
theorem inV_ints (l : List Int) (d : Int) : inV (.int d) (l.map V.int) = decide (d ∈ l) := by
  unfold inV
  rw [List.any_map]
  by_cases h : d ∈ l
  · rw [decide_eq_true h, List.any_eq_true]
    exact ⟨d, h, by show eqV (.int d) (.int d) = true; simp [eqV]⟩
  · rw [decide_eq_false h, List.any_eq_false]
    intro x hx z
    refine h ?_
    have : eqV (.int x) (.int d) = true := z
    simp [eqV] at this
    rw [← this]
    exact hx
theorem flat_ints (l : List Int) : (l.map V.int).all flatV = true := by
  rw [List.all_map, List.all_eq_true]
  intro x _
  rfl
/-- the last day of a pattern below i -/
def Last (ds : List Int) (i : Nat) : Option Int → Prop
  | none => ∀ d ∈ ds, (i : Int) ≤ d
  | some l => l ∈ ds ∧ l < i ∧ 0 ≤ l ∧ ∀ d ∈ ds, d < i → d ≤ l
def laV : Option Int → V
  | none => .non
  | some d => .int d
theorem last_zero {n : Int} {ds : List Int} (h : Pat n ds) : Last ds 0 none := fun d hd => (h.bd d hd).1
theorem last_in {ds : List Int} {i : Nat} (h : (i : Int) ∈ ds) : Last ds (i + 1) (some i) := ⟨h, by omega, by omega, fun d _ z => by omega⟩
theorem last_out {ds : List Int} {i : Nat} {la : Option Int} (h : (i : Int) ∉ ds) (l : Last ds i la) : Last ds (i + 1) la := by
  cases la with
  | none =>
    intro d hd
    have := l d hd
    have : d ≠ (i : Int) := fun z => h (by rw [← z]; exact hd)
    omega
  | some x =>
    obtain ⟨h1, h2, h3, h4⟩ := l
    refine ⟨h1, by omega, h3, fun d hd z => ?_⟩
    have : d ≠ (i : Int) := fun z => h (by rw [← z]; exact hd)
    exact h4 d hd (by omega)
theorem last_none {ds : List Int} {i : Nat} (l : Last ds (i + 1) none) (k : Nat) : lastAt ds i k = false := by
  unfold lastAt
  rw [Bool.and_eq_false_iff]
  left
  rw [List.any_eq_false]
  intro d hd z
  have := of_decide_eq_true z
  have := l d hd
  omega
theorem last_some {ds : List Int} {i : Nat} {x : Int} (l : Last ds (i + 1) (some x)) (k : Nat) : lastAt ds i k = decide (x = (i : Int) - (k : Int)) := by
  obtain ⟨h1, h2, h3, h4⟩ := l
  rw [Bool.eq_iff_iff]
  constructor
  · intro q
    obtain ⟨q1, q2⟩ := He.ba q
    obtain ⟨d, hd, e⟩ := List.any_eq_true.mp q1
    have e := of_decide_eq_true e
    have a := of_decide_eq_true (List.all_eq_true.mp q2 x h1) (by omega)
    have b := h4 d hd (by omega)
    exact decide_eq_true (by omega)
  · intro q
    have q := of_decide_eq_true q
    refine Bool.and_eq_true_iff.mpr ⟨List.any_eq_true.mpr ⟨x, h1, decide_eq_true q⟩, List.all_eq_true.mpr fun d hd => decide_eq_true fun z => ?_⟩
    have := h4 d hd (by omega)
    omega
/-- what a pattern adds to the cells -/
def addL (c : Cells) (ds : List Int) (m : Int) : Cells := fun s k => c s k + if lastAt ds s k then m else 0
def addLs (fam : Fm) : Cells := fam.foldl (fun c p => addL c p.1 p.2) fun _ _ => 0
theorem addLs_take {fam : Fm} {i : Nat} {p : List Int × Int} (h : fam[i]? = some p) : addLs (fam.take (i + 1)) = addL (addLs (fam.take i)) p.1 p.2 := by
  rw [List.take_add_one, h]
  unfold addLs
  rw [List.foldl_append]
  rfl
theorem addLs_gen (s k : Nat) : ∀ (fam : Fm) (c : Cells), fam.foldl (fun c p => addL c p.1 p.2) c s k = c s k + lst fam s k
  | [], c => by
    show c s k = c s k + 0
    omega
  | p :: fam, c => by
    show fam.foldl _ (addL c p.1 p.2) s k = _
    rw [addLs_gen s k fam]
    show c s k + (if lastAt p.1 s k then p.2 else 0) + lst fam s k = c s k + ((p :: fam).map fun p => if lastAt p.1 s k then p.2 else 0).sum
    rw [List.map_cons, List.sum_cons]
    unfold lst
    omega
theorem addLs_val (fam : Fm) (s k : Nat) : addLs fam s k = lst fam s k := by
  unfold addLs
  rw [addLs_gen]
  omega
theorem prog_cells {n : Nat} {fam : Fm} (h : ∀ p ∈ fam, Pat n p.1) (s k : Nat) : pre (addLs fam) s k = unl fam ((s : Int) - (k : Int)) s := by
  rw [← pre_lst s k fam fun p hp => (h p hp).asc]
  induction k with
  | zero => exact addLs_val fam s 0
  | succ k ih =>
    show pre (addLs fam) s k + addLs fam s (k + 1) = pre (lst fam) s k + lst fam s (k + 1)
    rw [ih, addLs_val]
end Fa

namespace K01
open PySem PySem.Spec PyProof.Rows L2 Fa
abbrev s__count_by_latest : Stmt := topS 26
abbrev N__count_by_latest : List Str := ["by_latest", "pattern", "many", "latest", "day"]
theorem sc__count_by_latest : FnScope N__count_by_latest ["by_latest", "pattern", "many"] (defScope s__count_by_latest) := ⟨rfl, rfl, rfl, by decide +kernel, rfl, by decide +kernel, by decide +kernel⟩
abbrev s__running_sums : Stmt := topS 27
abbrev N__running_sums : List Str := ["row", "total", "sums", "number"]
theorem sc__running_sums : FnScope N__running_sums ["row"] (defScope s__running_sums) := ⟨rfl, rfl, rfl, by decide +kernel, rfl, by decide +kernel, by decide +kernel⟩
abbrev s_sheet_of : Stmt := topS 25
abbrev N_sheet_of : List Str := ["family", "count", "width", "by_latest", "pattern", "many", "day", "row"]
theorem sc_sheet_of : FnScope N_sheet_of ["family", "count", "width"] (defScope s_sheet_of) := ⟨rfl, rfl, rfl, by decide +kernel, rfl, by decide +kernel, by decide +kernel⟩
section
variable {P : Program} {w : World} {K : PySem.W.Frag} {mg : Str → Option Value} {base : Heap}
def spCbl : Sp := fun vs H Q _ => ∃ (g t : Addr) (m : Int) (n w : Nat) (ds : List Int) (c : Cells) (rows : List Addr), vs = [.ref g, .ref t, .int m] ∧ GridAt H g rows n (fun s => cr c (min (s + 1) w) s) ∧ H t = some (.tup (ds.map V.int)) ∧ Pat n ds ∧ n ≤ 30 ∧
  ∀ H', Off rows H H' → GridAt H' g rows n (fun s => cr (addL c ds m) (min (s + 1) w) s) → Q .non H'
def spSums : Sp := fun vs H Q _ => ∃ (r : Addr) (c : Cells) (s m : Nat), vs = [.ref r] ∧ H r = some (.lst ((cr c m s).map V.int)) ∧ m ≤ 900 ∧ ∀ H' z, Same H H' → H z = none → H' z = some (.lst ((cr (fun s k => pre c s k) m s).map V.int)) → Q (.ref z) H'
def spSheetOf : Sp := fun vs H Q _ => ∃ (a : Addr) (fam : Fm) (n w : Nat), vs = [.ref a, .int n, .int w] ∧ FamAt H a fam ∧ FmOk n fam ∧ 1 ≤ w ∧ w ≤ n ∧
  ∀ H' g rows, Same H H' → H g = none → (∀ r ∈ rows, H r = none) → GridAt H' g rows n (fun s => shRow fam s w) → Q (.ref g) H'
theorem cbl_go {g t : Addr} {m : Int} {n wd i : Nat} {ds : List Int} {c : Cells} {rows : List Addr} {H H1 : Hp} {la' : Option Int} {D : Ends} (hi : i < n) (s1 : Off rows H H1) (G1 : GridAt H1 g rows n (fun s => cr (fun s k => if s < i then addL c ds m s k else c s k) (min (s + 1) wd) s))
    (hl : Last ds (i + 1) la') (q : ∀ H', Off rows H H' → GridAt H' g rows n (fun s => cr (fun s k => if s < i + 1 then addL c ds m s k else c s k) (min (s + 1) wd) s) → D.nx [some (.ref g), some (.ref t), some (.int m), some (laV la'), some (.int (i : Int))] H') :
    tIfS (tAnd (tB (tNotN (tVar 3))) (tTest (tOp (rI0 fun i j => V.bl (decide (i < j))) (tOp (rI0 fun i j => V.int (i - j)) (tVar 4) (tVar 3)) (tCB (rLenQ K) (tCons (tOp (rIxL K) (tVar 0) (tVar 4)) tNil)))))
      (tAugS (tOp (rIxL K) (tVar 0) (tVar 4)) (tOp (rI0 fun i j => V.int (i - j)) (tVar 4) (tVar 3)) (tVar 2) (rGetL K) (ipI fun i j => i + j) rSetL) tNext D [some (.ref g), some (.ref t), some (.int m), some (laV la'), some (.int (i : Int))] H1 := by
  -- the same cells where nothing is added on day i
  have same : (∀ k, k < min (i + 1) wd → lastAt ds i k = false) → GridAt H1 g rows n (fun s => cr (fun s k => if s < i + 1 then addL c ds m s k else c s k) (min (s + 1) wd) s) := fun no => G1.ext fun s hs => cr_ext fun k hk => by
    by_cases a : s < i
    · rw [if_pos a, if_pos (by omega)]
    · rw [if_neg a]
      by_cases b : s < i + 1
      · have : s = i := by omega
        subst this
        rw [if_pos b]
        show _ = c s k + if lastAt ds s k then m else 0
        rw [no k hk]
        show _ = c s k + 0
        omega
      · rw [if_neg b]
  cases la' with
  | none => exact ⟨_, rfl, _, rfl, isN_non (iteF (q H1 s1 (same fun k _ => last_none hl k)))⟩
  | some x =>
    obtain ⟨r, er, hr', hrow⟩ := G1.get (s := i) hi
    have at1 : atI (rows.map V.ref) (i : Int) = some (.ref r) := atI_nat (by rw [List.getElem?_map, er]; rfl)
    have hx := hl
    obtain ⟨x1, x2, x3, x4⟩ := hx
    refine ⟨_, rfl, _, rfl, isN_int ⟨_, rfl, _, rfl, _, _, rfl, rfl, _, rfl, _, rfl, g, _, _, .ref r, rfl, rfl, .inl (.inl G1.top), at1, r, _, rfl, .inl (.inl (.inl hrow)), _, _, rfl, rfl, _, rfl, ite2 (fun e => ?_) (fun e => ?_)⟩⟩
    · have e := of_decide_eq_true e
      rw [List.length_map, cr_len] at e
      obtain ⟨kk, ek⟩ : ∃ kk : Nat, (i : Int) - x = kk := ⟨((i : Int) - x).toNat, by omega⟩
      have hk : kk < min (i + 1) wd := by omega
      refine ⟨_, rfl, _, rfl, g, _, _, .ref r, rfl, rfl, .inl (.inl G1.top), at1, _, rfl, _, rfl, _, _, rfl, rfl, r, _, _, _, rfl, rfl, .inl (.inl hrow), by omega, by rw [ek]; exact atI_nat (cr_atV hk), _, rfl, _, _, rfl, rfl, r, _, _, kk, rfl, rfl, hrow, by rw [ek, List.length_map, cr_len]; exact ixN_int (by omega) (by omega), ?_⟩
      refine q _ (s1.mut hr') (G1.poke er fun s' k' hs' hk' => ?_)
      by_cases a : s' = i ∧ k' = kk
      · obtain ⟨rfl, rfl⟩ := a
        rw [if_pos (Nat.lt_succ_self _), if_pos ⟨rfl, rfl⟩]
        show c s' k' + (if lastAt ds s' k' then m else 0) = (if s' < s' then addL c ds m s' k' else c s' k') + m
        rw [if_neg (Nat.lt_irrefl s'), last_some hl, decide_eq_true (by omega), if_pos rfl]
      · rw [if_neg a]
        by_cases b : s' < i
        · rw [if_pos b, if_pos (show s' < i + 1 by omega)]
        · rw [if_neg b]
          by_cases c2 : s' < i + 1
          · rw [if_pos c2]
            have e3 : s' = i := by omega
            show c s' k' + (if lastAt ds s' k' then m else 0) = c s' k'
            rw [e3, last_some hl, decide_eq_false (by omega)]
            show c i k' + 0 = _
            omega
          · rw [if_neg c2]
    · refine q H1 s1 (same fun k hk => ?_)
      rw [last_some hl]
      refine decide_eq_false fun z => e (decide_eq_true ?_)
      rw [List.length_map, cr_len]
      omega
theorem ok_cbl {f : Addr} {fd : FuncData} {k : Nat} (F : Fun K "_count_by_latest" "_count_by_latest" s__count_by_latest f fd) (m_len : mg "len" = none) (m_range : mg "range" = none) : FnOk P w K mg base CX0 (k + 1) f fd ["by_latest", "pattern", "many"] spCbl := by
  refine F.ok sc__count_by_latest (fun vs H Q E h => ?_) (fun cdv A outer s H vs Q E hr h => ?_)
  · obtain ⟨g, t, _, _, _, _, _, _, rfl, _⟩ := h
    rfl
  · obtain ⟨g, t, m, n, wd, ds, c, rows, rfl, G, et, hp, hn, q⟩ := h
    refine ⟨_, (pss_cons (ps_set (i := 3) sc__count_by_latest.nd rfl (by first | exact Or.inl rfl | exact Or.inr rfl) pe_non)
  (pss_one (ps_for PassesOwn.never rfl (pi_range1 (by rfl) m_range (pa_cons (pe_callB (Fa.lenQ K) (by rfl) m_len PySem.boot_len (pa_cons (pv 0) pa_nil)) pa_nil)) (pg_name (i := 4) sc__count_by_latest.nd rfl (by first | exact Or.inl rfl | exact Or.inr rfl)) (pss_cons (ps_if (pt_cmpR (Fa.inQ K) (pv 4) (pv 1) rfl) (pss_one (ps_set (i := 3) sc__count_by_latest.nd rfl (by first | exact Or.inl rfl | exact Or.inr rfl) (pv 4))) pss_nil)
  (pss_one (ps_if (PW.pt (pw_and (pt_cmp (pc_notN (pv 3))) (pw_and1 (pt_cmpR op_lt (pe_op op_sub (pv 4) (pv 3)) (pe_callB (Fa.lenQ K) (by rfl) m_len PySem.boot_len (pa_cons (pe_ix (Fa.ixL K) (pv 0) (pv 4) (fun _ _ => rfl)) pa_nil)) (nomark _))))) (pss_one (ps_augS (pe_ix (Fa.ixL K) (pv 0) (pv 4) (fun _ _ => rfl)) (pe_op op_sub (pv 4) (pv 3)) (Fa.getL K) (pv 2) ip_add set_list)) pss_nil)))))), ?_⟩
    have noT : t ∉ rows := fun z => by
      obtain ⟨j, hj, e⟩ := List.mem_iff_getElem.mp z
      have := G.row j t (by rw [List.getElem?_eq_getElem hj, e])
      rw [et] at this
      cases this
    refine ⟨_, rfl, g, _, rfl, .inl (.inl (.inl G.top)), _, rfl, by omega, by rw [List.length_map, G.cnt]; omega, ?_⟩
    refine for_range (lo := 0) (fun i σ H' => Off rows H H' ∧ GridAt H' g rows n (fun s => cr (fun s k => if s < i then addL c ds m s k else c s k) (min (s + 1) wd) s) ∧
      ∃ la x4, σ = [some (.ref g), some (.ref t), some (.int m), some (laV la), x4] ∧ Last ds i la) ?_ ?_ ?_
    · exact ⟨Off.refl _ _, G.ext fun s _ => cr_ext fun k _ => by rw [if_neg (by omega)], none, none, rfl, last_zero hp⟩
    · rintro i σ H1 hi ⟨s1, G1, la, x4, rfl, hla⟩
      rw [show ((rows.map V.ref).length : Int).toNat = n by rw [List.length_map, G.cnt]; omega] at hi
      have et1 := s1 _ _ noT et
      refine ⟨_, rfl, _, rfl, t, _, rfl, .inr (.inl (.inl et1)), rfl, flat_ints _, _, rfl, ?_⟩
      rw [if_neg Bool.false_ne_true, inV_ints, Int.zero_add]
      refine ite2 (fun e => ?_) (fun e => ?_)
      · exact ⟨_, rfl, cbl_go (la' := some i) hi s1 G1 (last_in (of_decide_eq_true e)) fun H' s' G' => ⟨s', G', some i, _, rfl, last_in (of_decide_eq_true e)⟩⟩
      · have hl := last_out (fun z => e (decide_eq_true z)) hla
        exact cbl_go hi s1 G1 hl fun H' s' G' => ⟨s', G', la, _, rfl, hl⟩
    · rintro σ H1 ⟨s1, G1, la, x4, rfl, hla⟩
      rw [show ((rows.map V.ref).length : Int).toNat = n by rw [List.length_map, G.cnt]; omega] at G1
      exact q H1 s1 (G1.ext fun s hs => cr_ext fun k _ => by rw [if_pos hs])
theorem ok_sums {f : Addr} {fd : FuncData} {k : Nat} (F : Fun K "_running_sums" "_running_sums" s__running_sums f fd) : FnOk P w K mg base CX0 (k + 1) f fd ["row"] spSums := by
  refine F.ok sc__running_sums (fun vs H Q E h => ?_) (fun cdv A outer s H vs Q E hr h => ?_)
  · obtain ⟨r, _, _, _, rfl, _⟩ := h
    rfl
  · obtain ⟨r, c, s, m, rfl, er, hm, q⟩ := h
    refine ⟨_, (pss_cons (ps_set (i := 1) sc__running_sums.nd rfl (by first | exact Or.inl rfl | exact Or.inr rfl) pe_int)
  (pss_cons (ps_set (i := 2) sc__running_sums.nd rfl (by first | exact Or.inl rfl | exact Or.inr rfl) (pe_lst pa_nil))
  (pss_cons (ps_for PassesOwn.never rfl (Fa.listQ K (pv 0)) (pg_name (i := 3) sc__running_sums.nd rfl (by first | exact Or.inl rfl | exact Or.inr rfl)) (pss_cons (ps_aug (i := 1) sc__running_sums.nd rfl (by first | exact Or.inl rfl | exact Or.inr rfl) (pv 3) ip_add)
  (pss_one (ps_expr (pe_bm PySem.F.plainAttrs_list PySem.F.slot_list_append PySem.F.type_list_append mt_append (pv 2) (pa_cons (pv 1) pa_nil))))))
  (pss_one (ps_ret (pv 2)))))), ?_⟩
    have s0 : ∀ z, H z = none → Same H (upd H z (.lst [])) := fun z nz => same_new nz
    refine ⟨Nat.zero_le _, fun z nz => ?_⟩
    refine ⟨_, rfl, r, rfl, ⟨_, .inl (.inl (s0 z nz _ _ er))⟩, ?_⟩
    refine for_it (walk_list (xs := (cr c m s).map V.int)) (fun i σ H' => Same H H' ∧ H' z = some (.lst ((cr (fun s k => pre c s k) i s).map V.int)) ∧ ∃ x3, σ = [some (.ref r), some (.int (match i with | 0 => 0 | j + 1 => pre c s j)), some (.ref z), x3]) ?_ ?_ ?_ ?_
    · exact ⟨s0 z nz, upd_same, none, rfl⟩
    · rintro i σ H1 _ ⟨s1, _⟩
      exact .inl (.inl (s1 _ _ er))
    · rintro i v σ _ H1 hi ⟨s1, ez, x3, rfl⟩ ⟨rfl, ev⟩
      rw [List.length_map, cr_len] at hi
      rw [cr_atV hi] at ev
      cases ev
      refine ⟨_, rfl, _, rfl, _, _, rfl, rfl, _, rfl, .inl ⟨rfl, _, .inl (.inl ez)⟩, _, rfl, z, _, _, rfl, rfl, ez, ?_, ?_⟩
      · rw [List.length_map, cr_len]
        exact small1000 (by omega)
      · refine ⟨fun b o h => ?_, ?_, some (.int (c s i)), ?_⟩
        · rw [upd_ne (ne_of_none h nz)]
          exact s1 _ _ h
        · rw [upd_same]
          unfold cr
          rw [List.range_succ, List.map_append, List.map_append]
          cases i with
          | zero =>
            show some (HO.lst (_ ++ [V.int (0 + c s 0)])) = _
            rw [Int.zero_add]
            rfl
          | succ j => rfl
        · cases i with
          | zero =>
            show [some (V.ref r), some (V.int (0 + c s 0)), some (V.ref z), some (V.int (c s 0))] = _
            rw [Int.zero_add]
            rfl
          | succ j => rfl
    · rintro σ H1 ⟨s1, ez, x3, rfl⟩
      rw [List.length_map, cr_len] at ez
      exact ⟨_, rfl, q H1 z s1 nz ez⟩
theorem ok_sheetof {f fA fB fC fD fE : Addr} {fd fdA fdB fdC fdD fdE : FuncData} {k : Nat} (F : Fun K "sheet_of" "sheet_of" s_sheet_of f fd) (F_check_family : Fun K "check_family" "check_family" s_check_family fA fdA) (G_check_family : FnOk P w K mg base CX0 k fA fdA ["family", "count"] spCkFam)
    (b_check_family : Binds K fdA ["family", "count"] []) (g_check_family : mg "check_family" = some (.ref fA)) (F_check_count : Fun K "check_count" "check_count" s_check_count fB fdB) (G_check_count : FnOk P w K mg base CX0 k fB fdB ["count"] spCkCount) (b_check_count : Binds K fdB ["count"] [])
    (g_check_count : mg "check_count" = some (.ref fB)) (F_check_width : Fun K "check_width" "check_width" s_check_width fC fdC) (G_check_width : FnOk P w K mg base CX0 k fC fdC ["width", "most"] spCkWidth) (b_check_width : Binds K fdC ["width", "most"] []) (g_check_width : mg "check_width" = some (.ref fC))
    (F__count_by_latest : Fun K "_count_by_latest" "_count_by_latest" s__count_by_latest fD fdD) (G__count_by_latest : FnOk P w K mg base CX0 k fD fdD ["by_latest", "pattern", "many"] spCbl) (b__count_by_latest : Binds K fdD ["by_latest", "pattern", "many"] []) (g__count_by_latest : mg "_count_by_latest" = some (.ref fD))
    (F__running_sums : Fun K "_running_sums" "_running_sums" s__running_sums fE fdE) (G__running_sums : FnOk P w K mg base CX0 k fE fdE ["row"] spSums) (b__running_sums : Binds K fdE ["row"] []) (g__running_sums : mg "_running_sums" = some (.ref fE))
    {tk : Tok} (g_MOST_DAYS : mg "MOST_DAYS" = some (.int 30 tk)) (m_range : mg "range" = none) (m_min : mg "min" = none) : FnOk P w K mg base CX0 (k + 1) f fd ["family", "count", "width"] spSheetOf := by
  refine F.ok sc_sheet_of (fun vs H Q E h => ?_) (fun cdv A outer s H vs Q E hr h => ?_)
  · obtain ⟨a, _, _, _, rfl, _⟩ := h
    rfl
  · obtain ⟨a, fam, n, wd, rfl, hF, hO, w1, wn, q⟩ := h
    refine ⟨_, (pss_cons (ps_expr (pe_call G_check_family (hr.mono (by omega)) (by rfl) g_check_family F_check_family.kp b_check_family .nil pass0 (pa_cons (pv 0) (pa_cons (pe_glob (v := .int 30) rfl g_MOST_DAYS ⟨_, rfl⟩) pa_nil))))
  (pss_cons (ps_expr (pe_call G_check_count (hr.mono (by omega)) (by rfl) g_check_count F_check_count.kp b_check_count .nil pass0 (pa_cons (pv 1) pa_nil)))
  (pss_cons (ps_expr (pe_call G_check_width (hr.mono (by omega)) (by rfl) g_check_width F_check_width.kp b_check_width .nil pass0 (pa_cons (pv 2) (pa_cons (pv 1) pa_nil))))
  (pss_cons (ps_expr (pe_call G_check_family (hr.mono (by omega)) (by rfl) g_check_family F_check_family.kp b_check_family .nil pass0 (pa_cons (pv 0) (pa_cons (pv 1) pa_nil))))
  (pss_cons (ps_setLc (i := 3) (own := [("day", 6)]) (g := (gName 6)) (tt := tYes) rfl sc_sheet_of.nd rfl rfl (sw_true rfl rfl rfl (by decide +kernel)) (pi_range1 (by rfl) m_range (pa_cons (pv 1) pa_nil)) (blkOk_by (N := N_sheet_of) (sc := defScope s_sheet_of) (by decide +kernel)) (fun _ _ _ _ _ => (pg_name (i := 6) sc_sheet_of.nd rfl (by first | exact Or.inl rfl | exact Or.inr rfl))) (fun _ _ _ _ _ => pts_nil) (fun _ _ _ _ _ => (pe_op op_rep (pe_lst (pa_cons pe_int pa_nil)) (pe_callB (call_min2 rfl) (by rfl) m_min PyProof.Rows.boot_min (pa_cons (pe_op op_add (pv 6) pe_int) (pa_cons (pv 2) pa_nil))))))
  (pss_cons (ps_for PassesOwn.never rfl (Fa.listQ K (pv 0)) (pg_tup rfl (pgs_cons (pg_name (i := 4) sc_sheet_of.nd rfl (by first | exact Or.inl rfl | exact Or.inr rfl)) (pgs_cons (pg_name (i := 5) sc_sheet_of.nd rfl (by first | exact Or.inl rfl | exact Or.inr rfl)) pgs_nil))) (pss_one (ps_expr (pe_call G__count_by_latest (hr.mono (by omega)) (by rfl) g__count_by_latest F__count_by_latest.kp b__count_by_latest .nil pass0 (pa_cons (pv 3) (pa_cons (pv 4) (pa_cons (pv 5) pa_nil)))))))
  (pss_one (ps_ret (pe_lc (own := [("row", 7)]) (g := (gName 7)) (tt := tYes) rfl sc_sheet_of.nd (Fa.listQ K (pv 3)) (blkOk_by (N := N_sheet_of) (sc := defScope s_sheet_of) (by decide +kernel)) (fun _ _ _ _ _ => (pg_name (i := 7) sc_sheet_of.nd rfl (by first | exact Or.inl rfl | exact Or.inr rfl))) (fun _ _ _ _ _ => pts_nil) (fun _ _ _ _ _ => (pe_call G__running_sums (hr.mono (by omega)) (by rfl) g__running_sums F__running_sums.kp b__running_sums .nil pass0 (pa_cons (pv 7) pa_nil)))))))))))), ?_⟩
    have n30 : n ≤ 30 := by have := hO.2.2; omega
    have hO30 : FmOk 30 fam := by
      obtain ⟨⟨c, hf⟩, hl, hn⟩ := hO
      exact ⟨⟨c, hf.asc, fun p hp => ⟨(hf.pat p hp).ne, (hf.pat p hp).asc, fun d hd => by have := (hf.pat p hp).bd d hd; omega⟩, hf.bd⟩, hl, Int.le_refl _⟩
    refine ⟨_, rfl, a, fam, 30, rfl, hF, hO30, fun H1 s1 => ?_⟩
    refine ⟨_, rfl, n, rfl, by omega, by omega, ?_⟩
    refine ⟨_, rfl, _, rfl, wd, n, rfl, by omega, by omega, ?_⟩
    refine ⟨_, rfl, _, rfl, a, fam, n, rfl, hF.same s1, hO, fun H2 s2 => ?_⟩
    have s02 := s1.trans s2
    have hF2 := hF.same s02
    refine ⟨_, rfl, n, rfl, by omega, by omega, fun D nD => ?_⟩
    refine lc_range (lo := 0) (fun i H3 => Same H2 H3 ∧ ∃ rs, GridAt H3 D rs i (fun s => cr (fun _ _ => 0) (min (s + 1) wd) s) ∧ ∀ r ∈ rs, H r = none) ?_ ?_ ?_
    · exact ⟨same_new nD, [], gridAt_nil upd_same, fun r z => (List.not_mem_nil z).elim⟩
    · rintro i H3 hi ⟨s3, rs, G, fresh⟩
      have mn : (if (wd : Int) < (0 : Int) + (i : Int) + 1 then (wd : Int) else (0 : Int) + (i : Int) + 1) = ((min (i + 1) wd : Nat) : Int) := by
        split <;> omega
      refine ⟨rfl, yes_if ⟨by show 1 ≤ sizeLine; decide, fun l nl => ⟨_, rfl, _, _, rfl, rfl, _, rfl, _, _, rfl, l, _, _, rfl, rfl, upd_same, ?_, ?_, ?_, fun p np => ?_⟩⟩⟩
      · rw [mn]
        omega
      · rw [mn]
        omega
      · rw [mn]
        show 1 * _ ≤ sizeLine
        rw [Nat.one_mul]
        exact Nat.le_of_lt (small1000 (by omega))
      · obtain ⟨nlD, nlr⟩ := G.noRow nl
        have G3 := G.off (o := .lst [.int 0]) nlD nlr
        obtain ⟨a1, a2, a3, a4⟩ := grow_step (l := (List.replicate (if (wd : Int) < (0 : Int) + (i : Int) + 1 then (wd : Int) else (0 : Int) + (i : Int) + 1).toNat [V.int 0]).flatten) (s3.trans (same_new nl)) nD G3 np (by rw [mn, Int.toNat_natCast, flat_zeros]; rfl) (by omega)
        refine ⟨_, a1, a2, a3, _, a4, fun r hr => ?_⟩
        rcases List.mem_append.mp hr with z | z
        · exact fresh r z
        · rw [List.mem_singleton.mp z]
          exact (s02.trans (s3.trans (same_new nl))).free np
    · rintro H3 ⟨s3, rs, G3, fresh⟩
      have s03 := s02.trans s3
      obtain ⟨xs, eg, hP⟩ := hF
      have hp : ∀ p ∈ fam, Pat n p.1 := by
        obtain ⟨⟨c, hf⟩, _⟩ := hO
        exact hf.pat
      refine ⟨_, rfl, a, rfl, ⟨xs, .inl (.inl (s03 _ _ eg))⟩, ?_⟩
      refine for_it (walk_list (xs := xs)) (fun i σ H' => Same H H' ∧ GridAt H' D rs n (fun s => cr (addLs (fam.take i)) (min (s + 1) wd) s) ∧ ∃ x4 x5, σ = [some (.ref a), some (.int n), some (.int wd), some (.ref D), x4, x5, none, none]) ?_ ?_ ?_ ?_
      · exact ⟨s03, G3, none, none, rfl⟩
      · rintro i σ H4 _ ⟨s4, _⟩
        exact .inl (.inl (s4 _ _ eg))
      · rintro i v σ _ H4 hi ⟨s4, G4, x4, x5, rfl⟩ ⟨rfl, ev⟩
        obtain ⟨pt, ep, t, b, rfl, h1, h2⟩ := paired_at hP ev
        refine ⟨t, _, rfl, .inl (.inl (s4 _ _ h1)), rfl, _, _, rfl, _, _, rfl, rfl, ?_⟩
        refine ⟨_, rfl, _, rfl, _, rfl, D, b, pt.2, n, wd, pt.1, _, rs, rfl, G4, s4 _ _ h2, hp pt (List.mem_of_getElem? ep), n30, fun H5 off G5 => ⟨fun c o z => off c o (fun mm => by rw [fresh c mm] at z; cases z) (s4 _ _ z), ?_, _, _, rfl⟩⟩
        rw [addLs_take ep]
        exact G5
      · rintro σ H4 ⟨s4, G4, x4, x5, rfl⟩
        rw [List.take_of_length_le (show fam.length ≤ xs.length by rw [hP.length]; exact Nat.le_refl _)] at G4
        refine ⟨_, rfl, D, rfl, ⟨_, .inl (.inl G4.top)⟩, fun D2 nD2 => ?_⟩
        refine lc_it (walk_list (xs := rs.map V.ref)) (fun i H5 => Same H4 H5 ∧ ∃ rs2, GridAt H5 D2 rs2 i (fun s => shRow fam s wd) ∧ ∀ r ∈ rs2, H r = none) ?_ ?_ ?_ ?_
        · exact ⟨same_new nD2, [], gridAt_nil upd_same, fun r z => (List.not_mem_nil z).elim⟩
        · rintro i H5 _ ⟨s5, _⟩
          exact .inl (.inl (s5 _ _ G4.top))
        · rintro i v _ H5 hi ⟨s5, rs2, G5, fr⟩ ⟨rfl, ev⟩
          rw [List.length_map, G4.cnt] at hi
          obtain ⟨r, er, hr', hrow⟩ := G4.get (s := i) hi
          rw [List.getElem?_map, er] at ev
          cases ev
          refine ⟨rfl, yes_if ⟨_, rfl, r, _, i, min (i + 1) wd, rfl, s5 _ _ hrow, by omega, fun H6 z s6 nz ez => ?_⟩⟩
          obtain ⟨zD, zr⟩ := G5.noRow nz
          have G6 := G5.same s6
          refine ⟨_, G6.top, ?_, fun b o y => ?_, rs2 ++ [z], G6.grow ?_ zD zr, fun y hy => ?_⟩
          · rw [List.length_map, G6.cnt]
            exact small1000 (by omega)
          · rw [upd_ne (ne_of_none y nD2)]
            exact s6 _ _ (s5 _ _ y)
          · rw [ez]
            refine congrArg (fun l : List Int => some (HO.lst (l.map V.int))) ?_
            unfold cr shRow
            refine List.map_congr_left fun kk _ => ?_
            exact prog_cells hp i kk
          · rcases List.mem_append.mp hy with m | m
            · exact fr y m
            · rw [List.mem_singleton.mp m]
              exact s4.free (s5.free nz)
        · rintro H5 ⟨s5, rs2, G5, fr⟩
          rw [List.length_map, G4.cnt] at G5
          exact q H5 D2 rs2 (s4.trans s5) (s4.free nD2) fr G5
end
end K01

namespace K01
open PySem PySem.Spec PyProof.Rows L2 Fa
abbrev s_check_told : Stmt := topS 23
abbrev N_check_told : List Str := ["sheet", "first", "last", "least", "width"]
theorem sc_check_told : FnScope N_check_told ["sheet", "first", "last", "least"] (defScope s_check_told) := ⟨rfl, rfl, rfl, by decide +kernel, rfl, by decide +kernel, by decide +kernel⟩
section
variable {P : Program} {w : World} {K : PySem.W.Frag} {mg : Str → Option Value} {base : Heap}
def spCkTold : Sp := fun vs H Q _ => ∃ (g : Addr) (n w : Nat) (f : Nat → List Int) (a b c : Int), vs = [.ref g, .int a, .int b, .int c] ∧ ShAt H g n w f ∧ 0 ≤ a ∧ a < n ∧ 0 ≤ b ∧ b < n ∧ c ≤ b - a ∧ b - a < w ∧ Q .non H
def spToldNo : Sp := fun vs H Q _ => ∃ (g : Addr) (n w : Nat) (f : Nat → List Int) (a b : Int) (x : Int), vs = [.ref g, .int a, .int b] ∧ ShAt H g n w f ∧ a ≤ b ∧ 0 ≤ b ∧ b < n ∧ (f b.toNat)[(b - a).toNat]? = some x ∧ Q (.int x) H
theorem ok_cktold {f fG : Addr} {fd fdG : FuncData} {k : Nat} (F : Fun K "check_told" "check_told" s_check_told f fd) (F_check_apart : Fun K "check_apart" "check_apart" s_check_apart fG fdG) (G_check_apart : FnOk P w K mg base CX0 k fG fdG ["sheet", "first", "last", "least"] spCkAp) (b_check_apart : Binds K fdG ["sheet", "first", "last", "least"] [])
    (g_check_apart : mg "check_apart" = some (.ref fG)) (m_len : mg "len" = none) : FnOk P w K mg base CX0 (k + 1) f fd ["sheet", "first", "last", "least"] spCkTold := by
  refine F.ok sc_check_told (fun vs H Q E h => ?_) (fun cdv A outer s H vs Q E hr h => ?_)
  · obtain ⟨g, _, _, _, _, _, _, rfl, _⟩ := h
    rfl
  · obtain ⟨g, n, m, f, a, b, c, rfl, hS, a0, a1, b0, b1, h1, h2, q⟩ := h
    refine ⟨_, (pss_cons (ps_expr (pe_call G_check_apart (hr.mono (by omega)) (by rfl) g_check_apart F_check_apart.kp b_check_apart .nil pass0 (pa_cons (pv 0) (pa_cons (pv 1) (pa_cons (pv 2) (pa_cons (pv 3) pa_nil))))))
  (pss_cons (ps_set (i := 4) sc_check_told.nd rfl (by first | exact Or.inl rfl | exact Or.inr rfl) (pe_callB (Fa.lenQ K) (by rfl) m_len PySem.boot_len (pa_cons (pe_ix (Fa.ixL K) (pv 0) (pe_un un_neg pe_int) (fun _ _ => rfl)) pa_nil)))
  (pss_one (ps_if (pt_cmpR op_ge (pe_op op_sub (pv 2) (pv 1)) (pv 4) (nomark _)) Fa.pss_never pss_nil)))), ?_⟩
    obtain ⟨⟨rows, G⟩, hf⟩ := id hS
    obtain ⟨r, ea, er, hr'⟩ := G.last hf.n1
    refine ⟨_, rfl, _, rfl, _, rfl, _, rfl, g, n, m, f, a, b, c, rfl, hS, a0, a1, b0, b1, h1, ?_⟩
    refine ⟨_, rfl, 1, rfl, g, _, _, _, rfl, rfl, .inl (.inl G.top), ea, r, _, rfl, .inl (.inl (.inl hr')), ?_⟩
    rw [List.length_map, hf.last]
    exact ⟨_, rfl, _, rfl, _, _, rfl, rfl, _, rfl, _, _, rfl, rfl, _, rfl, iteDF (by omega) q⟩
theorem ok_toldno {f : Addr} {fd : FuncData} {k : Nat} (F : Fun K "told_number" "told_number" s_told_number f fd) : FnOk P w K mg base CX0 (k + 1) f fd ["sheet", "first", "last"] spToldNo := by
  refine F.ok sc_told_number (fun vs H Q E h => ?_) (fun cdv A outer s H vs Q E hr h => ?_)
  · obtain ⟨g, _, _, _, _, _, _, rfl, _⟩ := h
    rfl
  · obtain ⟨g, n, m, f, a, b, x, rfl, ⟨⟨rows, G⟩, hS⟩, h1, h2, h3, ex, q⟩ := h
    refine ⟨_, (pss_cons (ps_if (pt_cmpR op_gt (pv 1) (pv 2) (nomark _)) (pss_one (ps_ret pe_int)) pss_nil)
  (pss_one (ps_ret (pe_ix (Fa.ixL K) (pe_ix (Fa.ixL K) (pv 0) (pv 2) (fun _ _ => rfl)) (pe_op op_sub (pv 2) (pv 1)) (fun _ _ => rfl))))), ?_⟩
    obtain ⟨r, er, _, hrow⟩ := G.get (s := b.toNat) (by omega)
    have at1 : atI (rows.map V.ref) b = some (.ref r) := atI_int h2 (by rw [List.getElem?_map, er]; rfl)
    have at2 : atI ((f b.toNat).map V.int) (b - a) = some (.int x) := atI_int (by omega) (by rw [List.getElem?_map, ex]; rfl)
    exact ⟨_, rfl, _, rfl, _, _, rfl, rfl, _, rfl, iteDF (by omega) ⟨_, rfl, _, rfl, g, _, _, _, rfl, rfl, .inl (.inl G.top), at1, _, rfl, _, rfl, _, _, rfl, rfl, r, _, _, _, rfl, rfl, .inl (.inl hrow), at2, q⟩⟩
end
end K01

namespace K01
open PySem PySem.Spec PyProof.Rows L2 Fa
abbrev s_days_in : Stmt := topS 28
abbrev N_days_in : List Str := ["sheet"]
theorem sc_days_in : FnScope N_days_in ["sheet"] (defScope s_days_in) := ⟨rfl, rfl, rfl, by decide +kernel, rfl, by decide +kernel, by decide +kernel⟩
abbrev s_width_in : Stmt := topS 29
abbrev N_width_in : List Str := ["sheet"]
theorem sc_width_in : FnScope N_width_in ["sheet"] (defScope s_width_in) := ⟨rfl, rfl, rfl, by decide +kernel, rfl, by decide +kernel, by decide +kernel⟩
abbrev s_visits_of : Stmt := topS 30
abbrev N_visits_of : List Str := ["sheet", "day"]
theorem sc_visits_of : FnScope N_visits_of ["sheet", "day"] (defScope s_visits_of) := ⟨rfl, rfl, rfl, by decide +kernel, rfl, by decide +kernel, by decide +kernel⟩
abbrev s_unlike_of : Stmt := topS 31
abbrev N_unlike_of : List Str := ["sheet", "first", "last"]
theorem sc_unlike_of : FnScope N_unlike_of ["sheet", "first", "last"] (defScope s_unlike_of) := ⟨rfl, rfl, rfl, by decide +kernel, rfl, by decide +kernel, by decide +kernel⟩
abbrev s_narrowed_sheet : Stmt := topS 33
abbrev N_narrowed_sheet : List Str := ["sheet", "width", "row"]
theorem sc_narrowed_sheet : FnScope N_narrowed_sheet ["sheet", "width"] (defScope s_narrowed_sheet) := ⟨rfl, rfl, rfl, by decide +kernel, rfl, by decide +kernel, by decide +kernel⟩
section
variable {P : Program} {w : World} {K : PySem.W.Frag} {mg : Str → Option Value} {base : Heap}
def spDaysIn : Sp := fun vs H Q _ => ∃ (g : Addr) (n w : Nat) (f : Nat → List Int), vs = [.ref g] ∧ ShAt H g n w f ∧ ∀ H', Same H H' → Q (.int n) H'
def spWidthIn : Sp := fun vs H Q _ => ∃ (g : Addr) (n w : Nat) (f : Nat → List Int), vs = [.ref g] ∧ ShAt H g n w f ∧ ∀ H', Same H H' → Q (.int w) H'
def spVis : Sp := fun vs H Q _ => ∃ (g : Addr) (n w : Nat) (f : Nat → List Int) (d x : Int), vs = [.ref g, .int d] ∧ ShAt H g n w f ∧ 0 ≤ d ∧ d < n ∧ (f d.toNat)[0]? = some x ∧ ∀ H', Same H H' → Q (.int x) H'
def spUnlike : Sp := fun vs H Q _ => ∃ (g : Addr) (n w : Nat) (f : Nat → List Int) (a b x : Int), vs = [.ref g, .int a, .int b] ∧ ShAt H g n w f ∧ 0 ≤ a ∧ a ≤ b ∧ b < n ∧ b - a < w ∧ (f b.toNat)[(b - a).toNat]? = some x ∧ ∀ H', Same H H' → Q (.int x) H'
def spNarr : Sp := fun vs H Q _ => ∃ (g : Addr) (n w m : Nat) (f : Nat → List Int), vs = [.ref g, .int m] ∧ ShAt H g n w f ∧ 1 ≤ m ∧ m ≤ w ∧
  ∀ H' g' rows', Same H H' → H g' = none → (∀ r ∈ rows', H r = none) → GridAt H' g' rows' n (fun s => (f s).take m) → Q (.ref g') H'
theorem ok_daysin {f fS : Addr} {fd fdS : FuncData} {k : Nat} (F : Fun K "days_in" "days_in" s_days_in f fd) (F_check_sheet : Fun K "check_sheet" "check_sheet" s_check_sheet fS fdS) (G_check_sheet : FnOk P w K mg base CX0 k fS fdS ["sheet"] spCkSh) (b_check_sheet : Binds K fdS ["sheet"] [])
    (g_check_sheet : mg "check_sheet" = some (.ref fS)) (m_len : mg "len" = none) : FnOk P w K mg base CX0 (k + 1) f fd ["sheet"] spDaysIn := by
  refine F.ok sc_days_in (fun vs H Q E h => ?_) (fun cdv A outer s H vs Q E hr h => ?_)
  · obtain ⟨a, _, _, _, rfl, _⟩ := h
    rfl
  · obtain ⟨g, n, m, f, rfl, hS, q⟩ := h
    refine ⟨_, (pss_cons (ps_expr (pe_call G_check_sheet (hr.mono (by omega)) (by rfl) g_check_sheet F_check_sheet.kp b_check_sheet .nil pass0 (pa_cons (pv 0) pa_nil)))
  (pss_one (ps_ret (pe_callB (Fa.lenQ K) (by rfl) m_len PySem.boot_len (pa_cons (pv 0) pa_nil))))), ?_⟩
    refine ⟨_, rfl, g, n, m, f, rfl, hS, fun H1 s1 => ?_⟩
    obtain ⟨⟨rows, G⟩, hf⟩ := hS.same s1
    refine ⟨_, rfl, g, _, rfl, .inl (.inl (.inl G.top)), ?_⟩
    rw [List.length_map, G.cnt]
    exact q H1 s1
theorem ok_widthin {f fS : Addr} {fd fdS : FuncData} {k : Nat} (F : Fun K "width_in" "width_in" s_width_in f fd) (F_check_sheet : Fun K "check_sheet" "check_sheet" s_check_sheet fS fdS) (G_check_sheet : FnOk P w K mg base CX0 k fS fdS ["sheet"] spCkSh) (b_check_sheet : Binds K fdS ["sheet"] [])
    (g_check_sheet : mg "check_sheet" = some (.ref fS)) (m_len : mg "len" = none) : FnOk P w K mg base CX0 (k + 1) f fd ["sheet"] spWidthIn := by
  refine F.ok sc_width_in (fun vs H Q E h => ?_) (fun cdv A outer s H vs Q E hr h => ?_)
  · obtain ⟨a, _, _, _, rfl, _⟩ := h
    rfl
  · obtain ⟨g, n, m, f, rfl, hS, q⟩ := h
    refine ⟨_, (pss_cons (ps_expr (pe_call G_check_sheet (hr.mono (by omega)) (by rfl) g_check_sheet F_check_sheet.kp b_check_sheet .nil pass0 (pa_cons (pv 0) pa_nil)))
  (pss_one (ps_ret (pe_callB (Fa.lenQ K) (by rfl) m_len PySem.boot_len (pa_cons (pe_ix (Fa.ixL K) (pv 0) (pe_un un_neg pe_int) (fun _ _ => rfl)) pa_nil))))), ?_⟩
    refine ⟨_, rfl, g, n, m, f, rfl, hS, fun H1 s1 => ?_⟩
    obtain ⟨⟨rows, G⟩, hf⟩ := hS.same s1
    obtain ⟨r, ea, er, hr'⟩ := G.last hf.n1
    refine ⟨_, rfl, 1, rfl, g, _, _, _, rfl, rfl, .inl (.inl G.top), ea, r, _, rfl, .inl (.inl (.inl hr')), ?_⟩
    rw [List.length_map, hf.last]
    exact q H1 s1
theorem ok_vis {f fS fD fT : Addr} {fd fdS fdD fdT : FuncData} {k : Nat} (F : Fun K "visits_of" "visits_of" s_visits_of f fd) (F_check_sheet : Fun K "check_sheet" "check_sheet" s_check_sheet fS fdS) (G_check_sheet : FnOk P w K mg base CX0 k fS fdS ["sheet"] spCkSh) (b_check_sheet : Binds K fdS ["sheet"] [])
    (g_check_sheet : mg "check_sheet" = some (.ref fS)) (F_check_day : Fun K "check_day" "check_day" s_check_day fD fdD) (G_check_day : FnOk P w K mg base CX0 k fD fdD ["sheet", "day"] spCkDay) (b_check_day : Binds K fdD ["sheet", "day"] []) (g_check_day : mg "check_day" = some (.ref fD))
    (F_told_number : Fun K "told_number" "told_number" s_told_number fT fdT) (G_told_number : FnOk P w K mg base CX0 k fT fdT ["sheet", "first", "last"] spToldNo) (b_told_number : Binds K fdT ["sheet", "first", "last"] []) (g_told_number : mg "told_number" = some (.ref fT)) :
    FnOk P w K mg base CX0 (k + 1) f fd ["sheet", "day"] spVis := by
  refine F.ok sc_visits_of (fun vs H Q E h => ?_) (fun cdv A outer s H vs Q E hr h => ?_)
  · obtain ⟨a, _, _, _, _, _, rfl, _⟩ := h
    rfl
  · obtain ⟨g, n, m, f, d, x, rfl, hS, d0, d1, ex, q⟩ := h
    refine ⟨_, (pss_cons (ps_expr (pe_call G_check_sheet (hr.mono (by omega)) (by rfl) g_check_sheet F_check_sheet.kp b_check_sheet .nil pass0 (pa_cons (pv 0) pa_nil)))
  (pss_cons (ps_expr (pe_call G_check_day (hr.mono (by omega)) (by rfl) g_check_day F_check_day.kp b_check_day .nil pass0 (pa_cons (pv 0) (pa_cons (pv 1) pa_nil))))
  (pss_one (ps_ret (pe_call G_told_number (hr.mono (by omega)) (by rfl) g_told_number F_told_number.kp b_told_number .nil pass0 (pa_cons (pv 0) (pa_cons (pv 1) (pa_cons (pv 1) pa_nil)))))))), ?_⟩
    refine ⟨_, rfl, g, n, m, f, rfl, hS, fun H1 s1 => ?_⟩
    have hS1 := hS.same s1
    exact ⟨_, rfl, _, rfl, g, n, m, f, d, rfl, hS1, d0, d1, _, rfl, _, rfl, _, rfl, g, n, m, f, d, d, x, rfl, hS1, Int.le_refl _, d0, d1, by rw [Int.sub_self]; exact ex, q H1 s1⟩
theorem ok_unlike {f fS fD fT : Addr} {fd fdS fdD fdT : FuncData} {k : Nat} (F : Fun K "unlike_of" "unlike_of" s_unlike_of f fd) (F_check_sheet : Fun K "check_sheet" "check_sheet" s_check_sheet fS fdS) (G_check_sheet : FnOk P w K mg base CX0 k fS fdS ["sheet"] spCkSh) (b_check_sheet : Binds K fdS ["sheet"] [])
    (g_check_sheet : mg "check_sheet" = some (.ref fS)) (F_check_told : Fun K "check_told" "check_told" s_check_told fD fdD) (G_check_told : FnOk P w K mg base CX0 k fD fdD ["sheet", "first", "last", "least"] spCkTold) (b_check_told : Binds K fdD ["sheet", "first", "last", "least"] []) (g_check_told : mg "check_told" = some (.ref fD))
    (F_told_number : Fun K "told_number" "told_number" s_told_number fT fdT) (G_told_number : FnOk P w K mg base CX0 k fT fdT ["sheet", "first", "last"] spToldNo) (b_told_number : Binds K fdT ["sheet", "first", "last"] []) (g_told_number : mg "told_number" = some (.ref fT)) :
    FnOk P w K mg base CX0 (k + 1) f fd ["sheet", "first", "last"] spUnlike := by
  refine F.ok sc_unlike_of (fun vs H Q E h => ?_) (fun cdv A outer s H vs Q E hr h => ?_)
  · obtain ⟨g, _, _, _, _, _, _, rfl, _⟩ := h
    rfl
  · obtain ⟨g, n, m, f, a, b, x, rfl, hS, a0, ab, b1, bw, ex, q⟩ := h
    refine ⟨_, (pss_cons (ps_expr (pe_call G_check_sheet (hr.mono (by omega)) (by rfl) g_check_sheet F_check_sheet.kp b_check_sheet .nil pass0 (pa_cons (pv 0) pa_nil)))
  (pss_cons (ps_expr (pe_call G_check_told (hr.mono (by omega)) (by rfl) g_check_told F_check_told.kp b_check_told .nil pass0 (pa_cons (pv 0) (pa_cons (pv 1) (pa_cons (pv 2) (pa_cons pe_int pa_nil))))))
  (pss_one (ps_ret (pe_call G_told_number (hr.mono (by omega)) (by rfl) g_told_number F_told_number.kp b_told_number .nil pass0 (pa_cons (pv 0) (pa_cons (pv 1) (pa_cons (pv 2) pa_nil)))))))), ?_⟩
    refine ⟨_, rfl, g, n, m, f, rfl, hS, fun H1 s1 => ?_⟩
    have hS1 := hS.same s1
    exact ⟨_, rfl, _, rfl, _, rfl, g, n, m, f, a, b, 0, rfl, hS1, a0, by omega, by omega, b1, by omega, bw, _, rfl, _, rfl, _, rfl, g, n, m, f, a, b, x, rfl, hS1, ab, by omega, b1, ex, q H1 s1⟩
theorem ok_narr {f fS fD : Addr} {fd fdS fdD : FuncData} {k : Nat} (F : Fun K "narrowed_sheet" "narrowed_sheet" s_narrowed_sheet f fd) (F_check_sheet : Fun K "check_sheet" "check_sheet" s_check_sheet fS fdS) (G_check_sheet : FnOk P w K mg base CX0 k fS fdS ["sheet"] spCkSh) (b_check_sheet : Binds K fdS ["sheet"] [])
    (g_check_sheet : mg "check_sheet" = some (.ref fS)) (F_check_width : Fun K "check_width" "check_width" s_check_width fD fdD) (G_check_width : FnOk P w K mg base CX0 k fD fdD ["width", "most"] spCkWidth) (b_check_width : Binds K fdD ["width", "most"] []) (g_check_width : mg "check_width" = some (.ref fD)) (m_len : mg "len" = none) :
    FnOk P w K mg base CX0 (k + 1) f fd ["sheet", "width"] spNarr := by
  refine F.ok sc_narrowed_sheet (fun vs H Q E h => ?_) (fun cdv A outer s H vs Q E hr h => ?_)
  · obtain ⟨g, _, _, _, _, rfl, _⟩ := h
    rfl
  · obtain ⟨g, n, m, l, f, rfl, hS, l1, lm, q⟩ := h
    refine ⟨_, (pss_cons (ps_expr (pe_call G_check_sheet (hr.mono (by omega)) (by rfl) g_check_sheet F_check_sheet.kp b_check_sheet .nil pass0 (pa_cons (pv 0) pa_nil)))
  (pss_cons (ps_expr (pe_call G_check_width (hr.mono (by omega)) (by rfl) g_check_width F_check_width.kp b_check_width .nil pass0 (pa_cons (pv 1) (pa_cons (pe_callB (Fa.lenQ K) (by rfl) m_len PySem.boot_len (pa_cons (pe_ix (Fa.ixL K) (pv 0) (pe_un un_neg pe_int) (fun _ _ => rfl)) pa_nil)) pa_nil))))
  (pss_one (ps_ret (pe_lc (own := [("row", 2)]) (g := (gName 2)) (tt := tYes) rfl sc_narrowed_sheet.nd (Fa.listQ K (pv 0)) (blkOk_by (N := N_narrowed_sheet) (sc := defScope s_narrowed_sheet) (by decide +kernel)) (fun _ _ _ _ _ => (pg_name (i := 2) sc_narrowed_sheet.nd rfl (by first | exact Or.inl rfl | exact Or.inr rfl))) (fun _ _ _ _ _ => pts_nil) (fun _ _ _ _ _ => (pe_slice (Fa.slL K) (pv 2) po_none (po_some (pv 1))))))))), ?_⟩
    refine ⟨_, rfl, g, n, m, f, rfl, hS, fun H1 s1 => ?_⟩
    obtain ⟨⟨rows, G⟩, hf⟩ := hS.same s1
    obtain ⟨r, ea, er, hr'⟩ := G.last hf.n1
    have n30 := hf.n30
    refine ⟨_, rfl, _, rfl, 1, rfl, g, _, _, _, rfl, rfl, .inl (.inl G.top), ea, r, _, rfl, .inl (.inl (.inl hr')), l, m, by rw [List.length_map, hf.last]; rfl, by omega, by omega, ?_⟩
    refine ⟨_, rfl, g, rfl, ⟨_, .inl (.inl G.top)⟩, fun D nD => ?_⟩
    have nD' := s1.free nD
    refine lc_it (walk_list (xs := rows.map V.ref)) (fun i H2 => Same H1 H2 ∧ ∃ rs, GridAt H2 D rs i (fun s => (f s).take l) ∧ ∀ r ∈ rs, H r = none) ?_ ?_ ?_ ?_
    · exact ⟨same_new nD, [], gridAt_nil upd_same, fun r z => (List.not_mem_nil z).elim⟩
    · rintro i H2 _ ⟨s2, _⟩
      exact .inl (.inl (s2 _ _ G.top))
    · rintro i v _ H2 hi ⟨s2, rs, G2, fr⟩ ⟨rfl, ev⟩
      rw [List.length_map, G.cnt] at hi
      obtain ⟨r, er, hr', hrow⟩ := G.get (s := i) hi
      rw [List.getElem?_map, er] at ev
      cases ev
      refine ⟨rfl, yes_if ⟨_, rfl, ?_⟩⟩
      unfold tNoPart
      refine ⟨_, rfl, l, rfl, r, _, rfl, .inl (.inl (s2 _ _ hrow)), fun p np => ?_⟩
      obtain ⟨a1, a2, a3, a4⟩ := grow_step (l := cutV ((f i).map V.int) none (some (l : Int))) s2 nD G2 np (by rw [cut_to, ← List.map_take]) (by omega)
      refine ⟨_, a1, a2, a3, _, a4, fun y hy => ?_⟩
      rcases List.mem_append.mp hy with z | z
      · exact fr y z
      · rw [List.mem_singleton.mp z]
        exact s1.free (s2.free np)
    · rintro H2 ⟨s2, rs, G2, fr⟩
      rw [List.length_map, G.cnt] at G2
      exact q H2 D rs (s1.trans s2) nD' fr G2
end
end K01

namespace K01
open PySem PySem.Spec PyProof.Rows L2 Fa
abbrev s__law_new_right : Stmt := topS 42
abbrev N__law_new_right : List Str := ["found", "due", "spot", "row_here"]
theorem sc__law_new_right : FnScope N__law_new_right ["found", "due"] (defScope s__law_new_right) := ⟨rfl, rfl, rfl, by decide +kernel, rfl, by decide +kernel, by decide +kernel⟩
section
variable {P : Program} {w : World} {K : PySem.W.Frag} {mg : Str → Option Value} {base : Heap}
def spNew : Sp := fun vs H Q _ => ∃ (g e : Addr) (rows rows' : List Addr) (n : Nat) (f : Nat → List Int), vs = [.ref g, .ref e] ∧ GridAt H g rows n f ∧ GridAt H e rows' n f ∧ n ≤ 30 ∧ (∀ s, s < n → (f s).length ≤ 100) ∧
  e ∉ rows ∧ (∀ r ∈ rows', r ∉ rows) ∧ ∀ H', Off rows H H' → Q (.bl true) H'
theorem ok_new {f : Addr} {fd : FuncData} {k : Nat} (F : Fun K "_law_new_right" "_law_new_right" s__law_new_right f fd) (m_range : mg "range" = none) (m_enumerate : mg "enumerate" = none) (m_len : mg "len" = none) (m_list : mg "list" = none) :
    FnOk P w K mg base CX0 (k + 1) f fd ["found", "due"] spNew := by
  refine F.ok sc__law_new_right (fun vs H Q E h => ?_) (fun cdv A outer s H vs Q E hr h => ?_)
  · obtain ⟨g, e, _, _, _, _, rfl, _⟩ := h
    rfl
  · obtain ⟨g, e, rows, rows', n, f, rfl, G, Ge, hn, hf, ne, nr, q⟩ := h
    refine ⟨_, (pss_cons (ps_for PassesOwn.never rfl (pi_enum (by rfl) m_enumerate (pa_cons (pv 0) pa_nil)) (pg_tup rfl (pgs_cons (pg_name (i := 2) sc__law_new_right.nd rfl (by first | exact Or.inl rfl | exact Or.inr rfl)) (pgs_cons (pg_name (i := 3) sc__law_new_right.nd rfl (by first | exact Or.inl rfl | exact Or.inr rfl)) pgs_nil))) (pss_one (ps_expr (pe_bm PySem.F.plainAttrs_list PySem.F.slot_list_append PySem.F.type_list_append mt_append (pv 3) (pa_cons (pv 2) pa_nil)))))
  (pss_cons (ps_if (pt_cmpR (Fa.neQ K hr.units) (pe_lc (own := [("row_here", 3)]) (g := (gName 3)) (tt := tYes) rfl sc__law_new_right.nd (Fa.listQ K (pv 0)) (blkOk_by (N := N__law_new_right) (sc := defScope s__law_new_right) (by decide +kernel)) (fun _ _ _ _ _ => (pg_name (i := 3) sc__law_new_right.nd rfl (by first | exact Or.inl rfl | exact Or.inr rfl))) (fun _ _ _ _ _ => pts_nil) (fun _ _ _ _ _ => (pe_ix (Fa.ixL K) (pv 3) (pe_un un_neg pe_int) (fun _ _ => rfl)))) (pe_listRg rfl (by rfl) m_list (prg_1 (by rfl) m_range (pe_callB (Fa.lenQ K) (by rfl) m_len PySem.boot_len (pa_cons (pv 1) pa_nil)))) (nomark _)) (pss_one (ps_ret pe_bl)) pss_nil)
  (pss_one (ps_ret (pe_cmpR (Fa.eqQ K hr.units) (pe_lc (own := [("row_here", 3)]) (g := (gName 3)) (tt := tYes) rfl sc__law_new_right.nd (Fa.listQ K (pv 0)) (blkOk_by (N := N__law_new_right) (sc := defScope s__law_new_right) (by decide +kernel)) (fun _ _ _ _ _ => (pg_name (i := 3) sc__law_new_right.nd rfl (by first | exact Or.inl rfl | exact Or.inr rfl))) (fun _ _ _ _ _ => pts_nil) (fun _ _ _ _ _ => (pe_slice (Fa.slL K) (pv 3) po_none (po_some (pe_un un_neg pe_int))))) (pv 1) (nomark _)))))), ?_⟩
    refine ⟨_, rfl, g, _, rfl, .inl (.inl G.top), ?_⟩
    refine for_it (walk_enum (xs := rows.map V.ref)) (fun i σ H' => Off rows H H' ∧ GridAt H' g rows n (fun s => if s < i then f s ++ [(s : Int)] else f s) ∧ ∃ x2 x3, σ = [some (.ref g), some (.ref e), x2, x3]) ?_ ?_ ?_ ?_
    · exact ⟨Off.refl _ _, G.ext fun s _ => by rw [if_neg (by omega)], none, none, rfl⟩
    · rintro i σ H1 _ ⟨_, G1, _⟩
      exact .inl (.inl G1.top)
    · rintro i v σ H1 _ hi ⟨s1, G1, x2, x3, rfl⟩ ⟨T, x, y, rfl, nT, rfl, ex, ey⟩
      rw [List.length_map, G1.cnt] at hi
      obtain ⟨r, er, hr', hrow⟩ := G1.get (s := i) hi
      have ey : (rows.map V.ref)[i]? = some y := ey
      rw [List.getElem?_map, er] at ey
      cases ey
      cases ex
      have rT : r ≠ T := ne_of_none hrow nT
      rw [if_neg (Nat.lt_irrefl i)] at hrow
      have hrow' : upd H1 T (.tup [.int (i : Nat), .ref r]) r = some (.lst ((f i).map V.int)) := (upd_ne rT).trans hrow
      refine ⟨T, _, rfl, .inl (.inl upd_same), rfl, _, _, rfl, _, _, rfl, rfl, _, rfl, .inl ⟨rfl, _, .inl (.inl hrow')⟩, _, rfl, r, _, _, rfl, rfl, hrow', ?_, ?_⟩
      · rw [List.length_map]
        exact small1000 (by have := hf i hi; omega)
      · have G2 := (G1.same (same_new (o := .tup [.int (i : Nat), .ref r]) nT)).put (l := f i ++ [(i : Int)]) er
        have e2 : (f i).map V.int ++ [V.int (i : Nat)] = (f i ++ [(i : Int)]).map V.int := by
          rw [List.map_append]
          rfl
        rw [e2]
        refine ⟨(s1.trans (off_same (same_new nT))).mut hr', G2.ext fun s hs => ?_, _, _, rfl⟩
        by_cases c : s = i
        · rw [if_pos c, c, if_pos (Nat.lt_succ_self i)]
        · rw [if_neg c]
          by_cases c2 : s < i
          · rw [if_pos c2, if_pos (by omega)]
          · rw [if_neg c2, if_neg (by omega)]
    · rintro σ H1 ⟨s1, G1, x2, x3, rfl⟩
      rw [List.length_map, G1.cnt] at G1
      have G2 : GridAt H1 g rows n (fun s => f s ++ [(s : Int)]) := G1.ext fun s hs => by rw [if_pos hs]
      refine ⟨_, rfl, g, rfl, ⟨_, .inl (.inl G2.top)⟩, fun D nD => ?_⟩
      refine lc_it (walk_list (xs := rows.map V.ref)) (fun i H2 => Same H1 H2 ∧ H2 D = some (.lst (((List.range i).map fun i : Nat => (i : Int)).map V.int))) ?_ ?_ ?_ ?_
      · exact ⟨same_new nD, upd_same⟩
      · rintro i H2 _ ⟨s2, _⟩
        exact .inl (.inl (s2 _ _ G2.top))
      · rintro i v _ H2 hi ⟨s2, eD⟩ ⟨rfl, ev⟩
        rw [List.length_map, G2.cnt] at hi
        obtain ⟨r, er, hr', hrow⟩ := G2.get (s := i) hi
        rw [List.getElem?_map, er] at ev
        cases ev
        have hrow : H1 r = some (.lst ((f i).map V.int ++ [V.int i])) := by rw [hrow, List.map_append]; rfl
        refine ⟨rfl, yes_if ⟨_, rfl, _, rfl, r, _, _, _, rfl, rfl, .inl (.inl (s2 _ _ hrow)), atI_last _ _, _, eD, ?_, ?_, ?_⟩⟩
        · rw [List.length_map, List.length_map, List.length_range]
          exact small1000 (by omega)
        · intro b o z
          rw [upd_ne (ne_of_none z nD)]
          exact s2 _ _ z
        · rw [upd_same, List.range_succ, List.map_append, List.map_append]
          rfl
      · rintro H2 ⟨s2, eD⟩
        rw [List.length_map, G2.cnt] at eD
        have Ge2 : GridAt H2 e rows' n f := (Ge.offs s1 ne nr).same s2
        refine ⟨_, rfl, e, _, rfl, .inl (.inl (.inl Ge2.top)), _, rfl, RgOk.of_le (Int.le_refl _) (by rw [List.length_map, Ge2.cnt]; omega) (by decide) (by omega), fun z nz => ?_⟩
        rw [List.length_map, Ge2.cnt, rg0]
        refine ⟨.list _, .list _, .lst (.inl (.inl (same_new nz _ _ eD))) (dp_ints _), .lst (.inl (.inl upd_same)) (dp_ints _), (shp_ints 0 _).shaped (by decide), (shp_ints 0 _).shaped (by decide), _, rfl, iteN0 (eqv_same _ (shp_ints 0 _).1) ?_⟩
        have s3 : Same H1 (upd H2 z (.lst (((List.range n).map fun i : Nat => (i : Int)).map V.int))) := fun b o h => same_new nz _ _ (s2 _ _ h)
        have Ge3 := Ge2.same (same_new (o := .lst (((List.range n).map fun i : Nat => (i : Int)).map V.int)) nz)
        generalize upd H2 z _ = H3 at s3 Ge3 ⊢
        have G3 := G2.same s3
        refine ⟨_, rfl, g, rfl, ⟨_, .inl (.inl G3.top)⟩, fun D2 nD2 => ?_⟩
        refine lc_it (walk_list (xs := rows.map V.ref)) (fun i H4 => Same H3 H4 ∧ ∃ rs, GridAt H4 D2 rs i f) ?_ ?_ ?_ ?_
        · exact ⟨same_new nD2, [], gridAt_nil upd_same⟩
        · rintro i H4 _ ⟨s4, _⟩
          exact .inl (.inl (s4 _ _ G3.top))
        · rintro i v _ H4 hi ⟨s4, rs, G4⟩ ⟨rfl, ev⟩
          rw [List.length_map, G3.cnt] at hi
          obtain ⟨r, er, hr', hrow⟩ := G3.get (s := i) hi
          rw [List.getElem?_map, er] at ev
          cases ev
          have hrow : H3 r = some (.lst ((f i).map V.int ++ [V.int i])) := by rw [hrow, List.map_append]; rfl
          refine ⟨rfl, yes_if ⟨_, rfl, ?_⟩⟩
          unfold tNoPart
          refine ⟨1, rfl, -1, rfl, r, _, rfl, .inl (.inl (s4 _ _ hrow)), fun p np => ?_⟩
          have npD : p ≠ D2 := fun z => by rw [z, G4.top] at np; cases np
          have npr : p ∉ rs := fun z => by
            obtain ⟨j, hj, e⟩ := List.mem_iff_getElem.mp z
            have := G4.row j p (by rw [List.getElem?_eq_getElem hj, e])
            rw [np] at this
            cases this
          refine ⟨rs.map V.ref, (G4.off npD npr).top, ?_, fun b o z => ?_, rs ++ [p], (G4.off npD npr).grow ?_ npD npr⟩
          · rw [List.length_map, G4.cnt]
            exact small1000 (by omega)
          · rw [upd_ne (ne_of_none z nD2)]
            exact same_new np _ _ (s4 _ _ z)
          · rw [upd_same, cut_last]
        · rintro H4 ⟨s4, rs, G4⟩
          rw [List.length_map, G3.cnt] at G4
          refine ⟨_, rfl, gridD n f, gridD n f, G4.dp, (Ge3.same s4).dp, (gridD_shp 0 n f).shaped (by decide), (gridD_shp 0 n f).shaped (by decide), ?_⟩
          rw [eqv_same _ (gridD_shp 0 n f).1]
          exact q H4 ((s1.trans (off_same s3)).trans (off_same s4))
end
end K01

/-! how long what is shown is -/
namespace Fa
open PySem PySem.Spec PyProof.Rows L2
def Num (x : Int) : Prop := 0 ≤ x ∧ x < 2 ^ 100
theorem Num.log {x : Int} (h : Num x) : x.natAbs.log2 < 100 := by
  obtain ⟨h0, h1⟩ := h
  by_cases z : x.natAbs = 0
  · rw [z]
    decide
  · rw [Nat.log2_lt z]
    have e : ((2 ^ 100 : Nat) : Int) = (2 : Int) ^ 100 := by decide +kernel
    omega
/-- shown in few signs -/
structure Sho (wt : Nat) (d : PyData) : Prop where
  sh : PyData.showable d = true
  nd : PyData.hasDict d = false
  lf : PyData.leavesShort 101 d = true
  wt : PyData.weight d ≤ wt
theorem sho_int {x : Int} (h : Num x) : Sho 100 (.int x) := by
  have l := h.log
  refine ⟨decide_eq_true (by omega), rfl, decide_eq_true ?_, ?_⟩
  · show (Str.ofString (toString x)).length ≤ 101
    rw [PySem.ofString_length]
    exact int_text_length_le (by decide) l
  · show (if x == 0 then 0 else x.natAbs.log2 + 1) ≤ 100
    split <;> omega
theorem sho_all {wt : Nat} : ∀ {ds : List PyData}, (∀ d ∈ ds, Sho wt d) → PyData.showableAll ds = true ∧ PyData.hasDictAll ds = false ∧ PyData.leavesShortAll 101 ds = true ∧ PyData.weightAll ds ≤ (wt + 1) * ds.length
  | [], _ => ⟨rfl, rfl, rfl, Nat.zero_le _⟩
  | d :: ds, h => by
    obtain ⟨a, b, c, e⟩ := h d List.mem_cons_self
    obtain ⟨a', b', c', e'⟩ := sho_all fun x hx => h x (List.mem_cons_of_mem _ hx)
    refine ⟨?_, ?_, ?_, ?_⟩
    · show (PyData.showable d && PyData.showableAll ds) = true
      rw [a, a']
      rfl
    · show (PyData.hasDict d || PyData.hasDictAll ds) = false
      rw [b, b']
      rfl
    · show (PyData.leavesShort 101 d && PyData.leavesShortAll 101 ds) = true
      rw [c, c']
      rfl
    · show PyData.weight d + 1 + PyData.weightAll ds ≤ (wt + 1) * (ds.length + 1)
      rw [Nat.mul_add]
      omega
theorem sho_list {wt n : Nat} {ds : List PyData} (h : ∀ d ∈ ds, Sho wt d) (l : ds.length ≤ n) : Sho ((wt + 1) * n) (.list ds) := by
  obtain ⟨a, b, c, e⟩ := sho_all h
  exact ⟨a, b, c, Nat.le_trans e (Nat.mul_le_mul_left _ l)⟩
theorem sho_grid {n : Nat} {f : Nat → List Int} (hn : n ≤ 30) (h : ∀ s, s < n → (f s).length ≤ 30 ∧ ∀ x ∈ f s, Num x) : Sho (((100 + 1) * 30 + 1) * 30) (gridD n f) := by
  refine sho_list (fun d hd => ?_) (by rw [List.length_map, List.length_range]; exact hn)
  obtain ⟨s, hs, rfl⟩ := List.mem_map.mp hd
  obtain ⟨h1, h2⟩ := h s (List.mem_range.mp hs)
  refine sho_list (fun e he => ?_) (by rw [List.length_map]; exact h1)
  obtain ⟨x, hx, rfl⟩ := List.mem_map.mp he
  exact sho_int (h2 x hx)
theorem sho_len {wt : Nat} {d : PyData} (h : Sho wt d) (l : 103 * wt + 101 ≤ sizeLine) : d.shown.length ≤ sizeLine := by
  have a := PyData.shown_le 101 (by decide) d h.lf
  have b : 103 * d.weight ≤ 103 * wt := Nat.mul_le_mul_left _ h.wt
  omega
theorem repr_ok {K : PySem.W.Frag} {H : Hp} {a : Addr} {d : PyData} {wt n : Nat} {Q : VK} (hd : Dp K H (.ref a) d) (s : Shp n d) (hn : n ≤ 64) (h : Sho wt d) (l : 103 * wt + 101 ≤ sizeLine) (q : Q (.str d.shown) H) : rRepr K [.ref a] H Q :=
  ⟨a, d, rfl, hd, Nat.le_trans s.2 hn, h.sh, h.nd, sho_len h l, q⟩
theorem grid_line : 103 * (((100 + 1) * 30 + 1) * 30) + 101 ≤ sizeLine := by
  rw [sizeLine_eq]
  decide
theorem un66 {A : Around} {k : Nat} (hr : Room k A) : A.units + 66 < cLine := by
  have := hr.un
  omega
theorem b_repr : bootBuiltins "repr" = some (.builtin "repr") := by decide +kernel
/-! families as data -/
def famD (fam : Fm) : PyData := .list (fam.map fun p => .tuple [.tuple (p.1.map .int), .int p.2])
theorem famD_shp (fam : Fm) : Shp 3 (famD fam) := shp_list fun d hd => by
  obtain ⟨p, _, rfl⟩ := List.mem_map.mp hd
  refine shp_tuple fun e he => ?_
  rcases List.mem_cons.mp he with rfl | he
  · exact shp_tuple fun x hx => by
      obtain ⟨i, _, rfl⟩ := List.mem_map.mp hx
      exact shp_int _ _
  · rw [List.mem_singleton.mp he]
    exact shp_int _ _
theorem FamAt.dp {K : PySem.W.Frag} {H : Hp} {a : Addr} {fam : Fm} (h : FamAt H a fam) : Dp K H (.ref a) (famD fam) := by
  obtain ⟨xs, e, hP⟩ := h
  refine .lst (.inl (.inl e)) (dpAll_of (by rw [List.length_map]; exact hP.length) fun i v d h1 h2 => ?_)
  obtain ⟨p, ep, t, b, rfl, h3, h4⟩ := paired_at hP h1
  rw [List.getElem?_map, ep] at h2
  cases h2
  exact .tup (.inl (.inl h3)) (.cons (.tup (.inl (.inl h4)) (dp_ints _)) (.cons (.int _) .nil))
/-! arguments by name, in the opposite sequence -/
theorem vals_rev : ∀ {zs : List V} {ws : List Value}, Vals zs ws → Vals zs.reverse ws.reverse
  | _, _, .nil => .nil
  | _, _, .cons r t => by
    rw [List.reverse_cons, List.reverse_cons]
    exact (vals_rev t).append (.cons r .nil)
def gRev {α : Type} (_ zs : List α) : List α := zs.reverse
theorem kbRev {K : PySem.W.Frag} {x qual : Str} {st : Stmt} {f : Addr} {fd : FuncData} {ps ks : List Str} (F : Fun K x qual st f fd)
    (h : ∀ (kV doc pm : Value) (an : Option Addr) (cdv ct : Value) (us ws : List Value), us.length = 0 → ws.length = ks.length → bindArgs (PySem.W.fnOf x qual (defArgs st) (defBody st) (defScope st) .none kV doc pm an cdv ct) ⟨us, ks.zip ws⟩ = pure (ps.zip (gRev us ws))) :
    KBn K fd ps 0 ks (fun us ws => gRev us ws) (fun vs zs => gRev vs zs) := kbn_of F (fun u z => gRev u z) (fun _ r => vals_rev r) h
theorem GridAt.kp {H H' : Hp} {g p : Addr} {rows : List Addr} {n : Nat} {f : Nat → List Int} (h : GridAt H g rows n f) (k : Kp p H H') (ng : g ≠ p) (nr : p ∉ rows) : GridAt H' g rows n f :=
  h.but fun b o hb e => k b o (hb.elim (fun z => by rw [z]; exact ng) (fun z y => nr (by rw [← y]; exact z))) e
theorem FamAt.kp {H H' : Hp} {a p : Addr} {fam : Fm} {l : List V} (h : FamAt H a fam) (k : Kp p H H') (ne : a ≠ p) (hp : H p = some (.lst l)) : FamAt H' a fam :=
  h.keep (fun _ e => k _ _ ne e) fun _ _ e => k _ _ (ne_of e hp (fun z => by cases z)) e
theorem sho_flat {n : Nat} {l : List Int} (h : ∀ x ∈ l, Num x) (hn : l.length ≤ n) : Sho ((100 + 1) * n) (.list (l.map .int)) := sho_list (fun d hd => by
  obtain ⟨x, hx, rfl⟩ := List.mem_map.mp hd
  exact sho_int (h x hx)) (by rw [List.length_map]; exact hn)
theorem num_small {x : Int} (h0 : 0 ≤ x) (h : x ≤ 1000000) : Num x := by
  have e : (1000000 : Int) < 2 ^ 100 := by decide +kernel
  exact ⟨h0, by omega⟩
theorem lst_dp {K : PySem.W.Frag} {H : Hp} {a : Addr} {l : List Int} (h : H a = some (.lst (l.map V.int))) : Dp K H (.ref a) (.list (l.map .int)) := .lst (.inl (.inl h)) (dp_ints l)
theorem flat_line : 103 * ((100 + 1) * 10) + 101 ≤ sizeLine := by
  rw [sizeLine_eq]
  decide
theorem off_new {l : List Addr} {H H1 H2 : Hp} (s : Same H H1) (o : Off l H1 H2) (n : ∀ r ∈ l, H r = none) : Same H H2 := fun b u e => o b u (fun z => by rw [n b z] at e; cases e) (s b u e)
theorem shRow_at {fam : Fm} {d w k : Nat} (h : k < min (d + 1) w) : (shRow fam d w)[k]? = some (unl fam ((d : Int) - (k : Int)) d) := by
  unfold shRow
  rw [List.getElem?_map, List.getElem?_range h]
  rfl
theorem shRow_len (fam : Fm) (d w : Nat) : (shRow fam d w).length = min (d + 1) w := by
  unfold shRow
  rw [List.length_map, List.length_range]
theorem shRow_take {fam : Fm} {d w m : Nat} (h : m ≤ w) : (shRow fam d w).take m = shRow fam d m := by
  unfold shRow
  rw [← List.map_take, List.take_range]
  congr 2
  omega
theorem shRow_num {fam : Fm} (h : ∀ b e, Num (unl fam b e)) {d w : Nat} {x : Int} (hx : x ∈ shRow fam d w) : Num x := by
  obtain ⟨k, _, rfl⟩ := List.mem_map.mp hx
  exact h _ _
theorem shRow_shf {fam : Fm} (h : ∀ b e, Num (unl fam b e)) {n w : Nat} (n1 : 1 ≤ n) (n30 : n ≤ 30) (w1 : 1 ≤ w) (wn : w ≤ n) : Shf n w fun s => shRow fam s w :=
  ⟨n1, n30, w1, wn, fun s _ => shRow_len fam s w, fun _ _ x hx => (shRow_num h hx).1⟩
theorem sho_sh {fam : Fm} (h : ∀ b e, Num (unl fam b e)) {n : Nat} (n30 : n ≤ 30) (w : Nat) : Sho (((100 + 1) * 30 + 1) * 30) (gridD n fun s => shRow fam s w) :=
  sho_grid n30 fun s hs => ⟨by rw [shRow_len]; omega, fun x hx => shRow_num h hx⟩
theorem grid_dep (n : Nat) (f : Nat → List Int) : PyData.depth (gridD n f) ≤ 64 := Nat.le_trans (gridD_shp 0 n f).2 (by decide)
end Fa

set_option maxHeartbeats 0
namespace K01
open PySem PySem.Spec PyProof.Rows L2 Fa
abbrev s__law_any_right : Stmt := topS 45
abbrev N__law_any_right : List Str := ["jar", "sheet_here", "before", "count_here", "wide", "told", "end", "back_here", "due", "less", "narrow", "row_here"]
theorem sc__law_any_right : FnScope N__law_any_right ["jar", "sheet_here"] (defScope s__law_any_right) := ⟨rfl, rfl, rfl, by decide +kernel, rfl, by decide +kernel, by decide +kernel⟩
section
variable {P : Program} {w : World} {K : PySem.W.Frag} {mg : Str → Option Value} {base : Heap}
structure Env1 (P : Program) (w : World) (K : PySem.W.Frag) (mg : Str → Option Value) (base : Heap) (k : Nat) (fDip fUnl fShe fNew fSo fDi fWi fVi fUn fNa : Addr) (dDip dUnl dShe dNew dSo dDi dWi dVi dUn dNa : FuncData) : Prop where
  F1 : Fun K "_law_dip" "_law_dip" s__law_dip fDip dDip
  G1 : FnOk P w K mg base CX0 k fDip dDip ["jar", "many"] spDip
  b1 : Binds K dDip ["jar", "many"] []
  g1 : mg "_law_dip" = some (.ref fDip)
  F2 : Fun K "_law_unlike" "_law_unlike" s__law_unlike fUnl dUnl
  G2 : FnOk P w K mg base CX0 k fUnl dUnl ["some", "begin", "end"] spUnl
  b2 : Binds K dUnl ["some", "begin", "end"] []
  g2 : mg "_law_unlike" = some (.ref fUnl)
  F3 : Fun K "_law_sheet" "_law_sheet" s__law_sheet fShe dShe
  G3 : FnOk P w K mg base CX0 k fShe dShe ["some", "count_here", "wide"] spShe
  b3 : Binds K dShe ["some", "count_here", "wide"] []
  g3 : mg "_law_sheet" = some (.ref fShe)
  F4 : Fun K "_law_new_right" "_law_new_right" s__law_new_right fNew dNew
  G4 : FnOk P w K mg base CX0 k fNew dNew ["found", "due"] spNew
  b4 : Binds K dNew ["found", "due"] []
  g4 : mg "_law_new_right" = some (.ref fNew)
  F5 : Fun K "sheet_of" "sheet_of" s_sheet_of fSo dSo
  G5 : FnOk P w K mg base CX0 k fSo dSo ["family", "count", "width"] spSheetOf
  b5 : Binds K dSo ["family", "count", "width"] []
  g5 : mg "sheet_of" = some (.ref fSo)
  F6 : Fun K "days_in" "days_in" s_days_in fDi dDi
  G6 : FnOk P w K mg base CX0 k fDi dDi ["sheet"] spDaysIn
  b6 : Binds K dDi ["sheet"] []
  g6 : mg "days_in" = some (.ref fDi)
  F7 : Fun K "width_in" "width_in" s_width_in fWi dWi
  G7 : FnOk P w K mg base CX0 k fWi dWi ["sheet"] spWidthIn
  b7 : Binds K dWi ["sheet"] []
  g7 : mg "width_in" = some (.ref fWi)
  F8 : Fun K "visits_of" "visits_of" s_visits_of fVi dVi
  G8 : FnOk P w K mg base CX0 k fVi dVi ["sheet", "day"] spVis
  b8 : Binds K dVi ["sheet", "day"] []
  g8 : mg "visits_of" = some (.ref fVi)
  F9 : Fun K "unlike_of" "unlike_of" s_unlike_of fUn dUn
  G9 : FnOk P w K mg base CX0 k fUn dUn ["sheet", "first", "last"] spUnlike
  b9 : Binds K dUn ["sheet", "first", "last"] []
  g9 : mg "unlike_of" = some (.ref fUn)
  F10 : Fun K "narrowed_sheet" "narrowed_sheet" s_narrowed_sheet fNa dNa
  G10 : FnOk P w K mg base CX0 k fNa dNa ["sheet", "width"] spNarr
  b10 : Binds K dNa ["sheet", "width"] []
  g10 : mg "narrowed_sheet" = some (.ref fNa)
  mrepr : mg "repr" = none
  mlen : mg "len" = none
  mlist : mg "list" = none
  mmin : mg "min" = none
  mrange : mg "range" = none
def spAny : Sp := fun vs H Q _ => ∃ (p g : Addr) (rows : List Addr) (n w : Nat) (f : Nat → List Int) (B : Int), vs = [.ref p, .ref g] ∧ JarAt H p B ∧ B ≤ 700000000 ∧ GridAt H g rows n f ∧ Shf n w f ∧ g ≠ p ∧ p ∉ rows ∧ (∀ s, s < n → ∀ x ∈ f s, Num x) ∧
  ∀ H', Kp p H H' → JarAt H' p (B + 20) → Q (.bl true) H'
def spRight : Sp := fun vs H Q _ => ∃ (p a : Addr) (fam : Fm) (n w : Nat) (B : Int), vs = [.ref p, .ref a, .int n, .int w] ∧ JarAt H p B ∧ B ≤ 700000000 ∧ FamAt H a fam ∧ a ≠ p ∧ FmOk n fam ∧ (∀ b e, Num (unl fam b e)) ∧ 1 ≤ w ∧ w ≤ n ∧
  ∀ H', Kp p H H' → JarAt H' p (B + 20) → Q (.bl true) H'
variable {k : Nat} {fDip fUnl fShe fNew fSo fDi fWi fVi fUn fNa : Addr} {dDip dUnl dShe dNew dSo dDi dWi dVi dUn dNa : FuncData}
theorem ok_any {f : Addr} {fd : FuncData} (F : Fun K "_law_any_right" "_law_any_right" s__law_any_right f fd) (Z : Env1 P w K mg base k fDip fUnl fShe fNew fSo fDi fWi fVi fUn fNa dDip dUnl dShe dNew dSo dDi dWi dVi dUn dNa) : FnG P w K mg base (k + 1) f fd ["jar", "sheet_here"] spAny := by
  obtain ⟨F__law_dip, G__law_dip, b__law_dip, g__law_dip, F__law_unlike, G__law_unlike, b__law_unlike, g__law_unlike, F__law_sheet, G__law_sheet, b__law_sheet, g__law_sheet, F__law_new_right, G__law_new_right, b__law_new_right, g__law_new_right, F_sheet_of, G_sheet_of, b_sheet_of, g_sheet_of, F_days_in, G_days_in, b_days_in, g_days_in,
    F_width_in, G_width_in, b_width_in, g_width_in, F_visits_of, G_visits_of, b_visits_of, g_visits_of, F_unlike_of, G_unlike_of, b_unlike_of, g_unlike_of, F_narrowed_sheet, G_narrowed_sheet, b_narrowed_sheet, g_narrowed_sheet, m_repr, m_len, m_list, m_min, m_range⟩ := Z
  refine funG F sc__law_any_right (fun vs H Q E h => ?_) (fun cdv A outer s H vs Q E hr ng h => ?_)
  · obtain ⟨p, g, _, _, _, _, _, rfl, _⟩ := h
    rfl
  · obtain ⟨p, g, rows, n, m, f, B, rfl, hJ, hB, G, hf, gp, pr, hN, q⟩ := h
    refine ⟨_, (pss_cons (ps_par3 (i := 2) (j := 3) (l := 4) rfl sc__law_any_right.nd rfl rfl rfl (by decide) (by decide) (by decide) rfl rfl rfl (pa_cons (pe_callB (Fa.reprQ K ng (Fa.un66 hr)) (by rfl) m_repr Fa.b_repr (pa_cons (pv 1) pa_nil)) (pa_cons (pe_callB (Fa.lenQ K) (by rfl) m_len PySem.boot_len (pa_cons (pv 1) pa_nil)) (pa_cons (pe_callB (Fa.lenQ K) (by rfl) m_len PySem.boot_len (pa_cons (pe_ix (Fa.ixL K) (pv 1) (pe_un un_neg pe_int) (fun _ _ => rfl)) pa_nil)) pa_nil))) rfl)
  (pss_cons (ps_set (i := 5) sc__law_any_right.nd rfl (by first | exact Or.inl rfl | exact Or.inr rfl) (pe_lst (pa_cons (pe_call G_days_in (hr.mono (by omega)) (by rfl) g_days_in F_days_in.kp b_days_in .nil pass0 (pa_cons (pv 1) pa_nil)) (pa_cons (pe_call G_width_in (hr.mono (by omega)) (by rfl) g_width_in F_width_in.kp b_width_in .nil pass0 (pa_cons (pv 1) pa_nil)) pa_nil))))
  (pss_cons (ps_set (i := 6) sc__law_any_right.nd rfl (by first | exact Or.inl rfl | exact Or.inr rfl) (pe_call G__law_dip (hr.mono (by omega)) (by rfl) g__law_dip F__law_dip.kp b__law_dip .nil pass0 (pa_cons (pv 0) (pa_cons (pv 3) pa_nil))))
  (pss_cons (ps_set (i := 7) sc__law_any_right.nd rfl (by first | exact Or.inl rfl | exact Or.inr rfl) (pe_call G__law_dip (hr.mono (by omega)) (by rfl) g__law_dip F__law_dip.kp b__law_dip .nil pass0 (pa_cons (pv 0) (pa_cons (pe_callB (Fa.lenQ K) (by rfl) m_len PySem.boot_len (pa_cons (pe_ix (Fa.ixL K) (pv 1) (pv 6) (fun _ _ => rfl)) pa_nil)) pa_nil))))
  (pss_cons (ps_set (i := 5) sc__law_any_right.nd rfl (by first | exact Or.inl rfl | exact Or.inr rfl) (pe_op op_cat (pv 5) (pe_lst (pa_cons (pe_call G_visits_of (hr.mono (by omega)) (by rfl) g_visits_of F_visits_of.kp b_visits_of .nil pass0 (pa_cons (pv 1) (pa_cons (pv 6) pa_nil))) (pa_cons (pe_call G_unlike_of (hr.mono (by omega)) (by rfl) g_unlike_of F_unlike_of.kp b_unlike_of .nil pass0 (pa_cons (pv 1) (pa_cons (pe_op op_sub (pv 6) (pv 7)) (pa_cons (pv 6) pa_nil)))) pa_nil)))))
  (pss_cons (ps_set (i := 8) sc__law_any_right.nd rfl (by first | exact Or.inl rfl | exact Or.inr rfl) (pe_lst (pa_cons (pv 3) (pa_cons (pv 4) (pa_cons (pe_ix (Fa.ixL K) (pe_ix (Fa.ixL K) (pv 1) (pv 6) (fun _ _ => rfl)) pe_int (fun _ _ => rfl)) (pa_cons (pe_ix (Fa.ixL K) (pe_ix (Fa.ixL K) (pv 1) (pv 6) (fun _ _ => rfl)) (pv 7) (fun _ _ => rfl)) pa_nil))))))
  (pss_cons (ps_set (i := 9) sc__law_any_right.nd rfl (by first | exact Or.inl rfl | exact Or.inr rfl) (pe_op op_add pe_int (pe_call G__law_dip (hr.mono (by omega)) (by rfl) g__law_dip F__law_dip.kp b__law_dip .nil pass0 (pa_cons (pv 0) (pa_cons (pv 4) pa_nil)))))
  (pss_cons (ps_setLc (i := 10) (own := [("row_here", 11)]) (g := (gName 11)) (tt := tYes) rfl sc__law_any_right.nd rfl rfl (sw_true rfl rfl rfl (by decide +kernel)) (Fa.listQ K (pv 1)) (blkOk_by (N := N__law_any_right) (sc := defScope s__law_any_right) (by decide +kernel)) (fun _ _ _ _ _ => (pg_name (i := 11) sc__law_any_right.nd rfl (by first | exact Or.inl rfl | exact Or.inr rfl))) (fun _ _ _ _ _ => pts_nil) (fun _ _ _ _ _ => (pe_slice (Fa.slL K) (pv 11) po_none (po_some (pv 9)))))
  (pss_cons (ps_if (PW.pt (pw_or (pt_cmpR op_ne (pe_callB (Fa.reprQ K ng (Fa.un66 hr)) (by rfl) m_repr Fa.b_repr (pa_cons (pv 5) pa_nil)) (pe_callB (Fa.reprQ K ng (Fa.un66 hr)) (by rfl) m_repr Fa.b_repr (pa_cons (pv 8) pa_nil)) (nomark _)) (pw_or1 (pt_cmpR (Fa.neQ K hr.units) (pe_call G_narrowed_sheet (hr.mono (by omega)) (by rfl) g_narrowed_sheet F_narrowed_sheet.kp b_narrowed_sheet .nil pass0 (pa_cons (pv 1) (pa_cons (pv 9) pa_nil))) (pv 10) (nomark _))))) (pss_one (ps_ret pe_bl)) pss_nil)
  (pss_one (ps_ret (pe_cmpR op_eq (pe_callB (Fa.reprQ K ng (Fa.un66 hr)) (by rfl) m_repr Fa.b_repr (pa_cons (pv 1) pa_nil)) (pv 2) (nomark _))))))))))))), ?_⟩
    have n1 := hf.n1
    have n30 := hf.n30
    have w1 := hf.w1
    have wn := hf.wn
    have rl : (rows.map V.ref).length = n := by rw [List.length_map, G.cnt]
    obtain ⟨r, ea, er, hr'⟩ := G.last n1
    have ll : ((f (n - 1)).map V.int).length = m := by rw [List.length_map, hf.last]
    have sg : Sho (((100 + 1) * 30 + 1) * 30) (gridD n f) := sho_grid n30 fun s hs => ⟨by rw [hf.len s hs]; omega, hN s hs⟩
    have gd : PyData.depth (gridD n f) ≤ 64 := Nat.le_trans (gridD_shp 0 n f).2 (by decide)
    refine ⟨_, rfl, g, gridD n f, rfl, G.dp, gd, sg.sh, sg.nd, sho_len sg grid_line, ⟨_, rfl, g, _, rfl, .inl (.inl (.inl G.top)), _, rfl, 1, rfl, g, _, _, _, rfl, rfl, .inl (.inl G.top), ea, r, _, rfl, .inl (.inl (.inl hr')), _, _, _, rfl, ?_⟩⟩
    rw [rl, ll]
    refine ⟨_, rfl, g, n, m, f, rfl, ⟨⟨rows, G⟩, hf⟩, fun H1 s1 => ⟨_, rfl, g, n, m, f, rfl, ⟨⟨rows, G.same s1⟩, hf⟩, fun H2 s2 => ⟨by show 2 ≤ sizeLine; decide, fun l nl => ?_⟩⟩⟩
    have s3 : Same H (upd H2 l (.lst [.int n, .int m])) := (s1.trans s2).trans (same_new nl)
    have el : upd H2 l (.lst [.int n, .int m]) l = some (.lst [.int n, .int m]) := upd_same
    have nl0 : H l = none := (s1.trans s2).free nl
    generalize upd H2 l (.lst [.int n, .int m]) = H3 at s3 el ⊢
    have lp : l ≠ p := hJ.ne nl0
    refine ⟨_, rfl, _, rfl, p, n, B, rfl, hJ.same s3, by omega, by omega, lt3000 (by omega), fun H4 e b4 hJ4 e0 e1 => ?_⟩
    obtain ⟨d, rfl⟩ := Int.eq_ofNat_of_zero_le e0
    have hd : d < n := by omega
    have k4 : Kp p H H4 := (kp_same s3).trans b4.kp
    have G4 := G.kp k4 gp pr
    obtain ⟨rd, erd, _, hrd⟩ := G4.get hd
    have at1 : atI (rows.map V.ref) (d : Int) = some (.ref rd) := atI_nat (by rw [List.getElem?_map, erd]; rfl)
    have dl := hf.len d hd
    refine ⟨_, rfl, _, rfl, _, rfl, g, _, _, _, rfl, rfl, .inl (.inl G4.top), at1, rd, _, rfl, .inl (.inl (.inl hrd)), p, _, B + 1, rfl, hJ4, by omega, by rw [List.length_map, dl]; omega, lt3000 (by rw [List.length_map, dl]; omega), fun H5 bk b5 hJ5 bk0 bk1 => ?_⟩
    rw [List.length_map, dl] at bk1
    obtain ⟨b, rfl⟩ := Int.eq_ofNat_of_zero_le bk0
    have hb : b < (f d).length := by omega
    have k5 := k4.trans b5.kp
    have G5 := G.kp k5 gp pr
    have el5 : H5 l = some (.lst [.int n, .int m]) := (b5 l lp).trans ((b4 l lp).trans el)
    obtain ⟨x0, ex0⟩ : ∃ x0, (f d)[0]? = some x0 := ⟨(f d)[0]'(by omega), List.getElem?_eq_getElem _⟩
    obtain ⟨xb, exb⟩ : ∃ xb, (f d)[b]? = some xb := ⟨(f d)[b]'(by omega), List.getElem?_eq_getElem _⟩
    refine ⟨_, rfl, _, rfl, _, rfl, g, n, m, f, d, x0, rfl, ⟨⟨rows, G5⟩, hf⟩, by omega, by omega, ex0, fun H6 s6 => ⟨_, rfl, _, rfl, _, rfl, _, _, rfl, rfl, _, rfl, g, n, m, f, _, _, xb, rfl, ⟨⟨rows, G5.same s6⟩, hf⟩, by omega, by omega, by omega, by omega, by rw [show ((d : Int) - ((d : Int) - (b : Int))).toNat = b by omega]; exact exb, fun H7 s7 => ⟨by show 2 ≤ sizeLine; decide, fun l2 nl2 => ?_⟩⟩⟩
    have s57 := s6.trans s7
    have ll2 : l ≠ l2 := ne_of_none (s57 _ _ el5) nl2
    refine ⟨l, l2, _, _, rfl, rfl, (upd_ne ll2).trans (s57 _ _ el5), upd_same, by show 2 + 2 ≤ sizeLine; decide, fun l3 nl3 => ?_⟩
    have hJ7 : JarAt H7 p (B + 1 + 1) := hJ5.same s57
    have hJ72 := hJ7.same (same_new (o := .lst [.int x0, .int xb]) nl2)
    have l3p : l3 ≠ p := hJ72.ne nl3
    have hJ8 : JarAt (upd (upd H7 l2 (.lst [.int x0, .int xb])) l3 (.lst ([.int n, .int m] ++ [.int x0, .int xb]))) p (B + 1 + 1) := hJ72.same (same_new nl3)
    have k8 : Kp p H (upd (upd H7 l2 (.lst [.int x0, .int xb])) l3 (.lst ([.int n, .int m] ++ [.int x0, .int xb]))) := k5.trans (kp_same ((s57.trans (same_new nl2)).trans (same_new nl3)))
    have e38 : upd (upd H7 l2 (.lst [.int x0, .int xb])) l3 (.lst ([.int n, .int m] ++ [.int x0, .int xb])) l3 = some (.lst ([(n : Int), (m : Int), x0, xb].map V.int)) := upd_same
    generalize upd (upd H7 l2 (.lst [.int x0, .int xb])) l3 (.lst ([.int n, .int m] ++ [.int x0, .int xb])) = H8 at hJ8 k8 e38 ⊢
    have G8 := G.kp k8 gp pr
    have hrd8 := G8.row d rd erd
    have at0 : atI ((f d).map V.int) 0 = some (.int x0) := atI_int (Int.le_refl _) (by rw [List.getElem?_map]; show Option.map V.int (f d)[0]? = _; rw [ex0]; rfl)
    have atb : atI ((f d).map V.int) (b : Int) = some (.int xb) := atI_nat (by rw [List.getElem?_map, exb]; rfl)
    refine ⟨_, rfl, _, rfl, _, rfl, _, rfl, g, _, _, _, rfl, rfl, .inl (.inl G8.top), at1, rd, _, _, _, rfl, rfl, .inl (.inl hrd8), at0, _, rfl, _, rfl, g, _, _, _, rfl, rfl, .inl (.inl G8.top), at1, _, rfl, rd, _, _, _, rfl, rfl, .inl (.inl hrd8), atb, by show 4 ≤ sizeLine; decide, fun l4 nl4 => ?_⟩
    have l4p : l4 ≠ p := hJ8.ne nl4
    have hJ9 := hJ8.same (same_new (o := .lst [.int n, .int m, .int x0, .int xb]) nl4)
    have k9 : Kp p H (upd H8 l4 (.lst [.int n, .int m, .int x0, .int xb])) := k8.trans (kp_new nl4)
    have e39 : upd H8 l4 (.lst [.int n, .int m, .int x0, .int xb]) l3 = _ := (same_new nl4) _ _ e38
    have e49 : upd H8 l4 (.lst [.int n, .int m, .int x0, .int xb]) l4 = some (.lst ([(n : Int), (m : Int), x0, xb].map V.int)) := upd_same
    generalize upd H8 l4 (.lst [.int n, .int m, .int x0, .int xb]) = H9 at hJ9 k9 e39 e49 ⊢
    refine ⟨_, rfl, _, rfl, p, m, B + 1 + 1, rfl, hJ9, by omega, by omega, lt3000 (by omega), fun H10 ls b10 hJ10 ls0 ls1 => ⟨_, _, rfl, rfl, ?_⟩⟩
    obtain ⟨le, rfl⟩ := Int.eq_ofNat_of_zero_le ls0
    have k10 := k9.trans b10.kp
    have e310 := (b10 l3 l3p).trans e39
    have e410 := (b10 l4 l4p).trans e49
    have G10 := G.kp k10 gp pr
    refine ⟨_, rfl, g, rfl, ⟨_, .inl (.inl G10.top)⟩, fun D nD => ?_⟩
    refine lc_it (walk_list (xs := rows.map V.ref)) (fun i H2 => Same H10 H2 ∧ ∃ rs, GridAt H2 D rs i (fun s => (f s).take (le + 1))) ?_ ?_ ?_ ?_
    · exact ⟨same_new nD, [], gridAt_nil upd_same⟩
    · rintro i H2 _ ⟨s2, _⟩
      exact .inl (.inl (s2 _ _ G10.top))
    · rintro i v _ H2 hi ⟨s2, rs, G2⟩ ⟨rfl, ev⟩
      rw [rl] at hi
      obtain ⟨r, er, hr', hrow⟩ := G10.get (s := i) hi
      rw [List.getElem?_map, er] at ev
      cases ev
      refine ⟨rfl, yes_if ⟨_, rfl, ?_⟩⟩
      unfold tNoPart
      refine ⟨_, rfl, _, rfl, r, _, rfl, .inl (.inl (s2 _ _ hrow)), fun z nz => ?_⟩
      obtain ⟨a1, a2, a3, a4⟩ := grow_step (l := cutV ((f i).map V.int) none (some (1 + (le : Int)))) s2 nD G2 nz (by rw [show (1 : Int) + (le : Int) = ((le + 1 : Nat) : Int) by omega, cut_to, ← List.map_take]) (by omega)
      exact ⟨_, a1, a2, a3, _, a4⟩
    · rintro H11 ⟨s11, rs, G11⟩
      rw [rl] at G11
      have e311 := s11 _ _ e310
      have e411 := s11 _ _ e410
      have nums : ∀ x ∈ [(n : Int), (m : Int), x0, xb], Num x := by
        have hx := hN d hd
        intro x hxx
        simp only [List.mem_cons, List.not_mem_nil, or_false] at hxx
        rcases hxx with rfl | rfl | rfl | rfl
        · exact num_small (by omega) (by omega)
        · exact num_small (by omega) (by omega)
        · exact hx _ (List.mem_of_getElem? ex0)
        · exact hx _ (List.mem_of_getElem? exb)
      have sf : Sho ((100 + 1) * 10) (.list ([(n : Int), (m : Int), x0, xb].map .int)) := sho_flat nums (by show 4 ≤ 10; decide)
      have fd' : PyData.depth (.list ([(n : Int), (m : Int), x0, xb].map .int)) ≤ 64 := Nat.le_trans (shp_ints 0 _).2 (by decide)
      refine ⟨_, rfl, l3, _, rfl, lst_dp e311, fd', sf.sh, sf.nd, sho_len sf flat_line, _, rfl, l4, _, rfl, lst_dp e411, fd', sf.sh, sf.nd, sho_len sf flat_line, rfl, _, rfl, iteNe rfl ?_⟩
      have k11 : Kp p H H11 := k10.trans (kp_same s11)
      refine ⟨_, rfl, _, rfl, g, n, m, le + 1, f, by rw [show ((le + 1 : Nat) : Int) = 1 + (le : Int) by omega]; rfl, ⟨⟨rows, G.kp k11 gp pr⟩, hf⟩, by omega, by omega, fun H12 g2 rows2 s12 _ _ G12 => ?_⟩
      refine ⟨_, rfl, _, _, G12.dp, (G11.same s12).dp, (gridD_shp 0 n _).shaped (by decide), (gridD_shp 0 n _).shaped (by decide), _, rfl, iteN0 (eqv_same _ (gridD_shp 0 n _).1) ?_⟩
      have k12 : Kp p H H12 := k11.trans (kp_same s12)
      refine ⟨_, rfl, g, gridD n f, rfl, (G.kp k12 gp pr).dp, gd, sg.sh, sg.nd, sho_len sg grid_line, _, rfl, rfl, ?_⟩
      show Q (V.bl (decide (V.str (gridD n f).shown = V.str (gridD n f).shown))) H12
      rw [decide_eq_true rfl]
      exact q H12 k12 (((hJ10.same s11).same s12).mono (by omega))
end
end K01

set_option maxHeartbeats 0
namespace K01
open PySem PySem.Spec PyProof.Rows L2 Fa
abbrev s__law_right : Stmt := topS 44
abbrev N__law_right : List Str := ["jar", "some", "count_here", "wide", "before", "due", "told", "turn", "end", "begin", "number_here", "less", "narrow"]
theorem sc__law_right : FnScope N__law_right ["jar", "some", "count_here", "wide"] (defScope s__law_right) := ⟨rfl, rfl, rfl, by decide +kernel, rfl, by decide +kernel, by decide +kernel⟩
section
variable {P : Program} {w : World} {K : PySem.W.Frag} {mg : Str → Option Value} {base : Heap}
variable {k : Nat} {fDip fUnl fShe fNew fSo fDi fWi fVi fUn fNa : Addr} {dDip dUnl dShe dNew dSo dDi dWi dVi dUn dNa : FuncData}
theorem ok_right {f : Addr} {fd : FuncData} (F : Fun K "_law_right" "_law_right" s__law_right f fd) (Z : Env1 P w K mg base k fDip fUnl fShe fNew fSo fDi fWi fVi fUn fNa dDip dUnl dShe dNew dSo dDi dWi dVi dUn dNa) : FnG P w K mg base (k + 1) f fd ["jar", "some", "count_here", "wide"] spRight := by
  obtain ⟨F__law_dip, G__law_dip, b__law_dip, g__law_dip, F__law_unlike, G__law_unlike, b__law_unlike, g__law_unlike, F__law_sheet, G__law_sheet, b__law_sheet, g__law_sheet, F__law_new_right, G__law_new_right, b__law_new_right, g__law_new_right, F_sheet_of, G_sheet_of, b_sheet_of, g_sheet_of, F_days_in, G_days_in, b_days_in, g_days_in,
    F_width_in, G_width_in, b_width_in, g_width_in, F_visits_of, G_visits_of, b_visits_of, g_visits_of, F_unlike_of, G_unlike_of, b_unlike_of, g_unlike_of, F_narrowed_sheet, G_narrowed_sheet, b_narrowed_sheet, g_narrowed_sheet, m_repr, m_len, m_list, m_min, m_range⟩ := Z
  refine funG F sc__law_right (fun vs H Q E h => ?_) (fun cdv A outer s H vs Q E hr ng h => ?_)
  · obtain ⟨p, a, _, _, _, _, rfl, _⟩ := h
    rfl
  · obtain ⟨p, a, fam, n, wd, B, rfl, hJ, hB, hF, ap, hO, hU, w1, wn, q⟩ := h
    refine ⟨_, (pss_cons (ps_par (i := 4) (j := 5) rfl sc__law_right.nd rfl rfl (by decide) rfl rfl (pa_cons (pe_callTy (Fa.lstQ K) (by rfl) m_list PyProof.Rows.boot_list (pa_cons (pv 1) pa_nil)) (pa_cons (pe_call G__law_sheet (hr.mono (by omega)) (by rfl) g__law_sheet F__law_sheet.kp b__law_sheet .nil pass0 (pa_cons (pv 1) (pa_cons (pv 2) (pa_cons (pv 3) pa_nil)))) pa_nil)) rfl)
  (pss_cons (ps_set (i := 6) sc__law_right.nd rfl (by first | exact Or.inl rfl | exact Or.inr rfl) (Fa.pe_callGK (FnG.of G_sheet_of) (hr.mono (by omega)) ng (by rfl) g_sheet_of F_sheet_of.kp (Fa.kbRev (ks := ["width", "count", "family"]) F_sheet_of (fun _ _ _ _ _ _ us ws hu hw => match us, ws, hu, hw with | [], [_, _, _], _, _ => rfl)) (pk_cons (pv 3) (pk_cons (pv 2) (pk_cons (pv 1) pk_nil)))))
  (pss_cons (ps_if (PW.pt (pw_or (pt_cmpR op_ne (pe_callB (Fa.reprQ K ng (Fa.un66 hr)) (by rfl) m_repr Fa.b_repr (pa_cons (pv 6) pa_nil)) (pe_callB (Fa.reprQ K ng (Fa.un66 hr)) (by rfl) m_repr Fa.b_repr (pa_cons (pv 5) pa_nil)) (nomark _)) (pw_or (pt_cmpR (Fa.neQ K hr.units) (pv 1) (pv 4) (nomark _)) (pw_or1 (pt_not (pt_val (pe_call G__law_new_right (hr.mono (by omega)) (by rfl) g__law_new_right F__law_new_right.kp b__law_new_right .nil pass0 (pa_cons (pv 6) (pa_cons (pv 5) pa_nil))))))))) (pss_one (ps_ret pe_bl)) pss_nil)
  (pss_cons (ps_set (i := 6) sc__law_right.nd rfl (by first | exact Or.inl rfl | exact Or.inr rfl) (pe_call G_sheet_of (hr.mono (by omega)) (by rfl) g_sheet_of F_sheet_of.kp b_sheet_of .nil pass0 (pa_cons (pv 1) (pa_cons (pv 2) (pa_cons (pv 3) pa_nil)))))
  (pss_cons (ps_if (pt_cmpR op_ne (pe_callB (Fa.reprQ K ng (Fa.un66 hr)) (by rfl) m_repr Fa.b_repr (pa_cons (pe_lst (pa_cons (Fa.pe_callGK (FnG.of G_days_in) (hr.mono (by omega)) ng (by rfl) g_days_in F_days_in.kp (Fa.kbRev (ks := ["sheet"]) F_days_in (fun _ _ _ _ _ _ us ws hu hw => match us, ws, hu, hw with | [], [_], _, _ => rfl)) (pk_cons (pv 6) pk_nil)) (pa_cons (Fa.pe_callGK (FnG.of G_width_in) (hr.mono (by omega)) ng (by rfl) g_width_in F_width_in.kp (Fa.kbRev (ks := ["sheet"]) F_width_in (fun _ _ _ _ _ _ us ws hu hw => match us, ws, hu, hw with | [], [_], _, _ => rfl)) (pk_cons (pv 6) pk_nil)) pa_nil))) pa_nil)) (pe_callB (Fa.reprQ K ng (Fa.un66 hr)) (by rfl) m_repr Fa.b_repr (pa_cons (pe_lst (pa_cons (pv 2) (pa_cons (pv 3) pa_nil))) pa_nil)) (nomark _)) (pss_one (ps_ret pe_bl)) pss_nil)
  (pss_cons (ps_for PassesOwn.never rfl (pi_range1 (by rfl) m_range (pa_cons pe_int pa_nil)) (pg_name (i := 7) sc__law_right.nd rfl (by first | exact Or.inl rfl | exact Or.inr rfl)) (pss_cons (ps_set (i := 8) sc__law_right.nd rfl (by first | exact Or.inl rfl | exact Or.inr rfl) (pe_call G__law_dip (hr.mono (by omega)) (by rfl) g__law_dip F__law_dip.kp b__law_dip .nil pass0 (pa_cons (pv 0) (pa_cons (pv 2) pa_nil))))
  (pss_cons (ps_set (i := 9) sc__law_right.nd rfl (by first | exact Or.inl rfl | exact Or.inr rfl) (pe_op op_sub (pv 8) (pe_call G__law_dip (hr.mono (by omega)) (by rfl) g__law_dip F__law_dip.kp b__law_dip .nil pass0 (pa_cons (pv 0) (pa_cons (pe_callB (call_min2 rfl) (by rfl) m_min PyProof.Rows.boot_min (pa_cons (pe_op op_add (pv 8) pe_int) (pa_cons (pv 3) pa_nil))) pa_nil)))))
  (pss_cons (ps_set (i := 10) sc__law_right.nd rfl (by first | exact Or.inl rfl | exact Or.inr rfl) (Fa.pe_callGK (FnG.of G_unlike_of) (hr.mono (by omega)) ng (by rfl) g_unlike_of F_unlike_of.kp (Fa.kbRev (ks := ["last", "first", "sheet"]) F_unlike_of (fun _ _ _ _ _ _ us ws hu hw => match us, ws, hu, hw with | [], [_, _, _], _, _ => rfl)) (pk_cons (pv 8) (pk_cons (pv 9) (pk_cons (pv 6) pk_nil)))))
  (pss_cons (ps_if (pt_cmpR op_ne (pe_callB SkE.call_repr_int (by rfl) m_repr Fa.b_repr (pa_cons (pv 10) pa_nil)) (pe_callB SkE.call_repr_int (by rfl) m_repr Fa.b_repr (pa_cons (pe_call G__law_unlike (hr.mono (by omega)) (by rfl) g__law_unlike F__law_unlike.kp b__law_unlike .nil pass0 (pa_cons (pv 1) (pa_cons (pv 9) (pa_cons (pv 8) pa_nil)))) pa_nil)) (nomark _)) (pss_one (ps_ret pe_bl)) pss_nil)
  (pss_one (ps_if (pt_cmpR op_ne (pe_callB SkE.call_repr_int (by rfl) m_repr Fa.b_repr (pa_cons (Fa.pe_callGK (FnG.of G_visits_of) (hr.mono (by omega)) ng (by rfl) g_visits_of F_visits_of.kp (Fa.kbRev (ks := ["day", "sheet"]) F_visits_of (fun _ _ _ _ _ _ us ws hu hw => match us, ws, hu, hw with | [], [_, _], _, _ => rfl)) (pk_cons (pv 8) (pk_cons (pv 6) pk_nil))) pa_nil)) (pe_callB SkE.call_repr_int (by rfl) m_repr Fa.b_repr (pa_cons (pe_call G__law_unlike (hr.mono (by omega)) (by rfl) g__law_unlike F__law_unlike.kp b__law_unlike .nil pass0 (pa_cons (pv 1) (pa_cons (pv 8) (pa_cons (pv 8) pa_nil)))) pa_nil)) (nomark _)) (pss_one (ps_ret pe_bl)) pss_nil)))))))
  (pss_cons (ps_set (i := 11) sc__law_right.nd rfl (by first | exact Or.inl rfl | exact Or.inr rfl) (pe_op op_add pe_int (pe_call G__law_dip (hr.mono (by omega)) (by rfl) g__law_dip F__law_dip.kp b__law_dip .nil pass0 (pa_cons (pv 0) (pa_cons (pv 3) pa_nil)))))
  (pss_cons (ps_set (i := 12) sc__law_right.nd rfl (by first | exact Or.inl rfl | exact Or.inr rfl) (Fa.pe_callGK (FnG.of G_narrowed_sheet) (hr.mono (by omega)) ng (by rfl) g_narrowed_sheet F_narrowed_sheet.kp (Fa.kbRev (ks := ["width", "sheet"]) F_narrowed_sheet (fun _ _ _ _ _ _ us ws hu hw => match us, ws, hu, hw with | [], [_, _], _, _ => rfl)) (pk_cons (pv 11) (pk_cons (pv 6) pk_nil))))
  (pss_cons (ps_if (pt_cmpR op_ne (pe_callB (Fa.reprQ K ng (Fa.un66 hr)) (by rfl) m_repr Fa.b_repr (pa_cons (pv 12) pa_nil)) (pe_callB (Fa.reprQ K ng (Fa.un66 hr)) (by rfl) m_repr Fa.b_repr (pa_cons (pe_call G__law_sheet (hr.mono (by omega)) (by rfl) g__law_sheet F__law_sheet.kp b__law_sheet .nil pass0 (pa_cons (pv 1) (pa_cons (pv 2) (pa_cons (pv 11) pa_nil)))) pa_nil)) (nomark _)) (pss_one (ps_ret pe_bl)) pss_nil)
  (pss_one (ps_ret (pe_and (pe_call G__law_new_right (hr.mono (by omega)) (by rfl) g__law_new_right F__law_new_right.kp b__law_new_right .nil pass0 (pa_cons (pv 12) (pa_cons (pe_call G__law_sheet (hr.mono (by omega)) (by rfl) g__law_sheet F__law_sheet.kp b__law_sheet .nil pass0 (pa_cons (pv 1) (pa_cons (pv 2) (pa_cons (pv 11) pa_nil)))) pa_nil))) (pe_one (pe_cmpR (Fa.eqQ K hr.units) (pv 6) (pv 5) (nomark _))))))))))))))), ?_⟩
    have n30 : n ≤ 30 := by have := hO.2.2; omega
    have hp : ∀ p ∈ fam, Pat n p.1 := by
      obtain ⟨⟨c, hf⟩, _⟩ := hO
      exact hf.pat
    have pl : ∀ p ∈ fam, p.1.length ≤ 100 := fun q hq => by
      have := (hp q hq).len
      omega
    have hf : Shf n wd (fun s => shRow fam s wd) := shRow_shf hU (by omega) n30 w1 wn
    have sg := sho_sh hU n30 wd
    have gd := grid_dep n fun s => shRow fam s wd
    obtain ⟨xs, ea, hP⟩ := id hF
    refine ⟨_, rfl, a, _, rfl, .inl (.inl (.inl ea)), fun l nl => ⟨_, rfl, _, rfl, _, rfl, a, fam, n, wd, rfl, hF.same (same_new nl), hp, n30, by omega, fun H1 gD rD s1' ngD nrD GD => ⟨_, _, rfl, ?_⟩⟩⟩
    have s1 : Same H H1 := (same_new nl).trans s1'
    have el : H1 l = some (.lst xs) := s1' _ _ upd_same
    have hF1 := hF.same s1
    have hL1 : FamAt H1 l fam := ⟨xs, el, Paired.mapP hP fun _ _ z => z.keep fun b us h => s1 _ _ h⟩
    have hJ1 := hJ.same s1
    have gDp : gD ≠ p := (hJ.same (same_new (o := .lst xs) nl)).ne ngD
    have rDp : p ∉ rD := fun z => (hJ.same (same_new (o := .lst xs) nl)).ne (nrD p z) rfl
    refine ⟨_, rfl, _, rfl, _, rfl, rfl, a, fam, n, wd, rfl, hF1, hO, w1, wn, fun H2 gT rT s2 ngT nrT GT => ?_⟩
    have GD2 := GD.same s2
    have ngDT : gD ∉ rT := fun z => by
      have := nrT gD z
      rw [GD.top] at this
      cases this
    have nrDT : ∀ r ∈ rD, r ∉ rT := fun r hr z => by
      obtain ⟨j, hj, e⟩ := List.mem_iff_getElem.mp hr
      have := GD.row j r (by rw [List.getElem?_eq_getElem hj, e])
      rw [nrT r z] at this
      cases this
    refine ⟨_, rfl, gT, _, rfl, GT.dp, gd, sg.sh, sg.nd, sho_len sg grid_line, _, rfl, gD, _, rfl, GD2.dp, gd, sg.sh, sg.nd, sho_len sg grid_line, rfl, _, rfl, iteNe rfl ?_⟩
    refine ⟨_, rfl, _, rfl, famD fam, famD fam, (hF1.same s2).dp, (hL1.same s2).dp, (famD_shp fam).shaped (by decide), (famD_shp fam).shaped (by decide), _, rfl, iteN0 (eqv_same _ (famD_shp fam).1) ?_⟩
    refine ⟨_, rfl, _, rfl, gT, gD, rT, rD, n, _, rfl, GT, GD2, n30, fun s hs => by rw [shRow_len]; omega, ngDT, nrDT, fun H3 off3 => ⟨_, rfl, iteN0 rfl ?_⟩⟩
    have s13 : Same H1 H3 := off_new s2 off3 nrT
    have hJ3 := hJ1.same s13
    refine ⟨_, rfl, _, rfl, _, rfl, a, fam, n, wd, rfl, hF1.same s13, hO, w1, wn, fun H4 g4 r4 s4 ng4 nr4 G4 => ?_⟩
    have g4p : g4 ≠ p := hJ3.ne ng4
    have r4p : p ∉ r4 := fun z => hJ3.ne (nr4 p z) rfl
    have num2 : ∀ x ∈ [(n : Int), (wd : Int)], Num x := by
      intro x hx
      simp only [List.mem_cons, List.not_mem_nil, or_false] at hx
      rcases hx with rfl | rfl
      · exact num_small (by omega) (by omega)
      · exact num_small (by omega) (by omega)
    have sf : Sho ((100 + 1) * 10) (.list ([(n : Int), (wd : Int)].map .int)) := sho_flat num2 (by show 2 ≤ 10; decide)
    have fd' : PyData.depth (.list ([(n : Int), (wd : Int)].map .int)) ≤ 64 := Nat.le_trans (shp_ints 0 _).2 (by decide)
    refine ⟨_, rfl, rfl, g4, n, wd, _, rfl, ⟨⟨r4, G4⟩, hf⟩, fun H5 s5 => ⟨_, rfl, rfl, g4, n, wd, _, rfl, ⟨⟨r4, G4.same s5⟩, hf⟩, fun H6 s6 => ⟨by show 2 ≤ sizeLine; decide, fun l1 nl1 => ?_⟩⟩⟩
    refine ⟨l1, _, rfl, lst_dp (l := [(n : Int), (wd : Int)]) upd_same, fd', sf.sh, sf.nd, sho_len sf flat_line, _, rfl, _, rfl, by show 2 ≤ sizeLine; decide, fun l2 nl2 => ⟨l2, _, rfl, lst_dp (l := [(n : Int), (wd : Int)]) upd_same, fd', sf.sh, sf.nd, sho_len sf flat_line, rfl, _, rfl, iteNe rfl ?_⟩⟩
    have s47 : Same H4 (upd (upd H6 l1 (.lst [.int n, .int wd])) l2 (.lst [.int n, .int wd])) := ((s5.trans s6).trans (same_new nl1)).trans (same_new nl2)
    generalize upd (upd H6 l1 (.lst [.int n, .int wd])) l2 (.lst [.int n, .int wd]) = H7 at s47 ⊢
    have s17 : Same H1 H7 := (s13.trans s4).trans s47
    have G7 := G4.same s47
    have GD7 := GD.same s17
    have hF7 := hF1.same s17
    have hJ7 := hJ1.same s17
    obtain ⟨pa, pb, pc, hp7, _⟩ := id hJ7
    refine ⟨4, rfl, by decide, by decide, ?_⟩
    refine for_range (lo := 0) (fun i σ H' => Kp p H7 H' ∧ JarAt H' p (B + 2 * i) ∧ ∃ x7 x8 x9 x10, σ = [some (.ref p), some (.ref a), some (.int n), some (.int wd), some (.ref l), some (.ref gD), some (.ref g4), x7, x8, x9, x10, none, none]) ?_ ?_ ?_
    · exact ⟨Kp.refl _ _, hJ7.mono (by omega), none, none, none, none, rfl⟩
    · rintro i σ H8 hi ⟨k8, hJ8, x7, x8, x9, x10, rfl⟩
      have i4 : i < 4 := hi
      refine ⟨_, rfl, _, rfl, p, n, B + 2 * i, rfl, hJ8, by omega, by omega, lt3000 (by omega), fun H9 e b9 hJ9 e0 e1 => ?_⟩
      obtain ⟨d, rfl⟩ := Int.eq_ofNat_of_zero_le e0
      have hd : d < n := by omega
      have mn : (if (wd : Int) < (d : Int) + 1 then (wd : Int) else (d : Int) + 1) = ((min (d + 1) wd : Nat) : Int) := by
        split <;> omega
      refine ⟨_, rfl, _, rfl, _, rfl, _, _, rfl, rfl, _, rfl, _, _, rfl, p, _, B + 2 * i + 1, rfl, hJ9, by omega, by rw [mn]; omega, lt3000 (by rw [mn]; omega), fun H10 bk b10 hJ10 bk0 bk1 => ⟨_, _, rfl, rfl, ?_⟩⟩
      rw [mn] at bk1
      obtain ⟨b, rfl⟩ := Int.eq_ofNat_of_zero_le bk0
      have hb : b < min (d + 1) wd := by omega
      have k10 : Kp p H7 H10 := (k8.trans b9.kp).trans b10.kp
      have G10 := G7.kp k10 g4p r4p
      have hF10 := hF7.kp k10 ap hp7
      have nx : Num (unl fam ((d : Int) - (b : Int)) d) := hU _ _
      have ny : Num (unl fam (d : Int) d) := hU _ _
      have lx : (unl fam ((d : Int) - (b : Int)) d).natAbs.log2 < 1920 := Nat.lt_trans nx.log (by decide)
      have ly : (unl fam (d : Int) d).natAbs.log2 < 1920 := Nat.lt_trans ny.log (by decide)
      refine ⟨_, rfl, _, rfl, _, rfl, rfl, g4, n, wd, _, (d : Int) - (b : Int), d, _, rfl, ⟨⟨r4, G10⟩, hf⟩, by omega, by omega, by omega, by omega, by rw [show ((d : Int) - ((d : Int) - (b : Int))).toNat = b by omega]; exact shRow_at hb, fun H11 s11 => ?_⟩
      refine ⟨_, rfl, _, rfl, lx, _, rfl, _, rfl, _, rfl, a, fam, (d : Int) - (b : Int), d, rfl, hF10.same s11, pl, fun H12 s12 => ⟨_, rfl, lx, rfl, _, rfl, iteNe rfl ?_⟩⟩
      have s112 := s11.trans s12
      refine ⟨_, rfl, _, rfl, rfl, g4, n, wd, _, d, unl fam (d : Int) d, rfl, ⟨⟨r4, G10.same s112⟩, hf⟩, by omega, by omega, ?_, fun H13 s13' => ?_⟩
      · have := shRow_at (fam := fam) (d := d) (w := wd) (k := 0) (by omega)
        rw [show (d : Int) - ((0 : Nat) : Int) = d by omega] at this
        exact this
      refine ⟨_, rfl, ly, _, rfl, _, rfl, _, rfl, a, fam, d, d, rfl, hF10.same (s112.trans s13'), pl, fun H14 s14 => ⟨_, rfl, ly, rfl, _, rfl, iteNe rfl ?_⟩⟩
      have s1014 := (s112.trans s13').trans s14
      exact ⟨k10.trans (kp_same s1014), (hJ10.same s1014).mono (by omega), _, _, _, _, rfl⟩
    · rintro σ H8 ⟨k8, hJ8, x7, x8, x9, x10, rfl⟩
      have k8H : Kp p H H8 := (kp_same (s1.trans s17)).trans k8
      refine ⟨_, rfl, _, rfl, p, wd, B + 2 * 4, rfl, hJ8, by omega, by omega, lt3000 (by omega), fun H9 ls b9 hJ9 ls0 ls1 => ⟨_, _, rfl, rfl, ?_⟩⟩
      obtain ⟨le, rfl⟩ := Int.eq_ofNat_of_zero_le ls0
      have k9 : Kp p H7 H9 := k8.trans b9.kp
      have hle : le + 1 ≤ wd := by omega
      have eq1 : ((le + 1 : Nat) : Int) = 1 + (le : Int) := by omega
      have G9 := G7.kp k9 g4p r4p
      have GD9 := GD7.kp k9 gDp rDp
      have hF9 := hF7.kp k9 ap hp7
      refine ⟨_, rfl, _, rfl, rfl, g4, n, wd, le + 1, _, by rw [eq1]; rfl, ⟨⟨r4, G9⟩, hf⟩, by omega, hle, fun H10 g5 r5 s10 ng5 nr5 G5' => ?_⟩
      have G5 : GridAt H10 g5 r5 n (fun s => shRow fam s (le + 1)) := G5'.ext fun s _ => shRow_take hle
      have sg5 := sho_sh hU n30 (le + 1)
      have gd5 := grid_dep n fun s => shRow fam s (le + 1)
      refine ⟨_, rfl, g5, _, rfl, G5.dp, gd5, sg5.sh, sg5.nd, sho_len sg5 grid_line, _, rfl, _, rfl, _, rfl, a, fam, n, le + 1, by rw [eq1]; rfl, hF9.same s10, hp, n30, by omega, fun H11 g6 r6 s11 ng6 nr6 G6 => ⟨g6, _, rfl, G6.dp, gd5, sg5.sh, sg5.nd, sho_len sg5 grid_line, rfl, _, rfl, iteNe rfl ?_⟩⟩
      refine ⟨_, rfl, _, rfl, _, rfl, _, rfl, a, fam, n, le + 1, by rw [eq1]; rfl, hF9.same (s10.trans s11), hp, n30, by omega, fun H12 g7 r7 s12 ng7 nr7 G7n => ?_⟩
      have G5b := G5.same (s11.trans s12)
      have ng75 : g7 ∉ r5 := fun z => by
        obtain ⟨j, hj, e⟩ := List.mem_iff_getElem.mp z
        have := s11 _ _ (G5.row j g7 (by rw [List.getElem?_eq_getElem hj, e]))
        rw [ng7] at this
        cases this
      have nr75 : ∀ r ∈ r7, r ∉ r5 := fun r hr z => by
        obtain ⟨j, hj, e⟩ := List.mem_iff_getElem.mp z
        have := s11 _ _ (G5.row j r (by rw [List.getElem?_eq_getElem hj, e]))
        rw [nr7 r hr] at this
        cases this
      refine ⟨g5, g7, r5, r7, n, _, rfl, G5b, G7n, n30, fun s hs => by rw [shRow_len]; omega, ng75, nr75, fun H13 off => ⟨_, rfl, iteT ?_⟩⟩
      have s913 : Same H9 H13 := off_new (s10.trans (s11.trans s12)) off nr5
      refine ⟨_, rfl, _, rfl, _, _, (G9.same s913).dp, (GD9.same s913).dp, (gridD_shp 0 n _).shaped (by decide), (gridD_shp 0 n _).shaped (by decide), ?_⟩
      rw [eqv_same _ (gridD_shp 0 n _).1]
      exact q H13 ((k8H.trans b9.kp).trans (kp_same s913)) ((hJ9.same s913).mono (by omega))
end
end K01

/-! written lists: of numbers, of rows, of sheets -/
namespace Fa
open PySem PySem.Spec PyProof.Rows L2
def lits : List Int → TA
  | [] => tNil
  | n :: r => tCons (tC (.int n)) (lits r)
theorem lits_ok : ∀ (ns : List Int) (σ : L2.St) (H : Hp) (Q : List V → Hp → Prop), Q (ns.map V.int) H → lits ns σ H Q
  | [], _, _, _, q => q
  | n :: r, σ, H, Q, q => lits_ok r σ H (fun xs H2 => Q (.int n :: xs) H2) q
theorem litI {ns : List Int} {σ : L2.St} {H : Hp} {Q : VK} (hl : ns.length ≤ 900) (q : ∀ H' l, Same H H' → H l = none → H' l = some (.lst (ns.map V.int)) → Q (.ref l) H') : tLst (lits ns) σ H Q :=
  lits_ok ns σ H _ ⟨by rw [List.length_map]; exact Nat.le_of_lt (small1000 (by omega)), fun l nl => q _ l (same_new nl) nl upd_same⟩
def glits : List (List Int) → TA
  | [] => tNil
  | ns :: r => tCons (tLst (lits ns)) (glits r)
theorem glits_ok : ∀ (nss : List (List Int)) (σ : L2.St) (H : Hp) (Q : List V → Hp → Prop), (∀ ns ∈ nss, ns.length ≤ 900) →
    (∀ (H' : Hp) (rows : List Addr), Same H H' → (∀ r ∈ rows, H r = none) → rows.length = nss.length → rows.Nodup → (∀ (s : Nat) (r : Addr), rows[s]? = some r → H' r = some (.lst ((nss.getD s []).map V.int))) → Q (rows.map V.ref) H') → glits nss σ H Q
  | [], _, H, _, _, q => q H [] (Same.refl H) (fun _ z => (List.not_mem_nil z).elim) rfl List.nodup_nil fun s r e => by cases e
  | ns :: r, σ, H, Q, h, q => by
    show tLst (lits ns) σ H (fun x H1 => glits r σ H1 fun xs H2 => Q (x :: xs) H2)
    refine litI (h ns List.mem_cons_self) fun H1 l s1 nl e1 => ?_
    refine glits_ok r σ H1 _ (fun x hx => h x (List.mem_cons_of_mem _ hx)) fun H2 rows s2 fr cnt nd row => ?_
    refine q H2 (l :: rows) (s1.trans s2) (fun x hx => ?_) (by rw [List.length_cons, cnt]; rfl) (List.nodup_cons.mpr ⟨fun z => ?_, nd⟩) fun s x e => ?_
    · rcases List.mem_cons.mp hx with rfl | hx
      · exact nl
      · exact s1.free (fr x hx)
    · have := fr l z
      rw [e1] at this
      cases this
    · cases s with
      | zero =>
        cases e
        exact s2 _ _ e1
      | succ s => exact row s x e
def litF (nss : List (List Int)) : Nat → List Int := fun s => nss.getD s []
def litD (nss : List (List Int)) : PyData := gridD nss.length (litF nss)
theorem litG {nss : List (List Int)} {σ : L2.St} {H : Hp} {Q : VK} (hl : nss.length ≤ 900) (h : ∀ ns ∈ nss, ns.length ≤ 900)
    (q : ∀ H' g rows, Same H H' → H g = none → (∀ r ∈ rows, H r = none) → GridAt H' g rows nss.length (litF nss) → Q (.ref g) H') : tLst (glits nss) σ H Q := by
  refine glits_ok nss σ H _ h fun H1 rows s1 fr cnt nd row => ⟨by rw [List.length_map, cnt]; exact Nat.le_of_lt (small1000 (by omega)), fun g ng => ?_⟩
  have out : g ∉ rows := fun z => by
    obtain ⟨j, hj, e⟩ := List.mem_iff_getElem.mp z
    have := row j g (by rw [List.getElem?_eq_getElem hj, e])
    rw [ng] at this
    cases this
  exact q _ g rows (s1.trans (same_new ng)) (s1.free ng) fr ⟨upd_same, cnt, nd, out, fun s r e => (same_new ng) _ _ (row s r e)⟩
def gglits : List (List (List Int)) → TA
  | [] => tNil
  | g :: r => tCons (tLst (glits g)) (gglits r)
theorem gglits_ok {K : PySem.W.Frag} : ∀ (gs : List (List (List Int))) (σ : L2.St) (H : Hp) (Q : List V → Hp → Prop), (∀ g ∈ gs, g.length ≤ 900 ∧ ∀ ns ∈ g, ns.length ≤ 900) →
    (∀ (H' : Hp) (xs : List V), Same H H' → xs.length = gs.length → DpAll K H' xs (gs.map litD) → Q xs H') → gglits gs σ H Q
  | [], _, H, _, _, q => q H [] (Same.refl H) rfl .nil
  | g :: r, σ, H, Q, h, q => by
    obtain ⟨h1, h2⟩ := h g List.mem_cons_self
    show tLst (glits g) σ H (fun x H1 => gglits r σ H1 fun xs H2 => Q (x :: xs) H2)
    refine litG h1 h2 fun H1 a rows s1 _ _ G => ?_
    refine gglits_ok (K := K) r σ H1 _ (fun x hx => h x (List.mem_cons_of_mem _ hx)) fun H2 xs s2 l d => ?_
    exact q H2 (.ref a :: xs) (s1.trans s2) (by rw [List.length_cons, l]; rfl) (.cons ((G.same s2).dp) d)
theorem litGG {K : PySem.W.Frag} {gs : List (List (List Int))} {σ : L2.St} {H : Hp} {Q : VK} (hl : gs.length ≤ 900) (h : ∀ g ∈ gs, g.length ≤ 900 ∧ ∀ ns ∈ g, ns.length ≤ 900)
    (q : ∀ H' l, Same H H' → Dp K H' (.ref l) (.list (gs.map litD)) → Q (.ref l) H') : tLst (gglits gs) σ H Q := by
  refine gglits_ok (K := K) gs σ H _ h fun H1 xs s1 l d => ⟨by rw [l]; exact Nat.le_of_lt (small1000 (by omega)), fun g ng => ?_⟩
  exact q _ g (s1.trans (same_new ng)) (.lst (.inl (.inl upd_same)) (DpAll.same (same_new ng) _ _ d))
theorem nw {H : Hp} {p : Addr} {o : HO} (n : H p = none) : Same H (upd H p o) ∧ upd H p o p = some o := ⟨same_new n, upd_same⟩
end Fa

set_option maxHeartbeats 0
namespace K01
open PySem PySem.Spec PyProof.Rows L2 Fa
abbrev s_law : Stmt := topS 46
abbrev N_law : List Str := ["script", "k", "jar", "turn", "count_here", "some", "wide", "told", "none"]
theorem sc_law : FnScope N_law ["script"] (defScope s_law) := ⟨rfl, rfl, rfl, by decide +kernel, rfl, by decide +kernel, by decide +kernel⟩
section
variable {P : Program} {w : World} {K : PySem.W.Frag} {mg : Str → Option Value} {base : Heap}
variable {k : Nat} {fDip fUnl fShe fNew fSo fDi fWi fVi fUn fNa fJ fF fB fR fA : Addr} {dDip dUnl dShe dNew dSo dDi dWi dVi dUn dNa dJ dF dB dR dA : FuncData}
abbrev cBig : Int := 14400000000000000000000000000
theorem unl_bd {n m : Int} {fam : Fm} (h : Fam n (100000000000000000000000000 * m) fam) (l : (fam.length : Int) ≤ m) (m12 : m ≤ 12) (b e : Int) : 0 ≤ unl fam b e ∧ unl fam b e ≤ cBig := by
  refine ⟨unl_nonneg (fun p hp => by have := (h.bd p hp).1; omega) b e, ?_⟩
  have a := unl_le (c := 100000000000000000000000000 * m) (fun p hp => ⟨by have := (h.bd p hp).1; omega, (h.bd p hp).2⟩) b e
  have c0 : (0 : Int) ≤ 100000000000000000000000000 * m := by omega
  have b := Int.mul_le_mul_of_nonneg_left (show (fam.length : Int) ≤ 12 by omega) c0
  show _ ≤ (14400000000000000000000000000 : Int)
  omega
theorem big100 : (27 : Int) * cBig < 2 ^ 100 := by decide +kernel
theorem num_bd {x : Int} (h0 : 0 ≤ x) (h : x ≤ 27 * cBig) : Num x := ⟨h0, Int.lt_of_le_of_lt h big100⟩
theorem kp_old {p : Addr} {H H1 H2 : Hp} (n : H p = none) (s : Same H H1) (k : Kp p H1 H2) : Same H H2 := fun b o e => k b o (fun z => by rw [z, n] at e; cases e) (s b o e)
def spLaw (K : PySem.W.Frag) : Sp := fun vs H Q _ => ∃ (a : Addr) (ns : List Int), vs = [.ref a] ∧ SqL K H a (ns.map V.int) ∧ ns.length ≤ 63 ∧ ∀ H', Q (.bl true) H'
abbrev fam4 : Fm := [([0, 1], 1), ([0, 1, 2], 1), ([0, 2], 1), ([1], 1)]
theorem fam4_ok : FmOk ((3 : Nat) : Int) fam4 := by
  refine ⟨⟨1, by decide, fun p hp => ?_, by decide⟩, by decide, by decide⟩
  have : ∀ p ∈ fam4, p.1 ≠ [] ∧ p.1.Pairwise (· < ·) ∧ ∀ d ∈ p.1, 0 ≤ d ∧ d < ((3 : Nat) : Int) := by decide
  obtain ⟨h1, h2, h3⟩ := this p hp
  exact ⟨h1, h2, h3⟩
theorem fam0_ok : FmOk ((2 : Nat) : Int) [] := ⟨⟨1, .nil, fun p hp => (nomatch hp), fun p hp => (nomatch hp)⟩, by decide, by decide⟩
theorem shf3 : Shf 3 3 (litF [[3], [3, 4], [2, 4, 4]]) := ⟨by decide, by decide, by decide, by decide, by decide, by decide⟩
theorem shf2 : Shf 2 2 (litF [[1], [1, 3]]) := ⟨by decide, by decide, by decide, by decide, by decide, by decide⟩
abbrev lit4 : List (List (List Int)) := [[[3], [3, 4], [2, 4, 4]], [[3], [3, 4], [2, 4]], [[0], [0, 0]], [[3], [3], [2]]]
theorem gl1 : gridD 3 (fun s => shRow fam4 s 3) = litD [[3], [3, 4], [2, 4, 4]] := gridD_ext (by decide)
theorem gl2 : gridD 3 (fun s => shRow fam4 s 2) = litD [[3], [3, 4], [2, 4]] := gridD_ext (by decide)
theorem gl3 : gridD 2 (fun s => shRow [] s 2) = litD [[0], [0, 0]] := gridD_ext (by decide)
theorem gl4 : gridD 3 (fun s => (litF [[3], [3, 4], [2, 4, 4]] s).take 1) = litD [[3], [3], [2]] := gridD_ext (by decide)
theorem gl5 : gridD 2 (fun s => (litF [[1], [1, 3]] s).take 1) = litD [[1], [1]] := gridD_ext (by decide)
theorem lit4_shp : Shp 3 (.list (lit4.map litD)) := shp_list fun d hd => by
  obtain ⟨g, _, rfl⟩ := List.mem_map.mp hd
  exact gridD_shp 0 _ _
theorem fin_shp : Shp 3 (.list [.int 2, .int 2, .int 1, .int 3, litD [[1], [1]]]) := shp_list fun d hd => by
  simp only [List.mem_cons, List.not_mem_nil, or_false] at hd
  rcases hd with rfl | rfl | rfl | rfl | rfl
  · exact shp_int _ _
  · exact shp_int _ _
  · exact shp_int _ _
  · exact shp_int _ _
  · exact gridD_shp 0 _ _
theorem consC {v : V} {t : TA} {σ : L2.St} {H : Hp} {Q : List V → Hp → Prop} (h : t σ H fun xs H2 => Q (v :: xs) H2) : tCons (tC v) t σ H Q := h
theorem consT {te : TE} {t : TA} {σ : L2.St} {H : Hp} {Q : List V → Hp → Prop} (h : te σ H fun x H1 => t σ H1 fun xs H2 => Q (x :: xs) H2) : tCons te t σ H Q := h
theorem two_go {D : Ends} {H0 H : Hp} {p fa a : Addr} {x1 x3 : Option V} {n wd : Nat} {m B : Int} {fam : Fm} (s : Same H0 H) (np : H0 p = none) (hJ : JarAt H p B) (hB : B ≤ 600000000) (hF : FamAt H fa fam) (fap : fa ≠ p) (hfam : Fam n (100000000000000000000000000 * m) fam) (hl : (fam.length : Int) ≤ m) (m12 : m ≤ 12)
    (n1 : 1 ≤ n) (n30 : n ≤ 30) (w1 : 1 ≤ wd) (wn : wd ≤ n) (q : ∀ H', Same H0 H' → JarAt H' p (B + 60) → D.nx [some (.ref a), x1, some (.ref p), x3, some (.int n), some (.ref fa), some (.int wd), none, none] H') :
    tSeq (tIfS (tNot (tB (tCall spRight [] E0 (tCons (tVar 2) (tCons (tVar 5) (tCons (tVar 4) (tCons (tVar 6) tNil))))))) (tRet (tC (V.bl false))) tNext)
      (tIfS (tNot (tB (tCall spAny [] E0 (tCons (tVar 2) (tCons (tCall spBent [] E0 (tCons (tVar 2) (tCons (tCall spShe [] E0 (tCons (tVar 5) (tCons (tVar 4) (tCons (tVar 6) tNil)))) tNil))) tNil))))) (tRet (tC (V.bl false))) tNext)
      D [some (.ref a), x1, some (.ref p), x3, some (.int n), some (.ref fa), some (.int wd), none, none] H := by
  have bd := unl_bd hfam hl m12
  have hU : ∀ b e, Num (unl fam b e) := fun b e => num_bd (bd b e).1 (by have := (bd b e).2; show _ ≤ 27 * (14400000000000000000000000000 : Int); have : unl fam b e ≤ (14400000000000000000000000000 : Int) := this; omega)
  have hO : FmOk n fam := ⟨⟨_, hfam⟩, by omega, by omega⟩
  obtain ⟨_, _, _, hpl, _⟩ := id hJ
  refine ⟨_, rfl, _, rfl, _, rfl, _, rfl, p, fa, fam, n, wd, B, rfl, hJ, by omega, hF, fap, hO, hU, w1, wn, fun H1 k1 hJ1 => ⟨_, rfl, iteN0 rfl ?_⟩⟩
  refine ⟨_, rfl, _, rfl, _, rfl, _, rfl, _, rfl, fa, fam, n, wd, rfl, hF.kp k1 fap hpl, hfam.pat, n30, by omega, fun H2 g rows s2 ng nr G => ?_⟩
  refine ⟨p, g, rows, n, fun s => min (s + 1) wd, _, B + 20, cBig, rfl, hJ1.same s2, by omega, G, n1, n30, fun s hs => ⟨by show 1 ≤ min (s + 1) wd; omega, by show min (s + 1) wd ≤ 30; omega⟩, by decide, fun s hs => ⟨shRow_len _ _ _, fun x hx => ?_⟩, fun H3 g' rows' f' k3 ng' nr' G3 nums3 hJ3 => ?_⟩
  · obtain ⟨kk, _, rfl⟩ := List.mem_map.mp hx
    exact bd _ _
  have hJ2 := hJ1.same s2
  refine ⟨p, g', rows', n, wd, f', B + 20 + 20, rfl, hJ3, by omega, G3, ⟨n1, n30, w1, wn, fun s hs => (nums3 s hs).1, fun s hs x hx => ((nums3 s hs).2 x hx).1⟩, hJ2.ne ng', fun z => hJ2.ne (nr' p z) rfl, fun s hs x hx => num_bd ((nums3 s hs).2 x hx).1 ((nums3 s hs).2 x hx).2, fun H4 k4 hJ4 => ⟨_, rfl, iteN0 rfl (q H4 ?_ (hJ4.mono (by omega)))⟩⟩
  exact kp_old np s (((k1.trans (kp_same s2)).trans k3).trans k4)
theorem ok_law {f : Addr} {fd : FuncData} (F : Fun K "law" "law" s_law f fd) (Z : Env1 P w K mg base k fDip fUnl fShe fNew fSo fDi fWi fVi fUn fNa dDip dUnl dShe dNew dSo dDi dWi dVi dUn dNa)
    (F__law_jar : Fun K "_law_jar" "_law_jar" s__law_jar fJ dJ) (G__law_jar : FnOk P w K mg base CX0 k fJ dJ ["script", "k"] (spJar K)) (b__law_jar : Binds K dJ ["script", "k"] []) (g__law_jar : mg "_law_jar" = some (.ref fJ))
    (F__law_family : Fun K "_law_family" "_law_family" s__law_family fF dF) (G__law_family : FnOk P w K mg base CX0 k fF dF ["jar", "count_here", "size"] spFamily) (b__law_family : Binds K dF ["jar", "count_here", "size"] []) (g__law_family : mg "_law_family" = some (.ref fF))
    (F__law_bent : Fun K "_law_bent" "_law_bent" s__law_bent fB dB) (G__law_bent : FnOk P w K mg base CX0 k fB dB ["jar", "sheet_here"] spBent) (b__law_bent : Binds K dB ["jar", "sheet_here"] []) (g__law_bent : mg "_law_bent" = some (.ref fB))
    (F__law_right : Fun K "_law_right" "_law_right" s__law_right fR dR) (G__law_right : FnG P w K mg base k fR dR ["jar", "some", "count_here", "wide"] spRight) (b__law_right : Binds K dR ["jar", "some", "count_here", "wide"] []) (g__law_right : mg "_law_right" = some (.ref fR))
    (F__law_any_right : Fun K "_law_any_right" "_law_any_right" s__law_any_right fA dA) (G__law_any_right : FnG P w K mg base k fA dA ["jar", "sheet_here"] spAny) (b__law_any_right : Binds K dA ["jar", "sheet_here"] []) (g__law_any_right : mg "_law_any_right" = some (.ref fA))
    (m_max : mg "max" = none) : FnG P w K mg base (k + 1) f fd ["script"] (spLaw K) := by
  obtain ⟨F__law_dip, G__law_dip, b__law_dip, g__law_dip, F__law_unlike, G__law_unlike, b__law_unlike, g__law_unlike, F__law_sheet, G__law_sheet, b__law_sheet, g__law_sheet, F__law_new_right, G__law_new_right, b__law_new_right, g__law_new_right, F_sheet_of, G_sheet_of, b_sheet_of, g_sheet_of, F_days_in, G_days_in, b_days_in, g_days_in,
    F_width_in, G_width_in, b_width_in, g_width_in, F_visits_of, G_visits_of, b_visits_of, g_visits_of, F_unlike_of, G_unlike_of, b_unlike_of, g_unlike_of, F_narrowed_sheet, G_narrowed_sheet, b_narrowed_sheet, g_narrowed_sheet, m_repr, m_len, m_list, m_min, m_range⟩ := Z
  refine funG F sc_law (fun vs H Q E h => ?_) (fun cdv A outer s H vs Q E hr ng h => ?_)
  · obtain ⟨a, _, rfl, _⟩ := h
    rfl
  · obtain ⟨a, ns, rfl, sq, hl, q⟩ := h
    refine ⟨_, (pss_cons (ps_for PassesOwn.never rfl (pi_range1 (by rfl) m_range (pa_cons (pe_callB (call_max2 rfl) (by rfl) m_max PyProof.Rows.boot_max (pa_cons pe_int (pa_cons (pe_callB (call_min2 rfl) (by rfl) m_min PyProof.Rows.boot_min (pa_cons pe_int (pa_cons (pe_callB (Fa.lenQ K) (by rfl) m_len PySem.boot_len (pa_cons (pv 0) pa_nil)) pa_nil))) pa_nil))) pa_nil)) (pg_name (i := 1) sc_law.nd rfl (by first | exact Or.inl rfl | exact Or.inr rfl)) (pss_cons (ps_set (i := 2) sc_law.nd rfl (by first | exact Or.inl rfl | exact Or.inr rfl) (pe_call G__law_jar (hr.mono (by omega)) (by rfl) g__law_jar F__law_jar.kp b__law_jar .nil pass0 (pa_cons (pv 0) (pa_cons (pv 1) pa_nil))))
  (pss_one (ps_for PassesOwn.never rfl (pi_range1 (by rfl) m_range (pa_cons pe_int pa_nil)) (pg_name (i := 3) sc_law.nd rfl (by first | exact Or.inl rfl | exact Or.inr rfl)) (pss_cons (ps_set (i := 4) sc_law.nd rfl (by first | exact Or.inl rfl | exact Or.inr rfl) (pe_op op_add pe_int (pe_call G__law_dip (hr.mono (by omega)) (by rfl) g__law_dip F__law_dip.kp b__law_dip .nil pass0 (pa_cons (pv 2) (pa_cons pe_int pa_nil)))))
  (pss_cons (ps_set (i := 5) sc_law.nd rfl (by first | exact Or.inl rfl | exact Or.inr rfl) (pe_call G__law_family (hr.mono (by omega)) (by rfl) g__law_family F__law_family.kp b__law_family .nil pass0 (pa_cons (pv 2) (pa_cons (pv 4) (pa_cons (pe_call G__law_dip (hr.mono (by omega)) (by rfl) g__law_dip F__law_dip.kp b__law_dip .nil pass0 (pa_cons (pv 2) (pa_cons pe_int pa_nil))) pa_nil)))))
  (pss_cons (ps_set (i := 6) sc_law.nd rfl (by first | exact Or.inl rfl | exact Or.inr rfl) (pe_op op_add pe_int (pe_call G__law_dip (hr.mono (by omega)) (by rfl) g__law_dip F__law_dip.kp b__law_dip .nil pass0 (pa_cons (pv 2) (pa_cons (pv 4) pa_nil)))))
  (pss_cons (ps_if (pt_not (pt_val (Fa.pe_callG G__law_right (hr.mono (by omega)) ng (by rfl) g__law_right F__law_right.kp b__law_right (pa_cons (pv 2) (pa_cons (pv 5) (pa_cons (pv 4) (pa_cons (pv 6) pa_nil))))))) (pss_one (ps_ret pe_bl)) pss_nil)
  (pss_one (ps_if (pt_not (pt_val (Fa.pe_callG G__law_any_right (hr.mono (by omega)) ng (by rfl) g__law_any_right F__law_any_right.kp b__law_any_right (pa_cons (pv 2) (pa_cons (pe_call G__law_bent (hr.mono (by omega)) (by rfl) g__law_bent F__law_bent.kp b__law_bent .nil pass0 (pa_cons (pv 2) (pa_cons (pe_call G__law_sheet (hr.mono (by omega)) (by rfl) g__law_sheet F__law_sheet.kp b__law_sheet .nil pass0 (pa_cons (pv 5) (pa_cons (pv 4) (pa_cons (pv 6) pa_nil)))) pa_nil))) pa_nil))))) (pss_one (ps_ret pe_bl)) pss_nil))))))))))
  (pss_cons (ps_set (i := 2) sc_law.nd rfl (by first | exact Or.inl rfl | exact Or.inr rfl) (pe_call G__law_jar (hr.mono (by omega)) (by rfl) g__law_jar F__law_jar.kp b__law_jar .nil pass0 (pa_cons (pv 0) (pa_cons pe_int pa_nil))))
  (pss_cons (ps_for PassesOwn.never rfl (pi_range1 (by rfl) m_range (pa_cons pe_int pa_nil)) (pg_name (i := 3) sc_law.nd rfl (by first | exact Or.inl rfl | exact Or.inr rfl)) (pss_cons (ps_set (i := 4) sc_law.nd rfl (by first | exact Or.inl rfl | exact Or.inr rfl) (pe_ix (Fa.ixL K) (pe_lst (pa_cons pe_int (pa_cons (pe_op op_add pe_int (pe_call G__law_dip (hr.mono (by omega)) (by rfl) g__law_dip F__law_dip.kp b__law_dip .nil pass0 (pa_cons (pv 2) (pa_cons pe_int pa_nil)))) pa_nil))) (pe_call G__law_dip (hr.mono (by omega)) (by rfl) g__law_dip F__law_dip.kp b__law_dip .nil pass0 (pa_cons (pv 2) (pa_cons pe_int pa_nil))) (fun _ _ => rfl)))
  (pss_cons (ps_set (i := 6) sc_law.nd rfl (by first | exact Or.inl rfl | exact Or.inr rfl) (pe_ix (Fa.ixL K) (pe_lst (pa_cons (pv 4) (pa_cons pe_int (pa_cons (pe_op op_add pe_int (pe_call G__law_dip (hr.mono (by omega)) (by rfl) g__law_dip F__law_dip.kp b__law_dip .nil pass0 (pa_cons (pv 2) (pa_cons (pv 4) pa_nil)))) pa_nil)))) (pv 3) (fun _ _ => rfl)))
  (pss_cons (ps_set (i := 5) sc_law.nd rfl (by first | exact Or.inl rfl | exact Or.inr rfl) (pe_call G__law_family (hr.mono (by omega)) (by rfl) g__law_family F__law_family.kp b__law_family .nil pass0 (pa_cons (pv 2) (pa_cons (pv 4) (pa_cons pe_int pa_nil)))))
  (pss_cons (ps_if (pt_not (pt_val (Fa.pe_callG G__law_right (hr.mono (by omega)) ng (by rfl) g__law_right F__law_right.kp b__law_right (pa_cons (pv 2) (pa_cons (pv 5) (pa_cons (pv 4) (pa_cons (pv 6) pa_nil))))))) (pss_one (ps_ret pe_bl)) pss_nil)
  (pss_one (ps_if (pt_not (pt_val (Fa.pe_callG G__law_any_right (hr.mono (by omega)) ng (by rfl) g__law_any_right F__law_any_right.kp b__law_any_right (pa_cons (pv 2) (pa_cons (pe_call G__law_bent (hr.mono (by omega)) (by rfl) g__law_bent F__law_bent.kp b__law_bent .nil pass0 (pa_cons (pv 2) (pa_cons (pe_call G__law_sheet (hr.mono (by omega)) (by rfl) g__law_sheet F__law_sheet.kp b__law_sheet .nil pass0 (pa_cons (pv 5) (pa_cons (pv 4) (pa_cons (pv 6) pa_nil)))) pa_nil))) pa_nil))))) (pss_one (ps_ret pe_bl)) pss_nil)))))))
  (pss_cons (ps_set (i := 5) sc_law.nd rfl (by first | exact Or.inl rfl | exact Or.inr rfl) (pe_lst (pa_cons (pe_tup (pa_cons (pe_tup (pa_cons pe_int (pa_cons pe_int pa_nil))) (pa_cons pe_int pa_nil))) (pa_cons (pe_tup (pa_cons (pe_tup (pa_cons pe_int (pa_cons pe_int (pa_cons pe_int pa_nil)))) (pa_cons pe_int pa_nil))) (pa_cons (pe_tup (pa_cons (pe_tup (pa_cons pe_int (pa_cons pe_int pa_nil))) (pa_cons pe_int pa_nil))) (pa_cons (pe_tup (pa_cons (pe_tup (pa_cons pe_int pa_nil)) (pa_cons pe_int pa_nil))) pa_nil))))))
  (pss_cons (ps_set (i := 7) sc_law.nd rfl (by first | exact Or.inl rfl | exact Or.inr rfl) (pe_lst (pa_cons (pe_call G_sheet_of (hr.mono (by omega)) (by rfl) g_sheet_of F_sheet_of.kp b_sheet_of .nil pass0 (pa_cons (pv 5) (pa_cons pe_int (pa_cons pe_int pa_nil)))) (pa_cons (pe_call G_sheet_of (hr.mono (by omega)) (by rfl) g_sheet_of F_sheet_of.kp b_sheet_of .nil pass0 (pa_cons (pv 5) (pa_cons pe_int (pa_cons pe_int pa_nil)))) (pa_cons (pe_call G_sheet_of (hr.mono (by omega)) (by rfl) g_sheet_of F_sheet_of.kp b_sheet_of .nil pass0 (pa_cons (pe_lst pa_nil) (pa_cons pe_int (pa_cons pe_int pa_nil)))) pa_nil)))))
  (pss_cons (ps_expr (pe_bm PySem.F.plainAttrs_list PySem.F.slot_list_append PySem.F.type_list_append mt_append (pv 7) (pa_cons (pe_call G_narrowed_sheet (hr.mono (by omega)) (by rfl) g_narrowed_sheet F_narrowed_sheet.kp b_narrowed_sheet .nil pass0 (pa_cons (pe_lst (pa_cons (pe_lst (pa_cons pe_int pa_nil)) (pa_cons (pe_lst (pa_cons pe_int (pa_cons pe_int pa_nil))) (pa_cons (pe_lst (pa_cons pe_int (pa_cons pe_int (pa_cons pe_int pa_nil)))) pa_nil)))) (pa_cons pe_int pa_nil))) pa_nil)))
  (pss_cons (ps_if (pt_cmpR (Fa.neQ K hr.units) (pv 7) (pe_lst (pa_cons (pe_lst (pa_cons (pe_lst (pa_cons pe_int pa_nil)) (pa_cons (pe_lst (pa_cons pe_int (pa_cons pe_int pa_nil))) (pa_cons (pe_lst (pa_cons pe_int (pa_cons pe_int (pa_cons pe_int pa_nil)))) pa_nil)))) (pa_cons (pe_lst (pa_cons (pe_lst (pa_cons pe_int pa_nil)) (pa_cons (pe_lst (pa_cons pe_int (pa_cons pe_int pa_nil))) (pa_cons (pe_lst (pa_cons pe_int (pa_cons pe_int pa_nil))) pa_nil)))) (pa_cons (pe_lst (pa_cons (pe_lst (pa_cons pe_int pa_nil)) (pa_cons (pe_lst (pa_cons pe_int (pa_cons pe_int pa_nil))) pa_nil))) (pa_cons (pe_lst (pa_cons (pe_lst (pa_cons pe_int pa_nil)) (pa_cons (pe_lst (pa_cons pe_int pa_nil)) (pa_cons (pe_lst (pa_cons pe_int pa_nil)) pa_nil)))) pa_nil))))) (nomark _)) (pss_one (ps_ret pe_bl)) pss_nil)
  (pss_cons (ps_set (i := 8) sc_law.nd rfl (by first | exact Or.inl rfl | exact Or.inr rfl) (pe_lst (pa_cons (pe_lst (pa_cons pe_int pa_nil)) (pa_cons (pe_lst (pa_cons pe_int (pa_cons pe_int pa_nil))) pa_nil))))
  (pss_cons (ps_set (i := 7) sc_law.nd rfl (by first | exact Or.inl rfl | exact Or.inr rfl) (pe_lst (pa_cons (pe_call G_days_in (hr.mono (by omega)) (by rfl) g_days_in F_days_in.kp b_days_in .nil pass0 (pa_cons (pv 8) pa_nil)) (pa_cons (pe_call G_width_in (hr.mono (by omega)) (by rfl) g_width_in F_width_in.kp b_width_in .nil pass0 (pa_cons (pv 8) pa_nil)) (pa_cons (pe_call G_visits_of (hr.mono (by omega)) (by rfl) g_visits_of F_visits_of.kp b_visits_of .nil pass0 (pa_cons (pv 8) (pa_cons pe_int pa_nil))) (pa_cons (pe_call G_unlike_of (hr.mono (by omega)) (by rfl) g_unlike_of F_unlike_of.kp b_unlike_of .nil pass0 (pa_cons (pv 8) (pa_cons pe_int (pa_cons pe_int pa_nil)))) (pa_cons (pe_call G_narrowed_sheet (hr.mono (by omega)) (by rfl) g_narrowed_sheet F_narrowed_sheet.kp b_narrowed_sheet .nil pass0 (pa_cons (pv 8) (pa_cons pe_int pa_nil))) pa_nil)))))))
  (pss_one (ps_ret (pe_cmpR (Fa.eqQ K hr.units) (pv 7) (pe_lst (pa_cons pe_int (pa_cons pe_int (pa_cons pe_int (pa_cons pe_int (pa_cons (pe_lst (pa_cons (pe_lst (pa_cons pe_int pa_nil)) (pa_cons (pe_lst (pa_cons pe_int pa_nil)) pa_nil))) pa_nil)))))) (nomark _))))))))))))), ?_⟩
    have nl : (ns.map V.int).length ≤ 63 := by rw [List.length_map]; exact hl
    have mx : ∀ x : Int, 0 ≤ x → ∃ N : Nat, (if (if x < 5 then x else 5) > 1 then (if x < 5 then x else 5) else 1) = (N : Int) ∧ N ≤ 5 := fun x hx => by
      refine ⟨(if (if x < 5 then x else 5) > 1 then (if x < 5 then x else 5) else 1).toNat, ?_, ?_⟩
      · split <;> split <;> omega
      · split <;> split <;> omega
    obtain ⟨N, eN, N5⟩ := mx ((ns.map V.int).length : Int) (by omega)
    refine ⟨_, rfl, a, _, rfl, .inl sq, 5, _, rfl, 1, _, rfl, _, rfl, ?_, ?_, ?_⟩
    · rw [eN]
      omega
    · rw [eN]
      omega
    rw [eN, Int.toNat_natCast]
    refine for_range (lo := 0) (fun i σ H' => Same H H' ∧ ∃ x1 x2 x3 x4 x5 x6, σ = [some (.ref a), x1, x2, x3, x4, x5, x6, none, none]) ?_ ?_ ?_
    · exact ⟨Same.refl _, none, none, none, none, none, none, rfl⟩
    · rintro i σ H1 hi ⟨s1, x1, x2, x3, x4, x5, x6, rfl⟩
      refine ⟨_, rfl, _, rfl, a, ns, _, rfl, sqL_same s1 sq, by omega, by omega, fun H2 p s2 np hJ2 => ?_⟩
      have np0 : H p = none := s1.free np
      refine ⟨3, rfl, by decide, by decide, ?_⟩
      refine for_range (lo := 0) (fun j σ H' => Same H H' ∧ JarAt H' p (2000 * j) ∧ ∃ x3 x4 x5 x6, σ = [some (.ref a), some (.int (0 + (i : Int))), some (.ref p), x3, x4, x5, x6, none, none]) ?_ ?_ ?_
      · exact ⟨s1.trans s2, hJ2, _, _, _, _, rfl⟩
      · rintro j σ H3 hj ⟨s3, hJ3, x3, x4, x5, x6, rfl⟩
        have j3 : j < 3 := hj
        refine ⟨_, rfl, p, 9, 2000 * j, rfl, hJ3, by omega, by decide, lt3000 (by decide), fun H4 c b4 hJ4 c0 c9 => ⟨_, _, rfl, rfl, ?_⟩⟩
        obtain ⟨n, en, n1, n9⟩ : ∃ n : Nat, (1 : Int) + c = n ∧ 1 ≤ n ∧ n ≤ 9 := ⟨(1 + c).toNat, by omega, by omega, by omega⟩
        show gName 4 (V.int (1 + c)) _ _ _
        rw [en]
        refine ⟨_, rfl, _, rfl, _, rfl, p, 9, 2000 * j + 1, rfl, hJ4, by omega, by decide, lt3000 (by decide), fun H5 sz b5 hJ5 z0 z9 => ?_⟩
        refine ⟨p, n, sz, 2000 * j + 1 + 1, rfl, hJ5, by omega, by omega, by omega, z0, by omega, fun H6 fa fam k6 nfa hF hfam hlen hJ6 => ?_⟩
        have fap : fa ≠ p := hJ5.ne nfa
        refine ⟨_, rfl, _, rfl, p, n, _, rfl, hJ6, by omega, by omega, lt3000 (by omega), fun H7 ww b7 hJ7 w0 w1 => ⟨_, _, rfl, rfl, ?_⟩⟩
        obtain ⟨wd, ew, wd1, wdn⟩ : ∃ wd : Nat, (1 : Int) + ww = wd ∧ 1 ≤ wd ∧ wd ≤ n := ⟨(1 + ww).toNat, by omega, by omega, by omega⟩
        show gName 6 (V.int (1 + ww)) _ _ _
        rw [ew]
        obtain ⟨_, _, _, hp6, _⟩ := id hJ6
        have s7 : Same H H7 := kp_old np0 s3 (((b4.kp.trans b5.kp).trans k6).trans b7.kp)
        exact two_go s7 np0 hJ7 (by omega) (hF.kp b7.kp fap hp6) fap hfam hlen (by omega) n1 (by omega) wd1 wdn fun H8 s8 hJ8 => ⟨s8, hJ8.mono (by omega), _, _, _, _, rfl⟩
      · rintro σ H3 ⟨s3, hJ3, x3, x4, x5, x6, rfl⟩
        exact ⟨s3, _, _, _, _, _, _, rfl⟩
    · rintro σ H1 ⟨s1, x1, x2, x3, x4, x5, x6, rfl⟩
      refine ⟨_, rfl, a, ns, 0, rfl, sqL_same s1 sq, by decide, by decide, fun H2 p s2 np hJ2 => ?_⟩
      have np0 : H p = none := s1.free np
      refine ⟨3, rfl, by decide, by decide, ?_⟩
      refine for_range (lo := 0) (fun j σ H' => Same H H' ∧ JarAt H' p (2000 * j) ∧ ∃ x1 x3 x4 x5 x6, σ = [some (.ref a), x1, some (.ref p), x3, x4, x5, x6, none, none]) ?_ ?_ ?_
      · exact ⟨s1.trans s2, hJ2, _, _, _, _, _, rfl⟩
      · rintro j σ H3 hj ⟨s3, hJ3, x1, x3, x4, x5, x6, rfl⟩
        have j3 : j < 3 := hj
        refine ⟨_, rfl, p, 20, 2000 * j, rfl, hJ3, by omega, by decide, lt3000 (by decide), fun H4 c b4 hJ4 c0 c20 => ⟨_, _, rfl, rfl, by show 2 ≤ sizeLine; decide, fun l nl => ?_⟩⟩
        have lp : l ≠ p := hJ4.ne nl
        refine ⟨_, rfl, p, 2, 2000 * j + 1, rfl, hJ4.far lp, by omega, by decide, lt3000 (by decide), fun H5 r5 b5 hJ5 r50 r52 => ?_⟩
        obtain ⟨n, eA, n10, n30⟩ : ∃ n : Nat, atI [V.int 30, V.int (10 + c)] r5 = some (V.int n) ∧ 10 ≤ n ∧ n ≤ 30 := by
          have e : r5 = 0 ∨ r5 = 1 := by omega
          rcases e with rfl | rfl
          · exact ⟨30, rfl, by decide, by decide⟩
          · refine ⟨(10 + c).toNat, ?_, by omega, by omega⟩
            show some (V.int (10 + c)) = _
            rw [Int.toNat_of_nonneg (by omega)]
        refine ⟨l, _, _, _, rfl, rfl, .inl (.inl ((b5 l lp).trans upd_same)), eA, ?_⟩
        have k5 : Kp p H3 H5 := (b4.kp.trans (kp_new nl)).trans b5.kp
        refine ⟨_, rfl, _, rfl, _, rfl, p, n, 2000 * j + 1 + 1, rfl, hJ5, by omega, by omega, lt3000 (by omega), fun H6 ww b6 hJ6 w0 w1 => ⟨_, _, rfl, rfl, by show 3 ≤ sizeLine; decide, fun l2 nl2 => ?_⟩⟩
        have l2p : l2 ≠ p := hJ6.ne nl2
        obtain ⟨wd, eB, wd1, wdn⟩ : ∃ wd : Nat, atI [V.int n, V.int 7, V.int (1 + ww)] ((0 : Int) + (j : Int)) = some (V.int wd) ∧ 1 ≤ wd ∧ wd ≤ n := by
          have e : j = 0 ∨ j = 1 ∨ j = 2 := by omega
          rcases e with rfl | rfl | rfl
          · exact ⟨n, rfl, by omega, Nat.le_refl _⟩
          · exact ⟨7, rfl, by decide, by omega⟩
          · refine ⟨(1 + ww).toNat, ?_, by omega, by omega⟩
            show some (V.int (1 + ww)) = _
            rw [Int.toNat_of_nonneg (by omega)]
        refine ⟨_, rfl, l2, _, _, _, rfl, rfl, .inl (.inl upd_same), eB, ?_⟩
        have hJ7 := hJ6.far (o := .lst [V.int n, V.int 7, V.int (1 + ww)]) l2p
        have k7 : Kp p H3 (upd H6 l2 (.lst [V.int n, V.int 7, V.int (1 + ww)])) := (k5.trans b6.kp).trans (kp_new nl2)
        generalize upd H6 l2 (.lst [V.int n, V.int 7, V.int (1 + ww)]) = H7 at hJ7 k7 ⊢
        refine ⟨_, rfl, _, rfl, p, n, 12, _, rfl, hJ7, by omega, by omega, by omega, by decide, by decide, fun H8 fa fam k8 nfa hF hfam hlen hJ8 => ?_⟩
        have fap : fa ≠ p := hJ7.ne nfa
        have s8 : Same H H8 := kp_old np0 s3 (k7.trans k8)
        exact two_go s8 np0 hJ8 (by omega) hF fap hfam hlen (by decide) (by omega) n30 wd1 wdn fun H9 s9 hJ9 => ⟨s9, hJ9.mono (by omega), _, _, _, _, _, rfl⟩
      · rintro σ H3 ⟨s3, hJ3, x1, x3, x4, x5, x6, rfl⟩
        have two : (2 : Nat) ≤ sizeLine := by decide
        refine ⟨two, fun t1 nt1 => ?_⟩
        have f1 := nw (o := .tup [.int 0, .int 1]) nt1
        generalize upd H3 t1 (.tup [.int 0, .int 1]) = A1 at f1 ⊢
        refine ⟨two, fun u1 nu1 => ?_⟩
        have g1 := nw (o := .tup [.ref t1, .int 1]) nu1
        generalize upd A1 u1 (.tup [.ref t1, .int 1]) = B1 at g1 ⊢
        refine ⟨by show 3 ≤ sizeLine; decide, fun t2 nt2 => ?_⟩
        have f2 := nw (o := .tup [.int 0, .int 1, .int 2]) nt2
        generalize upd B1 t2 (.tup [.int 0, .int 1, .int 2]) = A2 at f2 ⊢
        refine ⟨two, fun u2 nu2 => ?_⟩
        have g2 := nw (o := .tup [.ref t2, .int 1]) nu2
        generalize upd A2 u2 (.tup [.ref t2, .int 1]) = B2 at g2 ⊢
        refine ⟨two, fun t3 nt3 => ?_⟩
        have f3 := nw (o := .tup [.int 0, .int 2]) nt3
        generalize upd B2 t3 (.tup [.int 0, .int 2]) = A3 at f3 ⊢
        refine ⟨two, fun u3 nu3 => ?_⟩
        have g3 := nw (o := .tup [.ref t3, .int 1]) nu3
        generalize upd A3 u3 (.tup [.ref t3, .int 1]) = B3 at g3 ⊢
        refine ⟨by show 1 ≤ sizeLine; decide, fun t4 nt4 => ?_⟩
        have f4 := nw (o := .tup [.int 1]) nt4
        generalize upd B3 t4 (.tup [.int 1]) = A4 at f4 ⊢
        refine ⟨two, fun u4 nu4 => ?_⟩
        have g4 := nw (o := .tup [.ref t4, .int 1]) nu4
        generalize upd A4 u4 (.tup [.ref t4, .int 1]) = B4 at g4 ⊢
        refine ⟨by show 4 ≤ sizeLine; decide, fun l nl => ?_⟩
        have f5 := nw (o := .lst [.ref u1, .ref u2, .ref u3, .ref u4]) nl
        generalize upd B4 l (.lst [.ref u1, .ref u2, .ref u3, .ref u4]) = H4 at f5 ⊢
        have c4 := g4.1.trans f5.1
        have c3 := (g3.1.trans f4.1).trans c4
        have c2 := (g2.1.trans f3.1).trans c3
        have c1 := (g1.1.trans f2.1).trans c2
        have hF : FamAt H4 l fam4 := ⟨_, f5.2, .cons ⟨u1, t1, rfl, (f2.1.trans c2) _ _ g1.2, c1 _ _ f1.2⟩ (.cons ⟨u2, t2, rfl, (f3.1.trans c3) _ _ g2.2, c2 _ _ f2.2⟩ (.cons ⟨u3, t3, rfl, (f4.1.trans c4) _ _ g3.2, c3 _ _ f3.2⟩ (.cons ⟨u4, t4, rfl, f5.1 _ _ g4.2, c4 _ _ f4.2⟩ .nil)))⟩
        refine ⟨_, rfl, l, fam4, 3, 3, rfl, hF, fam4_ok, by decide, by decide, fun K1 g1 r1 s1 _ _ G1 => ⟨_, rfl, l, fam4, 3, 2, rfl, hF.same s1, fam4_ok, by decide, by decide, fun K2 g2 r2 s2 _ _ G2 => ⟨Nat.zero_le _, fun e ne => ⟨e, [], 2, 2, rfl, ⟨[], upd_same, .nil⟩, fam0_ok, by decide, by decide, fun K3 g3 r3 s3 _ _ G3 => ⟨by show 3 ≤ sizeLine; decide, fun tl ntl => ?_⟩⟩⟩⟩⟩
        have s23 := (same_new (o := .lst []) ne).trans s3
        have G1' := (G1.same s2).same s23
        have G2' := G2.same s23
        obtain ⟨o1, o2⟩ := G1'.noRow ntl
        obtain ⟨o3, o4⟩ := G2'.noRow ntl
        obtain ⟨o5, o6⟩ := G3.noRow ntl
        have h5 := nw (o := .lst [.ref g1, .ref g2, .ref g3]) ntl
        generalize upd K3 tl (.lst [.ref g1, .ref g2, .ref g3]) = K4 at h5 ⊢
        refine ⟨_, rfl, .inl ⟨rfl, _, .inl (.inl h5.2)⟩, ?_⟩
        show tCall spNarr [] E0 (tCons (tLst (glits [[3], [3, 4], [2, 4, 4]])) (tCons (tC (V.int 1)) tNil)) _ _ _
        show tCons (tLst (glits [[3], [3, 4], [2, 4, 4]])) (tCons (tC (V.int 1)) tNil) _ _ _
        show tLst (glits [[3], [3, 4], [2, 4, 4]]) _ _ _
        refine litG (by decide) (by decide) fun K5 ga ra s5 _ _ Ga => ?_
        refine ⟨ga, 3, 3, 1, litF [[3], [3, 4], [2, 4, 4]], rfl, ⟨⟨ra, Ga⟩, shf3⟩, by decide, by decide, fun K6 g4 r4 s6 ng4 nr4 G4 => ⟨tl, _, _, rfl, rfl, (s5.trans s6) _ _ h5.2, by show 3 < sizeLine; decide, ?_⟩⟩
        have s56 := h5.1.trans (s5.trans s6)
        have o7 : tl ≠ g4 := fun z => by
          have := s5 _ _ h5.2
          rw [z, ng4] at this
          cases this
        have o8 : tl ∉ r4 := fun z => by
          have := s5 _ _ h5.2
          rw [nr4 tl z] at this
          cases this
        have d1 := (G1'.same s56).off (o := .lst ([.ref g1, .ref g2, .ref g3] ++ [.ref g4])) o1 o2
        have d2 := (G2'.same s56).off (o := .lst ([.ref g1, .ref g2, .ref g3] ++ [.ref g4])) o3 o4
        have d3 := (G3.same s56).off (o := .lst ([.ref g1, .ref g2, .ref g3] ++ [.ref g4])) o5 o6
        have d4 := G4.off (o := .lst ([.ref g1, .ref g2, .ref g3] ++ [.ref g4])) o7 o8
        have d5 : upd K6 tl (.lst ([.ref g1, .ref g2, .ref g3] ++ [.ref g4])) tl = some (.lst [.ref g1, .ref g2, .ref g3, .ref g4]) := upd_same
        generalize upd K6 tl (.lst ([.ref g1, .ref g2, .ref g3] ++ [.ref g4])) = K7 at d1 d2 d3 d4 d5 ⊢
        refine ⟨_, rfl, ?_⟩
        show tLst (gglits lit4) _ _ _
        refine litGG (K := K) (by decide) (by decide) fun K8 lg s8 dg => ?_
        have e1 : Dp K K8 (.ref g1) (litD [[3], [3, 4], [2, 4, 4]]) := gl1 ▸ (d1.same s8).dp
        have e2 : Dp K K8 (.ref g2) (litD [[3], [3, 4], [2, 4]]) := gl2 ▸ (d2.same s8).dp
        have e3 : Dp K K8 (.ref g3) (litD [[0], [0, 0]]) := gl3 ▸ (d3.same s8).dp
        have e4 : Dp K K8 (.ref g4) (litD [[3], [3], [2]]) := gl4 ▸ (d4.same s8).dp
        refine ⟨.list (lit4.map litD), .list (lit4.map litD), .lst (.inl (.inl (s8 _ _ d5))) (.cons e1 (.cons e2 (.cons e3 (.cons e4 .nil)))), dg, lit4_shp.shaped (by decide), lit4_shp.shaped (by decide), _, rfl, iteN0 (eqv_same _ lit4_shp.1) ?_⟩
        show tAsg (tLst (glits [[1], [1, 3]])) (gName 8) _ _ _
        show tLst (glits [[1], [1, 3]]) _ _ _
        refine litG (by decide) (by decide) fun L1 gn rn s9 _ _ Gn => ?_
        have hS : ShAt L1 gn 2 2 (litF [[1], [1, 3]]) := ⟨⟨rn, Gn⟩, shf2⟩
        refine ⟨_, rfl, gn, 2, 2, _, rfl, hS, fun L2 z2 => ⟨_, rfl, gn, 2, 2, _, rfl, hS.same z2, fun L3 z3 => ⟨_, rfl, gn, 2, 2, _, 1, 1, rfl, (hS.same z2).same z3, by decide, by decide, rfl, fun L4 z4 => ⟨_, rfl, gn, 2, 2, _, 0, 1, 3, rfl, ((hS.same z2).same z3).same z4, by decide, by decide, by decide, by decide, rfl, fun L5 z5 =>
          ⟨_, rfl, gn, 2, 2, 1, _, rfl, (((hS.same z2).same z3).same z4).same z5, by decide, by decide, fun L6 g5 r5 z6 _ _ G5 => ⟨by show 5 ≤ sizeLine; decide, fun tl2 ntl2 => ?_⟩⟩⟩⟩⟩⟩
        have h6 := nw (o := .lst [.int 2, .int 2, .int 1, .int 3, .ref g5]) ntl2
        generalize upd L6 tl2 (.lst [.int 2, .int 2, .int 1, .int 3, .ref g5]) = L7 at h6 ⊢
        refine ⟨_, rfl, ?_⟩
        show tLst (tCons (tC (V.int 2)) (tCons (tC (V.int 2)) (tCons (tC (V.int 1)) (tCons (tC (V.int 3)) (tCons (tLst (glits [[1], [1]])) tNil))))) _ _ _
        show tCons (tC (V.int 2)) (tCons (tC (V.int 2)) (tCons (tC (V.int 1)) (tCons (tC (V.int 3)) (tCons (tLst (glits [[1], [1]])) tNil)))) _ _ _
        refine consC (consC (consC (consC (consT ?_))))
        refine litG (by decide) (by decide) fun L8 gz rz z8 _ _ Gz => ⟨by show 5 ≤ sizeLine; decide, fun z nz => ?_⟩
        have e5 : Dp K L6 (.ref g5) (litD [[1], [1]]) := gl5 ▸ G5.dp
        refine ⟨.list [.int 2, .int 2, .int 1, .int 3, litD [[1], [1]]], .list [.int 2, .int 2, .int 1, .int 3, litD [[1], [1]]], .lst (.inl (.inl (same_new nz _ _ (z8 _ _ h6.2)))) (.cons (.int _) (.cons (.int _) (.cons (.int _) (.cons (.int _) (.cons (Dp.same (h6.1.trans (z8.trans (same_new nz))) _ _ e5) .nil))))),
          .lst (.inl (.inl upd_same)) (.cons (.int _) (.cons (.int _) (.cons (.int _) (.cons (.int _) (.cons (Gz.same (same_new nz)).dp .nil))))), fin_shp.shaped (by decide), fin_shp.shaped (by decide), ?_⟩
        rw [eqv_same _ fin_shp.1]
        exact q _
end
end K01

set_option maxHeartbeats 0
namespace K01
open PySem PySem.Spec PyProof.Rows L2 Fa
def mkD (x : Str) (st : Stmt) : He.DefD := ⟨(x, none), x, x, defArgs st, defBody st, defScope st, [], []⟩
def fn : List He.DefD := ([mkD "is_integer" s_is_integer, mkD "is_between" s_is_between, mkD "is_row" s_is_row, mkD "is_sheet" s_is_sheet, mkD "is_pattern" s_is_pattern, mkD "is_group" s_is_group, mkD "is_family_below" s_is_family_below, mkD "check_sheet" s_check_sheet, mkD "check_family" s_check_family, mkD "check_count" s_check_count, mkD "check_width" s_check_width, mkD "check_day" s_check_day, mkD "check_apart" s_check_apart, mkD "check_told" s_check_told, mkD "sheet_of" s_sheet_of, mkD "_count_by_latest" s__count_by_latest, mkD "_running_sums" s__running_sums, mkD "days_in" s_days_in, mkD "width_in" s_width_in, mkD "visits_of" s_visits_of] : List He.DefD) ++ ([mkD "unlike_of" s_unlike_of, mkD "told_number" s_told_number, mkD "narrowed_sheet" s_narrowed_sheet, mkD "_law_jar" s__law_jar, mkD "_law_dip" s__law_dip, mkD "_law_many" s__law_many, mkD "_law_days" s__law_days, mkD "_law_family" s__law_family, mkD "_law_unlike" s__law_unlike, mkD "_law_sheet" s__law_sheet, mkD "_law_new_right" s__law_new_right, mkD "_law_bent" s__law_bent, mkD "_law_right" s__law_right, mkD "_law_any_right" s__law_any_right, mkD "law" s_law] : List He.DefD)
def gls : List Str := ((["is_integer", "is_between", "is_row", "is_sheet", "is_pattern", "is_group", "is_family_below", "check_sheet", "check_family", "check_count", "check_width", "check_day", "check_apart", "check_told", "sheet_of", "_count_by_latest", "_running_sums", "days_in", "width_in", "visits_of"] : List Str) ++ (["unlike_of", "told_number", "narrowed_sheet", "_law_jar", "_law_dip", "_law_many", "_law_days", "_law_family", "_law_unlike", "_law_sheet", "_law_new_right", "_law_bent", "_law_right", "_law_any_right", "law"] : List Str))
def fre : List Str := ["abs", "all", "enumerate", "int", "len", "list", "max", "min", "range", "repr", "sorted", "tuple", "type", "zip"]
def fa : List He.Fa := gls.map .glo ++ ([.int "MOST_DAYS" 30, .int "MOST_GROUPS" 2000] ++ fre.map .free)
def exB (_ : PySem.W.Frag) : Bool := true
abbrev R : PySem.W.OpenRow := PySem.W.OpenLaw.row PySem.Challenge.rw_facesagain_k01_sheets_of_families
def loo : List Str := ((["FaceError", "InvalidSheet", "InvalidFamily", "InvalidCount", "InvalidWidth", "InvalidDay", "MOST_DAYS", "MOST_GROUPS", "is_integer", "is_between", "is_row", "is_sheet", "is_pattern", "is_group", "is_family_below", "check_sheet", "check_family", "check_count", "check_width", "check_day"] : List Str) ++ (["check_apart", "check_told", "sheet_of", "_count_by_latest", "_running_sums", "days_in", "width_in", "visits_of", "unlike_of", "told_number", "narrowed_sheet", "_law_jar", "_law_dip", "_law_many", "_law_days", "_law_family", "_law_unlike", "_law_sheet", "_law_new_right", "_law_bent"] : List Str) ++ (["_law_right", "_law_any_right"] : List Str))
abbrev hk : PySem.W.Hook := He.hookX 6 fa fn [] [] exB
def ob (s : PySem.W.SharedT) : He.AlX := He.obsX 6 fa fn [] [] exB (HandSHeadRun.getT s)
theorem ob_eq (s : PySem.W.SharedT) : ob s = hk.obs s.abs := He.obsX_eq (HandSHeadRun.getT_eq s)
theorem run (w : World) : HandSHeadRun.RunEq R (PySem.W.view R.prog [46]) hk ob 4000 loo w := by
  intro os
  kernel_rfl
end K01

set_option maxHeartbeats 0
namespace K01
open PySem PySem.Spec PyProof.Rows L2 Fa
theorem facts {P : Program} {w : World} {K : PySem.W.Frag} {h : Heap} {mg : Str → Option Value} {f : Addr} (X : K.In h) (G : h.Ns mainGlobals mg) (hfa : mg ("law" : Str) = some (.ref f)) (cx : He.SaysX fa fn [] [] exB w h K) :
    ∃ fd : FuncData, (∀ (s : Shared) (v : Value), BindsTo s fd ⟨[v], []⟩ [("script", v)]) ∧ ∀ base : Heap, K.In base → base.Ns mainGlobals mg → FnG P w K mg base 9 f fd ["script"] (spLaw K) := by
  have c := cx.t.d
  have gl : ∀ x, x ∈ gls → mg x = some (.ref (He.ga K x)) := fun x hx => He.glo_ok X G (c.facts (List.mem_append_left _ (List.mem_map.mpr ⟨x, hx, rfl⟩)))
  have fr : ∀ x, x ∈ fre → mg x = none := fun x hx => He.free_ok X G (c.facts (List.mem_append_right _ (List.mem_append_right _ (List.mem_map.mpr ⟨x, hx, rfl⟩))))
  obtain ⟨_, g_MOST_DAYS⟩ := He.int_ok X G (x := "MOST_DAYS") (i := 30) (c.facts (List.mem_append_right _ (List.mem_append_left _ List.mem_cons_self)))
  obtain ⟨_, g_MOST_GROUPS⟩ := He.int_ok X G (x := "MOST_GROUPS") (i := 2000) (c.facts (List.mem_append_right _ (List.mem_append_left _ (List.mem_cons_of_mem _ List.mem_cons_self))))
  obtain ⟨d0, F0⟩ := c.def_ 0 rfl
  obtain ⟨d1, F1⟩ := c.def_ 1 rfl
  obtain ⟨d2, F2⟩ := c.def_ 2 rfl
  obtain ⟨d3, F3⟩ := c.def_ 3 rfl
  obtain ⟨d4, F4⟩ := c.def_ 4 rfl
  obtain ⟨d5, F5⟩ := c.def_ 5 rfl
  obtain ⟨d6, F6⟩ := c.def_ 6 rfl
  obtain ⟨d7, F7⟩ := c.def_ 7 rfl
  obtain ⟨d8, F8⟩ := c.def_ 8 rfl
  obtain ⟨d9, F9⟩ := c.def_ 9 rfl
  obtain ⟨d10, F10⟩ := c.def_ 10 rfl
  obtain ⟨d11, F11⟩ := c.def_ 11 rfl
  obtain ⟨d12, F12⟩ := c.def_ 12 rfl
  obtain ⟨d13, F13⟩ := c.def_ 13 rfl
  obtain ⟨d14, F14⟩ := c.def_ 14 rfl
  obtain ⟨d15, F15⟩ := c.def_ 15 rfl
  obtain ⟨d16, F16⟩ := c.def_ 16 rfl
  obtain ⟨d17, F17⟩ := c.def_ 17 rfl
  obtain ⟨d18, F18⟩ := c.def_ 18 rfl
  obtain ⟨d19, F19⟩ := c.def_ 19 rfl
  obtain ⟨d20, F20⟩ := c.def_ 20 rfl
  obtain ⟨d21, F21⟩ := c.def_ 21 rfl
  obtain ⟨d22, F22⟩ := c.def_ 22 rfl
  obtain ⟨d23, F23⟩ := c.def_ 23 rfl
  obtain ⟨d24, F24⟩ := c.def_ 24 rfl
  obtain ⟨d25, F25⟩ := c.def_ 25 rfl
  obtain ⟨d26, F26⟩ := c.def_ 26 rfl
  obtain ⟨d27, F27⟩ := c.def_ 27 rfl
  obtain ⟨d28, F28⟩ := c.def_ 28 rfl
  obtain ⟨d29, F29⟩ := c.def_ 29 rfl
  obtain ⟨d30, F30⟩ := c.def_ 30 rfl
  obtain ⟨d31, F31⟩ := c.def_ 31 rfl
  obtain ⟨d32, F32⟩ := c.def_ 32 rfl
  obtain ⟨d33, F33⟩ := c.def_ 33 rfl
  obtain ⟨d34, F34⟩ := c.def_ 34 rfl
  have e := hfa.symm.trans (gl "law" (by decide))
  cases e
  have b := FunD.bindsA (ps := ["script"]) F34 fun _ _ _ _ _ _ us hl => match us, hl with | [_], _ => rfl
  have T0 : Fun K "is_integer" "is_integer" s_is_integer _ d0 := fun_of F0
  have T1 : Fun K "is_between" "is_between" s_is_between _ d1 := fun_of F1
  have T2 : Fun K "is_row" "is_row" s_is_row _ d2 := fun_of F2
  have T3 : Fun K "is_sheet" "is_sheet" s_is_sheet _ d3 := fun_of F3
  have T4 : Fun K "is_pattern" "is_pattern" s_is_pattern _ d4 := fun_of F4
  have T5 : Fun K "is_group" "is_group" s_is_group _ d5 := fun_of F5
  have T6 : Fun K "is_family_below" "is_family_below" s_is_family_below _ d6 := fun_of F6
  have T7 : Fun K "check_sheet" "check_sheet" s_check_sheet _ d7 := fun_of F7
  have T8 : Fun K "check_family" "check_family" s_check_family _ d8 := fun_of F8
  have T9 : Fun K "check_count" "check_count" s_check_count _ d9 := fun_of F9
  have T10 : Fun K "check_width" "check_width" s_check_width _ d10 := fun_of F10
  have T11 : Fun K "check_day" "check_day" s_check_day _ d11 := fun_of F11
  have T12 : Fun K "check_apart" "check_apart" s_check_apart _ d12 := fun_of F12
  have T13 : Fun K "check_told" "check_told" s_check_told _ d13 := fun_of F13
  have T14 : Fun K "sheet_of" "sheet_of" s_sheet_of _ d14 := fun_of F14
  have T15 : Fun K "_count_by_latest" "_count_by_latest" s__count_by_latest _ d15 := fun_of F15
  have T16 : Fun K "_running_sums" "_running_sums" s__running_sums _ d16 := fun_of F16
  have T17 : Fun K "days_in" "days_in" s_days_in _ d17 := fun_of F17
  have T18 : Fun K "width_in" "width_in" s_width_in _ d18 := fun_of F18
  have T19 : Fun K "visits_of" "visits_of" s_visits_of _ d19 := fun_of F19
  have T20 : Fun K "unlike_of" "unlike_of" s_unlike_of _ d20 := fun_of F20
  have T21 : Fun K "told_number" "told_number" s_told_number _ d21 := fun_of F21
  have T22 : Fun K "narrowed_sheet" "narrowed_sheet" s_narrowed_sheet _ d22 := fun_of F22
  have T23 : Fun K "_law_jar" "_law_jar" s__law_jar _ d23 := fun_of F23
  have T24 : Fun K "_law_dip" "_law_dip" s__law_dip _ d24 := fun_of F24
  have T25 : Fun K "_law_many" "_law_many" s__law_many _ d25 := fun_of F25
  have T26 : Fun K "_law_days" "_law_days" s__law_days _ d26 := fun_of F26
  have T27 : Fun K "_law_family" "_law_family" s__law_family _ d27 := fun_of F27
  have T28 : Fun K "_law_unlike" "_law_unlike" s__law_unlike _ d28 := fun_of F28
  have T29 : Fun K "_law_sheet" "_law_sheet" s__law_sheet _ d29 := fun_of F29
  have T30 : Fun K "_law_new_right" "_law_new_right" s__law_new_right _ d30 := fun_of F30
  have T31 : Fun K "_law_bent" "_law_bent" s__law_bent _ d31 := fun_of F31
  have T32 : Fun K "_law_right" "_law_right" s__law_right _ d32 := fun_of F32
  have T33 : Fun K "_law_any_right" "_law_any_right" s__law_any_right _ d33 := fun_of F33
  have T34 : Fun K "law" "law" s_law _ d34 := fun_of F34
  have b0 := T0.binds (ps := ["thing"]) fun _ _ _ _ _ _ us hl => match us, hl with | [_], _ => rfl
  have b1 := T1.binds (ps := ["thing", "least", "most"]) fun _ _ _ _ _ _ us hl => match us, hl with | [_, _, _], _ => rfl
  have b2 := T2.binds (ps := ["thing", "length"]) fun _ _ _ _ _ _ us hl => match us, hl with | [_, _], _ => rfl
  have b3 := T3.binds (ps := ["thing"]) fun _ _ _ _ _ _ us hl => match us, hl with | [_], _ => rfl
  have b4 := T4.binds (ps := ["thing", "count"]) fun _ _ _ _ _ _ us hl => match us, hl with | [_, _], _ => rfl
  have b5 := T5.binds (ps := ["thing", "count"]) fun _ _ _ _ _ _ us hl => match us, hl with | [_, _], _ => rfl
  have b6 := T6.binds (ps := ["thing", "count"]) fun _ _ _ _ _ _ us hl => match us, hl with | [_, _], _ => rfl
  have b7 := T7.binds (ps := ["sheet"]) fun _ _ _ _ _ _ us hl => match us, hl with | [_], _ => rfl
  have b8 := T8.binds (ps := ["family", "count"]) fun _ _ _ _ _ _ us hl => match us, hl with | [_, _], _ => rfl
  have b9 := T9.binds (ps := ["count"]) fun _ _ _ _ _ _ us hl => match us, hl with | [_], _ => rfl
  have b10 := T10.binds (ps := ["width", "most"]) fun _ _ _ _ _ _ us hl => match us, hl with | [_, _], _ => rfl
  have b11 := T11.binds (ps := ["sheet", "day"]) fun _ _ _ _ _ _ us hl => match us, hl with | [_, _], _ => rfl
  have b12 := T12.binds (ps := ["sheet", "first", "last", "least"]) fun _ _ _ _ _ _ us hl => match us, hl with | [_, _, _, _], _ => rfl
  have b13 := T13.binds (ps := ["sheet", "first", "last", "least"]) fun _ _ _ _ _ _ us hl => match us, hl with | [_, _, _, _], _ => rfl
  have b14 := T14.binds (ps := ["family", "count", "width"]) fun _ _ _ _ _ _ us hl => match us, hl with | [_, _, _], _ => rfl
  have b15 := T15.binds (ps := ["by_latest", "pattern", "many"]) fun _ _ _ _ _ _ us hl => match us, hl with | [_, _, _], _ => rfl
  have b16 := T16.binds (ps := ["row"]) fun _ _ _ _ _ _ us hl => match us, hl with | [_], _ => rfl
  have b17 := T17.binds (ps := ["sheet"]) fun _ _ _ _ _ _ us hl => match us, hl with | [_], _ => rfl
  have b18 := T18.binds (ps := ["sheet"]) fun _ _ _ _ _ _ us hl => match us, hl with | [_], _ => rfl
  have b19 := T19.binds (ps := ["sheet", "day"]) fun _ _ _ _ _ _ us hl => match us, hl with | [_, _], _ => rfl
  have b20 := T20.binds (ps := ["sheet", "first", "last"]) fun _ _ _ _ _ _ us hl => match us, hl with | [_, _, _], _ => rfl
  have b21 := T21.binds (ps := ["sheet", "first", "last"]) fun _ _ _ _ _ _ us hl => match us, hl with | [_, _, _], _ => rfl
  have b22 := T22.binds (ps := ["sheet", "width"]) fun _ _ _ _ _ _ us hl => match us, hl with | [_, _], _ => rfl
  have b23 := T23.binds (ps := ["script", "k"]) fun _ _ _ _ _ _ us hl => match us, hl with | [_, _], _ => rfl
  have b24 := T24.binds (ps := ["jar", "many"]) fun _ _ _ _ _ _ us hl => match us, hl with | [_, _], _ => rfl
  have b25 := T25.binds (ps := ["jar"]) fun _ _ _ _ _ _ us hl => match us, hl with | [_], _ => rfl
  have b26 := T26.binds (ps := ["jar", "count_here"]) fun _ _ _ _ _ _ us hl => match us, hl with | [_, _], _ => rfl
  have b27 := T27.binds (ps := ["jar", "count_here", "size"]) fun _ _ _ _ _ _ us hl => match us, hl with | [_, _, _], _ => rfl
  have b28 := T28.binds (ps := ["some", "begin", "end"]) fun _ _ _ _ _ _ us hl => match us, hl with | [_, _, _], _ => rfl
  have b29 := T29.binds (ps := ["some", "count_here", "wide"]) fun _ _ _ _ _ _ us hl => match us, hl with | [_, _, _], _ => rfl
  have b30 := T30.binds (ps := ["found", "due"]) fun _ _ _ _ _ _ us hl => match us, hl with | [_, _], _ => rfl
  have b31 := T31.binds (ps := ["jar", "sheet_here"]) fun _ _ _ _ _ _ us hl => match us, hl with | [_, _], _ => rfl
  have b32 := T32.binds (ps := ["jar", "some", "count_here", "wide"]) fun _ _ _ _ _ _ us hl => match us, hl with | [_, _, _, _], _ => rfl
  have b33 := T33.binds (ps := ["jar", "sheet_here"]) fun _ _ _ _ _ _ us hl => match us, hl with | [_, _], _ => rfl
  have m_abs := fr "abs" (by decide)
  have m_all := fr "all" (by decide)
  have m_enumerate := fr "enumerate" (by decide)
  have m_int := fr "int" (by decide)
  have m_len := fr "len" (by decide)
  have m_list := fr "list" (by decide)
  have m_max := fr "max" (by decide)
  have m_min := fr "min" (by decide)
  have m_range := fr "range" (by decide)
  have m_repr := fr "repr" (by decide)
  have m_sorted := fr "sorted" (by decide)
  have m_tuple := fr "tuple" (by decide)
  have m_type := fr "type" (by decide)
  have m_zip := fr "zip" (by decide)
  have g0 := gl "is_integer" (by decide)
  have g1 := gl "is_between" (by decide)
  have g2 := gl "is_row" (by decide)
  have g3 := gl "is_sheet" (by decide)
  have g4 := gl "is_pattern" (by decide)
  have g5 := gl "is_group" (by decide)
  have g6 := gl "is_family_below" (by decide)
  have g7 := gl "check_sheet" (by decide)
  have g8 := gl "check_family" (by decide)
  have g9 := gl "check_count" (by decide)
  have g10 := gl "check_width" (by decide)
  have g11 := gl "check_day" (by decide)
  have g12 := gl "check_apart" (by decide)
  have g13 := gl "check_told" (by decide)
  have g14 := gl "sheet_of" (by decide)
  have g15 := gl "_count_by_latest" (by decide)
  have g16 := gl "_running_sums" (by decide)
  have g17 := gl "days_in" (by decide)
  have g18 := gl "width_in" (by decide)
  have g19 := gl "visits_of" (by decide)
  have g20 := gl "unlike_of" (by decide)
  have g21 := gl "told_number" (by decide)
  have g22 := gl "narrowed_sheet" (by decide)
  have g23 := gl "_law_jar" (by decide)
  have g24 := gl "_law_dip" (by decide)
  have g25 := gl "_law_many" (by decide)
  have g26 := gl "_law_days" (by decide)
  have g27 := gl "_law_family" (by decide)
  have g28 := gl "_law_unlike" (by decide)
  have g29 := gl "_law_sheet" (by decide)
  have g30 := gl "_law_new_right" (by decide)
  have g31 := gl "_law_bent" (by decide)
  have g32 := gl "_law_right" (by decide)
  have g33 := gl "_law_any_right" (by decide)
  refine ⟨d34, fun s v => b s [v] rfl, fun base _ _ => ?_⟩
  have G24 : FnOk P w K mg base CX0 1 _ d24 ["jar", "many"] spDip := ok_dip (k := 0) (F := T24)  (m_int := m_int)
  have G28 : FnOk P w K mg base CX0 1 _ d28 ["some", "begin", "end"] spUnl := ok_unl (k := 0) (F := T28)  
  have G29 : FnOk P w K mg base CX0 1 _ d29 ["some", "count_here", "wide"] spShe := ok_she (k := 0) (F := T29)  (m_range := m_range) (m_zip := m_zip) (m_len := m_len)
  have G30 : FnOk P w K mg base CX0 1 _ d30 ["found", "due"] spNew := ok_new (k := 0) (F := T30)  (m_range := m_range) (m_enumerate := m_enumerate) (m_len := m_len) (m_list := m_list)
  have G0 : FnOk P w K mg base CX0 1 _ d0 ["thing"] spIsInt := ok_isint (k := 0) (F := T0)  (m_type := m_type) (m_int := m_int)
  have G1 : FnOk P w K mg base CX0 2 _ d1 ["thing", "least", "most"] spBetw := ok_betw (k := 1) (F := T1) (F_is_integer := T0) (G_is_integer := G0.mono (by decide)) (b_is_integer := b0) (g_is_integer := g0) 
  have G4 : FnOk P w K mg base CX0 3 _ d4 ["thing", "count"] spPat := ok_pat (k := 2) (F := T4) (F_is_between := T1) (G_is_between := G1.mono (by decide)) (b_is_between := b1) (g_is_between := g1) (m_type := m_type) (m_tuple := m_tuple) (m_len := m_len) (m_all := m_all) (m_range := m_range)
  have G5 : FnOk P w K mg base CX0 4 _ d5 ["thing", "count"] spGroup := ok_group (k := 3) (F := T5) (F_is_pattern := T4) (G_is_pattern := G4.mono (by decide)) (b_is_pattern := b4) (g_is_pattern := g4) (F_is_integer := T0) (G_is_integer := G0.mono (by decide)) (b_is_integer := b0) (g_is_integer := g0) (m_type := m_type) (m_tuple := m_tuple) (m_len := m_len)
  have G6 : FnOk P w K mg base CX0 5 _ d6 ["thing", "count"] spFamB := ok_famB (k := 4) (F := T6) (F_is_group := T5) (G_is_group := G5.mono (by decide)) (b_is_group := b5) (g_is_group := g5) (g_MOST_GROUPS := g_MOST_GROUPS) (m_type := m_type) (m_list := m_list) (m_len := m_len)
  have G8 : FnOk P w K mg base CX0 6 _ d8 ["family", "count"] spCkFam := ok_ckfam (k := 5) (F := T8) (F_is_family_below := T6) (G_is_family_below := G6.mono (by decide)) (b_is_family_below := b6) (g_is_family_below := g6) 
  have G9 : FnOk P w K mg base CX0 3 _ d9 ["count"] spCkCount := ok_ckcount (k := 2) (F := T9) (F_is_between := T1) (G_is_between := G1.mono (by decide)) (b_is_between := b1) (g_is_between := g1) (g_MOST_DAYS := g_MOST_DAYS)
  have G10 : FnOk P w K mg base CX0 3 _ d10 ["width", "most"] spCkWidth := ok_ckwidth (k := 2) (F := T10) (F_is_between := T1) (G_is_between := G1.mono (by decide)) (b_is_between := b1) (g_is_between := g1) 
  have G15 : FnOk P w K mg base CX0 1 _ d15 ["by_latest", "pattern", "many"] spCbl := ok_cbl (k := 0) (F := T15)  (m_len := m_len) (m_range := m_range)
  have G16 : FnOk P w K mg base CX0 1 _ d16 ["row"] spSums := ok_sums (k := 0) (F := T16)  
  have G14 : FnOk P w K mg base CX0 7 _ d14 ["family", "count", "width"] spSheetOf := ok_sheetof (k := 6) (F := T14) (F_check_family := T8) (G_check_family := G8.mono (by decide)) (b_check_family := b8) (g_check_family := g8) (F_check_count := T9) (G_check_count := G9.mono (by decide)) (b_check_count := b9) (g_check_count := g9) (F_check_width := T10) (G_check_width := G10.mono (by decide)) (b_check_width := b10) (g_check_width := g10) (F__count_by_latest := T15) (G__count_by_latest := G15.mono (by decide)) (b__count_by_latest := b15) (g__count_by_latest := g15) (F__running_sums := T16) (G__running_sums := G16.mono (by decide)) (b__running_sums := b16) (g__running_sums := g16) (g_MOST_DAYS := g_MOST_DAYS) (m_range := m_range) (m_min := m_min)
  have G2 : FnOk P w K mg base CX0 2 _ d2 ["thing", "length"] spRow := ok_row (k := 1) (F := T2) (F_is_integer := T0) (G_is_integer := G0.mono (by decide)) (b_is_integer := b0) (g_is_integer := g0) (m_type := m_type) (m_list := m_list) (m_len := m_len) (m_all := m_all)
  have G3 : FnOk P w K mg base CX0 3 _ d3 ["thing"] spIsSh := ok_issh (k := 2) (F := T3) (F_is_row := T2) (G_is_row := G2.mono (by decide)) (b_is_row := b2) (g_is_row := g2) (g_MOST_DAYS := g_MOST_DAYS) (m_type := m_type) (m_list := m_list) (m_len := m_len) (m_all := m_all) (m_min := m_min) (m_enumerate := m_enumerate)
  have G7 : FnOk P w K mg base CX0 4 _ d7 ["sheet"] spCkSh := ok_cksh (k := 3) (F := T7) (F_is_sheet := T3) (G_is_sheet := G3.mono (by decide)) (b_is_sheet := b3) (g_is_sheet := g3) 
  have G17 : FnOk P w K mg base CX0 5 _ d17 ["sheet"] spDaysIn := ok_daysin (k := 4) (F := T17) (F_check_sheet := T7) (G_check_sheet := G7.mono (by decide)) (b_check_sheet := b7) (g_check_sheet := g7) (m_len := m_len)
  have G18 : FnOk P w K mg base CX0 5 _ d18 ["sheet"] spWidthIn := ok_widthin (k := 4) (F := T18) (F_check_sheet := T7) (G_check_sheet := G7.mono (by decide)) (b_check_sheet := b7) (g_check_sheet := g7) (m_len := m_len)
  have G11 : FnOk P w K mg base CX0 3 _ d11 ["sheet", "day"] spCkDay := ok_ckday (k := 2) (F := T11) (F_is_between := T1) (G_is_between := G1.mono (by decide)) (b_is_between := b1) (g_is_between := g1) (m_len := m_len)
  have G21 : FnOk P w K mg base CX0 1 _ d21 ["sheet", "first", "last"] spToldNo := ok_toldno (k := 0) (F := T21)  
  have G19 : FnOk P w K mg base CX0 5 _ d19 ["sheet", "day"] spVis := ok_vis (k := 4) (F := T19) (F_check_sheet := T7) (G_check_sheet := G7.mono (by decide)) (b_check_sheet := b7) (g_check_sheet := g7) (F_check_day := T11) (G_check_day := G11.mono (by decide)) (b_check_day := b11) (g_check_day := g11) (F_told_number := T21) (G_told_number := G21.mono (by decide)) (b_told_number := b21) (g_told_number := g21) 
  have G12 : FnOk P w K mg base CX0 4 _ d12 ["sheet", "first", "last", "least"] spCkAp := ok_ckap (k := 3) (F := T12) (F_check_day := T11) (G_check_day := G11.mono (by decide)) (b_check_day := b11) (g_check_day := g11) 
  have G13 : FnOk P w K mg base CX0 5 _ d13 ["sheet", "first", "last", "least"] spCkTold := ok_cktold (k := 4) (F := T13) (F_check_apart := T12) (G_check_apart := G12.mono (by decide)) (b_check_apart := b12) (g_check_apart := g12) (m_len := m_len)
  have G20 : FnOk P w K mg base CX0 6 _ d20 ["sheet", "first", "last"] spUnlike := ok_unlike (k := 5) (F := T20) (F_check_sheet := T7) (G_check_sheet := G7.mono (by decide)) (b_check_sheet := b7) (g_check_sheet := g7) (F_check_told := T13) (G_check_told := G13.mono (by decide)) (b_check_told := b13) (g_check_told := g13) (F_told_number := T21) (G_told_number := G21.mono (by decide)) (b_told_number := b21) (g_told_number := g21) 
  have G22 : FnOk P w K mg base CX0 5 _ d22 ["sheet", "width"] spNarr := ok_narr (k := 4) (F := T22) (F_check_sheet := T7) (G_check_sheet := G7.mono (by decide)) (b_check_sheet := b7) (g_check_sheet := g7) (F_check_width := T10) (G_check_width := G10.mono (by decide)) (b_check_width := b10) (g_check_width := g10) (m_len := m_len)
  have G23 : FnOk P w K mg base CX0 1 _ d23 ["script", "k"] (spJar K) := ok_jar (k := 0) (F := T23)  (m_int := m_int) (m_abs := m_abs) (m_len := m_len) (m_max := m_max)
  have G26 : FnOk P w K mg base CX0 2 _ d26 ["jar", "count_here"] spDays := ok_days (k := 1) (F := T26) (F__law_dip := T24) (G__law_dip := G24.mono (by decide)) (b__law_dip := b24) (g__law_dip := g24) (m_tuple := m_tuple) (m_range := m_range)
  have G25 : FnOk P w K mg base CX0 2 _ d25 ["jar"] spMany := ok_many (k := 1) (F := T25) (F__law_dip := T24) (G__law_dip := G24.mono (by decide)) (b__law_dip := b24) (g__law_dip := g24) 
  have G27 : FnOk P w K mg base CX0 3 _ d27 ["jar", "count_here", "size"] spFamily := ok_family (k := 2) (F := T27) (F__law_days := T26) (G__law_days := G26.mono (by decide)) (b__law_days := b26) (g__law_days := g26) (F__law_many := T25) (G__law_many := G25.mono (by decide)) (b__law_many := b25) (g__law_many := g25) (m_range := m_range) (m_sorted := m_sorted)
  have G31 : FnOk P w K mg base CX0 2 _ d31 ["jar", "sheet_here"] spBent := ok_bent (k := 1) (F := T31) (F__law_dip := T24) (G__law_dip := G24.mono (by decide)) (b__law_dip := b24) (g__law_dip := g24) (m_range := m_range) (m_len := m_len) (m_list := m_list) (m_max := m_max)
  have G32 : FnG P w K mg base 8 _ d32 ["jar", "some", "count_here", "wide"] spRight := ok_right (k := 7) (F := T32)  (Z := ⟨T24, G24.mono (by decide), b24, g24, T28, G28.mono (by decide), b28, g28, T29, G29.mono (by decide), b29, g29, T30, G30.mono (by decide), b30, g30, T14, G14.mono (by decide), b14, g14, T17, G17.mono (by decide), b17, g17, T18, G18.mono (by decide), b18, g18, T19, G19.mono (by decide), b19, g19, T20, G20.mono (by decide), b20, g20, T22, G22.mono (by decide), b22, g22, m_repr, m_len, m_list, m_min, m_range⟩)
  have G33 : FnG P w K mg base 8 _ d33 ["jar", "sheet_here"] spAny := ok_any (k := 7) (F := T33)  (Z := ⟨T24, G24.mono (by decide), b24, g24, T28, G28.mono (by decide), b28, g28, T29, G29.mono (by decide), b29, g29, T30, G30.mono (by decide), b30, g30, T14, G14.mono (by decide), b14, g14, T17, G17.mono (by decide), b17, g17, T18, G18.mono (by decide), b18, g18, T19, G19.mono (by decide), b19, g19, T20, G20.mono (by decide), b20, g20, T22, G22.mono (by decide), b22, g22, m_repr, m_len, m_list, m_min, m_range⟩)
  exact ok_law (k := 8) (F := T34) (F__law_jar := T23) (G__law_jar := G23.mono (by decide)) (b__law_jar := b23) (g__law_jar := g23) (F__law_family := T27) (G__law_family := G27.mono (by decide)) (b__law_family := b27) (g__law_family := g27) (F__law_bent := T31) (G__law_bent := G31.mono (by decide)) (b__law_bent := b31) (g__law_bent := g31) (F__law_right := T32) (G__law_right := G32.mono (by decide)) (b__law_right := b32) (g__law_right := g32) (F__law_any_right := T33) (G__law_any_right := G33.mono (by decide)) (b__law_any_right := b33) (g__law_any_right := g33) (Z := ⟨T24, G24.mono (by decide), b24, g24, T28, G28.mono (by decide), b28, g28, T29, G29.mono (by decide), b29, g29, T30, G30.mono (by decide), b30, g30, T14, G14.mono (by decide), b14, g14, T17, G17.mono (by decide), b17, g17, T18, G18.mono (by decide), b18, g18, T19, G19.mono (by decide), b19, g19, T20, G20.mono (by decide), b20, g20, T22, G22.mono (by decide), b22, g22, m_repr, m_len, m_list, m_min, m_range⟩) (m_max := m_max)
end K01
open PySem PySem.W PySem.Calls PyProof.Rows
theorem PySem.Challenge.cw_facesagain_k01_sheets_of_families_holds : PySem.Challenge.rw_facesagain_k01_sheets_of_families.Holds := by
  w_on; o_law
  refine HandSHeadRun.head_any (r := OpenLaw.row PySem.Challenge.rw_facesagain_k01_sheets_of_families) (q := view (OpenLaw.row PySem.Challenge.rw_facesagain_k01_sheets_of_families).prog [46]) (H := K01.hk) (ob := K01.ob) (M := 4000) (loose := K01.loo) (d := HandSHeadRun.topDef (OpenLaw.row PySem.Challenge.rw_facesagain_k01_sheets_of_families).prog 46) (kwd := []) K01.ob_eq
    (by kernel_rfl) (fun s => by kernel_rfl) K01.run (by kernel_rfl) (by kernel_rfl) (by kernel_rfl) (by rfl) (by first | assumption | decide +kernel) (by decide +kernel) ⟨rfl, rfl, rfl, rfl, rfl, by decide +kernel⟩ ?hw ?hc
  case hw => w_witness2
  case hc =>
    refine Fa.walkG (l := PySem.Challenge.rw_facesagain_k01_sheets_of_families) (n := 63) (k := 9) (x := "script") rfl (by decide) (by kernel_rfl) ⟨rfl, by decide, by decide⟩ ?_
    intro w mg fa h Y G hmg0
    obtain ⟨K, KX, c⟩ := Y
    have hmg : mg ("law" : PySem.Str) = some (.ref fa) := by
      have e : (HandSHeadRun.topDef (OpenLaw.row PySem.Challenge.rw_facesagain_k01_sheets_of_families).prog 46).name = ("law" : PySem.Str) := by kernel_rfl
      rw [← e]
      exact hmg0
    obtain ⟨fd, hb, hF⟩ := K01.facts (P := (PySem.Challenge.rw_facesagain_k01_sheets_of_families).prog) (w := w) KX G hmg c
    exact ⟨K, fd, K01.spLaw K, KX, hb, fun H a ns hl _ hS => ⟨a, ns, rfl, hS, hl, fun _ => rfl⟩, hF⟩
