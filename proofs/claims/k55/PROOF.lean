import PyProof.Rows.All
import Wide.All
import OpenK.AllK
import Wide.FinOn
import HandS.ForMost
import HandS.ExcValue
import HandS.ExcInit
import HandS.IsInst
import HandS.ExcIs
import HandS.ExcField
import HandS.Wide
import HandS.WideBits
import HandS.MakeKwOnly
import KE.KExcIs
import HandS.Defaults
import HandS.HeadEnd
import HandS.HeadHook4
import HandS.Head2
import HandS.TupSets
import HandS.TupAny
import PySem.Challenge.RW_facesagain_k55_errors_made
set_option Elab.async false
set_option linter.all false
set_option maxRecDepth 100000
/-! exceptions of own classes as values: made with an own __init__ (positional, keywords), their fields, isinstance -/
namespace PySem
namespace Fa
open PySem.W PySem.Calls PyProof.Rows PySem.HandSPX
section
variable {prog : Program} {w : World} {A : Around} {E : Value → Shared → Prop} {R : Result → Shared → Prop} {h : Heap} {g : Array GenState} {d : Drawn} {t : Nat} {os : OsState}
variable {nm q : Str} {C N : Addr} {bs bm bmB : List Value} {hdct : Bool} {sn : List Str} {sub : List Value} {ab : Bool} {col : Option Bool} {dd : Option Addr} {k0 k1 k2 k3 k5 : Option Value} {B newId initId : String}
theorem kw_check (F : ExcBaseFacts B newId initId bmB) (same : ∀ X : String, bm.contains (.type X) = bmB.contains (.type X)) {us : List Value} {kw : List (Str × Value)} {Q : Unit → Shared → Prop}
    (oC : h.get? C = some (excClassObj nm q C N bs bm hdct sn sub ab col dd k0 k1 k2 k3 k5 newId)) (fin : Q () ⟨h, g, d, t, os⟩) : wpAny (model prog w) A (checkBuiltinCall newId ⟨.ref C :: us, kw⟩) Q E ⟨h, g, d, t, os⟩ := by
  have c1 : (Value.ref C :: bm).contains (.type B) = true := by rw [List.contains_cons, same, F.hasB, Bool.or_true]
  have c2 := F.noStar
  simp only [checkBuiltinCall, F.newKind, F.newSplit, F.newRow]
  repeat (first
    | refine wpAny_loadPart_at oC ?_
    | (refine wpAny_isSubtype_exc oC ?_; rw [c1])
    | refine wpAny_staticBase_exc oC ?_
    | refine wpAny_madeBy_exc oC ?_
    | simp only [bne_self_eq_false, Bool.false_eq_true, if_false]
    | wp_step)
  exact fin
theorem kw_new (F : ExcBaseFacts B newId initId bmB) (same : ∀ X : String, bm.contains (.type X) = bmB.contains (.type X)) {us : List Value} {kw : List (Str × Value)}
    (oC : h.get? C = some (excClassObj nm q C N bs bm hdct sn sub ab col dd k0 k1 k2 k3 k5 newId))
    (fin : R (.ok (.ret (.ref (h.objs.size + 1)))) ⟨(h.push { cls := .type "tuple", data := .seq us.toArray }).push { cls := .ref C, data := .fields #[.ref h.objs.size, .none, .none, .none, .bool false, .none] }, g, d, t, os⟩)
    (hu : us.length ≤ sizeLine) : codeAny (model prog w) A (.builtin newId ⟨.ref C :: us, kw⟩) R ⟨h, g, d, t, os⟩ := by
  have c0 := F.ends
  have c1 : (Value.ref C :: bm).contains (.type B) = true := by rw [List.contains_cons, same, F.hasB, Bool.or_true]
  have c2 : (Value.ref C :: bm).contains (.type "AttributeError") = false := by rw [List.contains_cons, same, F.noAttr]; rfl
  have c3 : (Value.ref C :: bm).contains (.type "NameError") = false := by rw [List.contains_cons, same, F.noName]; rfl
  refine codeAny_builtinAt F.entry ?_
  unfold Builtin.«BaseException.__new__»
  refine wpAt_bind ?_
  show wpAt _ _ _ (stack >>= _) _ _ _
  refine wpAt_bind (wpAt_stack fun p below => wpAt_of_wpAny ?_)
  wp_walk
  refine wpAt_of_wpAny ?_
  rw [F.owner]
  repeat (first
    | with_reducible refine wpAny_madeHere_exc F.canon oC ?_
    | with_reducible refine wpAny_loadPart_at oC ?_
    | (with_reducible refine wpAny_isSubtype_exc oC ?_; first | rw [c1] | rw [c2] | rw [c3])
    | wp_step)
  show R _ _
  rw [Heap.size_push]
  exact fin
theorem kw_type_call (F : ExcBaseFacts B newId initId bmB) (same : ∀ X : String, bm.contains (.type X) = bmB.contains (.type X)) {us : List Value} {kw : List (Str × Value)} {fI : Addr} {Q : Fin → Shared → Prop}
    (oC : h.get? C = some (excClassObj nm q C N bs bm hdct sn sub ab col dd k0 k1 k2 k3 k5 newId))
    (hi : W.Looks (model prog w) h (typeLookup (.ref C) "__init__") (some (.ref fI))) (hb : ∀ self, W.Looks (model prog w) h (bindSpecial (.ref fI) self) (.ref fI, [self])) (hu : us.length ≤ sizeLine)
    (run : codeAny (model prog w) A (.call (.ref fI) ⟨.ref (h.objs.size + 1) :: us, kw⟩)
      (fun r s' => match r with | .ok (.ret v) => v = .none ∧ Q (.done (.ret (.ref (h.objs.size + 1)))) s' | .ok _ => False | .error e => E e s')
      ⟨(h.push (W.kdv_tup us)).push (excO C h.objs.size), g, d, t, os⟩) :
    wpAny (model prog w) A (Builtin.«type.__call__» ⟨.ref C :: us, kw⟩) Q E ⟨h, g, d, t, os⟩ := by
  repeat (first
    | with_reducible refine wpAny_loadPart_at oC ?_
    | with_reducible refine wpAny_madeBy_exc oC ?_
    | wp_step)
  refine codeAny_call_builtin_code (Code.quiet_builtin _ F.quiet) (kw_check F same oC ?_)
  refine kw_new F same oC ?_ hu
  show wpAny _ _ _ _ _ _
  have kk : ∀ b o, h.get? b = some o → ((h.push (W.kdv_tup us)).push (excO C h.objs.size)).get? b = some o := fun b o e =>
    Heap.get?_push_of_some _ (Heap.get?_push_of_some _ e)
  have oC1 := kk _ _ oC
  have oE : ((h.push (W.kdv_tup us)).push (excO C h.objs.size)).get? (h.objs.size + 1) = some (excO C h.objs.size) := by
    heap_get
  have cC : (Value.ref C :: bm).contains (.ref C) = true := by
    simp
  have i1 := hi.keeps kk
  have b1 := (hb (.ref (h.objs.size + 1))).keeps kk
  unfold isInstance
  repeat (first
    | with_reducible refine wpAny_loadPart_at oE ?_
    | (with_reducible refine wpAny_isSubtype_exc oC1 ?_; rw [cC])
    | wp_step)
  show wpAny _ _ (typeLookup (.ref C) _) _ _ _
  refine i1.at ?_
  refine wpAny_holding (wpAny_bind (b1.at ?_))
  refine wpAny_bind (wpAny_call (codeAny_mono run fun r s' z => ?_))
  rcases r with e | (v | _ | _ | _) <;> first | exact z | exact z.elim | skip
  obtain ⟨rfl, z⟩ := z
  first
    | exact wpAny_pure (wpAny_pure z)
    | (wp_walk; exact z)
theorem kw_own (F : ExcBaseFacts B newId initId bmB) (same : ∀ X : String, bm.contains (.type X) = bmB.contains (.type X)) {us : List Value} {kw : List (Str × Value)} {fI : Addr}
    (oC : h.get? C = some (excClassObj nm q C N bs bm hdct sn sub ab col dd k0 k1 k2 k3 k5 newId))
    (hi : W.Looks (model prog w) h (typeLookup (.ref C) "__init__") (some (.ref fI))) (hb : ∀ self, W.Looks (model prog w) h (bindSpecial (.ref fI) self) (.ref fI, [self])) (hu : us.length ≤ sizeLine)
    (run : codeAny (model prog w) (A.under (.builtin "type.__call__" ⟨.ref C :: us, kw⟩)) (.call (.ref fI) ⟨.ref (h.objs.size + 1) :: us, kw⟩) (W.InitBack (h.objs.size + 1) R)
      ⟨(h.push (W.kdv_tup us)).push (excO C h.objs.size), g, d, t, os⟩) :
    codeAny (model prog w) A (.call (.ref C) ⟨us, kw⟩) R ⟨h, g, d, t, os⟩ := by
  have f1 := tc_lookup
  have f2 := tc_bind (.ref C)
  have hTy : (⟨h, g, d, t, os⟩ : Shared).TypeIs (.ref C) "type" := ⟨_, oC, rfl⟩
  refine codeAny_of_tree ?_
  show wpAny _ _ (callAny (.ref C) _) _ _ _
  repeat (any_goals (first
    | assumption
    | with_reducible refine wpAny_loadPart_at oC ?_
    | wp_step))
  refine ⟨rfl, ?_⟩
  refine codeAny_call_builtin_at (Code.quiet_builtin _ (by decide +kernel)) entry_typeCall (wpAny_check_type_call_sub oC (kw_type_call F same oC hi hb hu ?_))
  refine codeAny_mono run fun r s' z => ?_
  rcases r with e | (v | _ | _ | _) <;> exact z
end
end Fa
end PySem

namespace Fa
open PySem PySem.Spec PyProof.Rows L2
/-- C(e, .., k = v, ..), an own exception with its own __init__, as a value -/
def tMkV (C : Addr) (n m : Nat) (sp : Sp) (gV : List V → List V → List V) (t tk : TA) : TE := fun σ H Q => t σ H fun vs H1 => tk σ H1 fun zs H2 =>
  vs.length = n ∧ n ≤ 1000 ∧ zs.length = m ∧ ∀ a, H2 a = none → sp (gV (.ref a :: vs) zs) (upd H2 a (exo a C none)) (fun v H3 => v = .non ∧ Q (.ref a) H3) (fun _ _ _ => False)
section
variable {X : Cx} {CX : CXT} {k n : Nat} {fI C : Addr} {fd : FuncData} {ps ks : List Str} {sp : Sp} {x : Str} {p pos : Pos} {e : Expr} {es : List Expr} {kws : List Keyword} {t tk : TA} {g : List Value → List Value → List Value} {gV : List V → List V → List V}
theorem run_mkV {pins : List (Addr × Obj)} {σ : L2.St} {H : Hp} {s : Shared} {Q : VK} {us ws : List Value} {vs zs : List V} (T : OexC X.K C) (iC : PySem.W.findIn X.K (.ref C) "__init__" = some (some (.ref fI)))
    (tI : PySem.W.typeIn X.K (.ref fI) = some (.type "function")) (F1 : FnOk X.prog X.w X.K X.mg X.base CX k fI fd ps sp) (hr : Room (k + 1) X.A) (hb : KBn X.K fd ps (n + 1) ks g gV) (hx : Passes CX X (fun _ _ _ => False))
    (I : Inv X pins σ H s) (r : Vals vs us) (rz : Vals zs ws) (l1 : vs.length = n) (l0 : n ≤ 1000) (l2 : zs.length = ks.length)
    (h : ∀ a, H a = none → sp (gV (.ref a :: vs) zs) (upd H a (exo a C none)) (fun v H3 => v = .non ∧ Q (.ref a) H3) (fun _ _ _ => False)) :
    wpAny (model X.prog X.w) X.A (call (.ref C) us (ks.zip ws)) (EP X pins σ Q) X.xe s := by
  obtain ⟨nm, q, N, bs, bm, sn, sub, ab, col, dd, k0, k1, k2, k3, k5, hC, hbm⟩ := T.cls
  obtain ⟨hp, gg, dr, t1, os⟩ := s
  have big : hp.objs.size ≤ hp.objs.size + 1 := Nat.le_succ _
  have hq := h (hp.objs.size + 1) (I.hok.fresh big)
  have kk : ∀ b o, hp.get? b = some o → ((hp.push (PySem.W.kdv_tup us)).push (PySem.HandSPX.excO C hp.objs.size)).get? b = some o := fun b o e =>
    Heap.get?_push_of_some _ (Heap.get?_push_of_some _ e)
  have oE : ((hp.push (PySem.W.kdv_tup us)).push (PySem.HandSPX.excO C hp.objs.size)).get? (hp.objs.size + 1) = some (PySem.HandSPX.excO C hp.objs.size) := by
    heap_get
  have I2 : Inv X pins σ (upd H (hp.objs.size + 1) (exo (hp.objs.size + 1) C none)) ⟨(hp.push (PySem.W.kdv_tup us)).push (PySem.HandSPX.excO C hp.objs.size), gg, dr, t1, os⟩ :=
    I.laid (t' := t1) (a := hp.objs.size + 1) (o := exo (hp.objs.size + 1) C none) kk big (exo_ok oE)
  have r1 : Vals (V.ref (hp.objs.size + 1) :: vs) (Value.ref (hp.objs.size + 1) :: us) := .cons rfl r
  have r2 := hb.rel r1 rz
  have n1 : (Value.ref (hp.objs.size + 1) :: us).length = n + 1 := by
    rw [List.length_cons, ← r.length, l1]
  have hus : us.length ≤ sizeLine := by
    rw [← r.length, l1, sizeLine_eq]
    omega
  refine wpAny_call (PySem.Fa.kw_own F.excBase_ValueError (fun Y => PySem.HandSPX.refsVE_contains Y bm hbm) (I.kIn _ _ hC) (PySem.W.looks_findIn I.kIn iC) (fun self => PySem.W.bind_fn I.kIn self tI) hus
    (codeAny_mono (F1.run _ X.stack _ _ ⟨Value.ref (hp.objs.size + 1) :: us, ks.zip ws⟩ (g (Value.ref (hp.objs.size + 1) :: us) ws) _ _ (fun _ _ _ => False) (hr.make C us (ks.zip ws))
      (I2.env0.make C us (ks.zip ws)) (hb.to _ (Value.ref (hp.objs.size + 1) :: us) ws I2.kIn n1 (rz.length.symm.trans l2)) r2 hq) fun r s' hq' => ?_))
  cases r with
  | error er => exact hx pins σ _ _ er s' I2 hq'
  | ok fl =>
    cases fl with
    | ret u =>
      obtain ⟨v, H', I3, rv, ev, q3⟩ := I2.after hq'
      subst ev
      exact ⟨rv, V.ref (hp.objs.size + 1), H', I3, rfl, q3⟩
    | next => exact False.elim hq'
    | brk => exact False.elim hq'
    | cont => exact False.elim hq'
theorem pe_mkV (T : OexC X.K C) (iC : PySem.W.findIn X.K (.ref C) "__init__" = some (some (.ref fI))) (tI : PySem.W.typeIn X.K (.ref fI) = some (.type "function"))
    (F1 : FnOk X.prog X.w X.K X.mg X.base CX k fI fd ps sp) (hr : Room (k + 1) X.A) (hg : Gl X x) (hm : X.mg x = some (.ref C)) (hb : KBn X.K fd ps (n + 1) [] g gV) (hx : Passes CX X (fun _ _ _ => False)) (ha : PA X (e :: es) t)
    (hdb : (x == ("__debug__" : Str)) = false := by decide) (he : starEach (e :: es) X.env = (false, eval e X.env) :: starEach es X.env := by rfl) (hpl : (backTo pos (starEach es X.env)).any (·.1) = false := by rfl) :
    PE X (.Call (.Name x p) (e :: es) [] pos) (tMkV C n 0 sp gV t tNil) := by
  refine ⟨fun pins s σ H Q I h => ?_⟩
  refine wpAny_Call_Name_kw (ld_glob I hg hm ?_ hdb)
  refine PySem.W.callWith_K (h₀ := X.base) I.ok.mod.kin T.kC (thn (ha.run pos pins s σ H _ I h) fun us s1 ⟨vs, H1, I1, r1, l1, l0, l2, q1⟩ => ⟨I1.kIn, ?_⟩) he hpl
  exact run_mkV (ks := []) (ws := []) (zs := []) T iC tI F1 hr hb hx I1 r1 .nil l1 l0 l2 q1
theorem pe_mkVK (T : OexC X.K C) (iC : PySem.W.findIn X.K (.ref C) "__init__" = some (some (.ref fI))) (tI : PySem.W.typeIn X.K (.ref fI) = some (.type "function"))
    (F1 : FnOk X.prog X.w X.K X.mg X.base CX k fI fd ps sp) (hr : Room (k + 1) X.A) (hg : Gl X x) (hm : X.mg x = some (.ref C)) (hb : KBn X.K fd ps 1 ks g gV) (hx : Passes CX X (fun _ _ _ => False)) (hkw : PK X kws tk)
    (hall : (backToKw pos (keywordEach kws X.env)).all (·.1.isSome) = true := by rfl) (hks : (backToKw pos (keywordEach kws X.env)).filterMap (·.1) = ks := by rfl) (hdb : (x == ("__debug__" : Str)) = false := by decide)
    (hpl : ((backTo pos (starEach [] X.env)).any (·.1) || (backToKw pos (keywordEach kws X.env)).any (·.1.isNone)) = false := by rfl) :
    PE X (.Call (.Name x p) [] kws pos) (tMkV C 0 ks.length sp gV tNil tk) := by
  refine ⟨fun pins s σ H Q I h => ?_⟩
  refine wpAny_Call_Name_kw (ld_glob I hg hm ?_ hdb)
  refine PySem.W.callWith_KW0 (h₀ := X.base) I.ok.mod.kin T.kC hall ?_ hpl
  refine thn (hkw.run pos pins s σ H _ I h) fun ws s2 ⟨zs, H2, I2, rz, l1, l0, l2, q2⟩ => ⟨I2.kIn, ?_⟩
  rw [hks]
  exact run_mkV (us := []) (vs := []) T iC tI F1 hr hb hx I2 .nil rz rfl l0 l2 q2
end
/-- at a: an exception of the class at C, with these fields -/
def ExcAt (H : Hp) (a C : Addr) (fs : List (Str × V)) : Prop := (H a = some (ExO (.ref C) a) ∧ fs = []) ∨ ∃ d, H a = some (exo a C (some d)) ∧ H d = some (exd d fs)
theorem ExcAt.same {H H' : Hp} {a C : Addr} {fs : List (Str × V)} (e : Same H H') (h : ExcAt H a C fs) : ExcAt H' a C fs := by
  rcases h with ⟨h, z⟩ | ⟨d, h1, h2⟩
  · exact .inl ⟨e _ _ h, z⟩
  · exact .inr ⟨d, e _ _ h1, e _ _ h2⟩
theorem ExcAt.inst {P : Program} {w : World} {H : Hp} {h : Heap} {a C : Addr} {fs : List (Str × V)} (hok : HOk P w H h) (x : ExcAt H a C fs) : ∃ o od, PySem.W.InstAt h a o C od := by
  rcases x with ⟨x, _⟩ | ⟨d, x1, x2⟩
  · have y : ObjOk P w H h a (.ext fun h => ∃ (oe : Obj) (vs : Array Value), h.get? a = some oe ∧ Zc (.ref C) none oe ∧ oe.data = .fields vs ∧ vs[1]? = some .none ∧ vs[2]? = some .none ∧ 4 < vs.size) := hok a _ x
    obtain ⟨oe, vs, e, z, dt, _⟩ := y.1
    exact ⟨oe, none, e, z.1, by unfold PySem.W.notCls; rw [dt] <;> rfl, by rw [z.2]; trivial⟩
  · obtain ⟨t1, e⟩ := exo_at hok x1
    obtain ⟨mA, ⟨od, es, ep, e2, _⟩, _⟩ := exd_at hok x2
    exact ⟨_, some od, e, rfl, rfl, e2⟩
/-- what isinstance and a field's read ask of the class -/
structure KxC (K : PySem.W.Frag) (C : Addr) : Prop where
  cl : (PySem.W.clsIn K C).isSome = true
  ga : PySem.W.findIn K (.ref C) "__getattribute__" = some (some (.builtin "BaseException.__getattribute__"))
  gg : PySem.W.findIn K (.ref C) "__getattr__" = some none
  sb : PySem.W.subIn K (.ref C) (.type "BaseException") = some true
  ca : PySem.W.findIn K (.ref C) "__class__" = some (some (.builtin "object.__class__"))
  cg : PySem.W.specialIn K (.builtin "object.__class__") "__get__" = some (some (.builtin "getset_descriptor.__get__"))
  tk : PySem.W.takesIn K (.builtin "object.__class__") = some true
  mr : PySem.W.mroIn K C (.type "object") = some true
/-- isinstance(x, c), x an exception of an own class -/
def rIsiE (K : PySem.W.Frag) : List V → Hp → VK → Prop := fun xs H Q => ∃ (a C : Addr) (fs : List (Str × V)) (c : V) (u : Value) (b : Bool), xs = [.ref a, c] ∧ ExcAt H a C fs ∧ KxC K C ∧ ClsV c u ∧ PySem.W.kitOne K (.ref C) u = some b ∧ Q (.bl b) H
theorem call_isiE {X : Cx} : CallR X (.builtin "isinstance") (rIsiE X.K) := by
  intro pins s σ H xs us Q I r h
  obtain ⟨a, C, fs, c, u, b, rfl, ex, k, kc, e, q⟩ := h
  obtain ⟨u1, u2, rfl, r1, r2⟩ := vals2 r
  have e2 := kc.eq r2
  subst e2
  cases (show u1 = Value.ref a from r1)
  obtain ⟨o, od, J⟩ := ex.inst I.hok
  exact PySem.W.kia_one (PySem.W.kitx_exc k.cl k.ga k.gg k.sb k.ca k.cg k.tk k.mr) I.kIn J e (fun z => nomatch z) fun tk => ⟨.bl b, H, I.tok tk, rfl, q⟩
/-- e.f, e an exception of an own class that keeps it -/
def tXfV (K : PySem.W.Frag) (f : Str) (te : TE) : TE := fun σ H Q => te σ H fun x H1 => ∃ (a C d : Addr) (fs : List (Str × V)) (v : V), x = .ref a ∧ H1 a = some (exo a C (some d)) ∧ H1 d = some (exd d fs) ∧ XfC K C ∧
  PySem.W.findIn K (.ref C) f = some none ∧ fs.lookup f = some v ∧ Q v H1
theorem pe_xfV {X : Cx} {e : Expr} {te : TE} {pos : Pos} {n : Str} (he : PE X e te) (hb : attributeBase e n X.env (eval e X.env) = eval e X.env := by rfl) : PE X (.Attribute e n pos) (tXfV X.K n te) := by
  refine ⟨fun pins s σ H Q I h => ?_⟩
  refine attr_of hb (thn (he.run pins s σ H _ I h) fun u s1 hh => ?_)
  obtain ⟨x, H1, I1, rx, a, C, d, fs, v, ex, ea, ed, T, hno, l, q⟩ := hh
  subst ex
  obtain rfl : u = Value.ref a := rx
  obtain ⟨t1, hx⟩ := exo_at I1.hok ea
  obtain ⟨mA, hns, hr⟩ := exd_at I1.hok ed
  obtain ⟨od, ho, hl⟩ := lookIn_ns hns
  obtain ⟨u, hu, ru⟩ := RelO.some_of (v := v) (o := mA n) (by rw [← l]; exact hr n)
  have J : PySem.W.InstAt s1.heap a { cls := .ref C, dict := some d, data := .fields #[.ref t1, .none, .none, .none, .bool false, .none] } C (some od) := ⟨hx, rfl, rfl, ho⟩
  exact HandSPX.exc_get I1.kIn J T.ga T.gg T.exC (PySem.W.findObj_own T.hdC hno rfl (by rw [hl, hu])) (handed_of ru) ⟨v, H1, I1.tok _, ru, q⟩
/-! ### powers of any size -/
def CPowW (i j : Int) : Prop := 0 ≤ j ∧ j ≤ 64 ∧ ∃ n, i.natAbs < 2 ^ n ∧ n ≤ 1000000
theorem op_powW {X : Cx} : OpR X (binaryOp .Pow) (rI CPowW fun i j => .int (i ^ j.toNat)) := opI fun i j _ _ _ _ _ hc q => by
  obtain ⟨h0, h1, n, hn, hs⟩ := hc
  refine pow_int h0 ?_ q
  have b := PyProof.Rows.intBits_le hn
  have e : (2 : Int) ^ 27 = 134217728 := by decide
  have m : (Builtin.Int.intBits i : Int) * j ≤ 1000000 * 64 := Int.mul_le_mul (by omega) h1 h0 (by omega)
  omega
end Fa

namespace Fa
open PySem PySem.Spec PyProof.Rows L2
section
variable {K : PySem.W.Frag} {x qual : Str} {st : Stmt} {f : Addr} {fd : FuncData} {ps ks : List Str} {n : Nat}
/-- a def without defaults, from the head's facts -/
theorem fun_of (F : FunD K x qual (defArgs st) (defBody st) (defScope st) [] [] f fd) : Fun K x qual st f fd := by
  obtain ⟨oc, od, dV, kV, doc, pm, an, cdv, ct, osl, e, lk, hcd, hD, _⟩ := F.ex
  rcases hD with ⟨_, z⟩ | ⟨z, _⟩
  · subst z
    exact ⟨⟨oc, od, kV, doc, pm, an, cdv, ct, osl, e, lk, hcd⟩, F.kp⟩
  · exact absurd rfl z
/-- how its arguments bind, where some are written by name -/
theorem kbn_of (F : Fun K x qual st f fd) (g : {α : Type} → List α → List α → List α) (hrel : ∀ {vs zs : List V} {us ws : List Value}, Vals vs us → Vals zs ws → Vals (g vs zs) (g us ws))
    (h : ∀ (kV doc pm : Value) (an : Option Addr) (cdv ct : Value) (us ws : List Value), us.length = n → ws.length = ks.length → bindArgs (PySem.W.fnOf x qual (defArgs st) (defBody st) (defScope st) .none kV doc pm an cdv ct) ⟨us, ks.zip ws⟩ = pure (ps.zip (g us ws))) :
    KBn K fd ps n ks (fun us ws => g us ws) (fun vs zs => g vs zs) := by
  obtain ⟨oc, od, kV, doc, pm, an, cdv, ct, osl, e, lk, hcd⟩ := F.ex
  subst e
  exact ⟨fun s us ws _ h1 h2 => .of_eq (h kV doc pm an cdv ct us ws h1 h2), fun r1 r2 => hrel r1 r2⟩
end
/-! ### rules whose reading names the written part by a letter (for blocks) -/
section
variable (K : PySem.W.Frag) {X : Cx}
theorem ixL (h : X.K = K := by rfl) : IxR X (rIxL K) := h ▸ ix_list
theorem ixT (h : X.K = K := by rfl) : IxR X (rIxT K) := h ▸ ix_tup
theorem slL (h : X.K = K := by rfl) : SlR X (rSlL K) := h ▸ sl_list
def rLenQ : List V → Hp → VK → Prop := fun xs H Q => ∃ p ys, xs = [.ref p] ∧ (SqL K H p ys ∨ SqT K H p ys) ∧ Q (.int ys.length) H
theorem lenQ (h : X.K = K := by rfl) : CallR X (.builtin "len") (rLenQ K) := h ▸ call_len_seq
theorem isiQ (h : X.K = K := by rfl) : CallR X (.builtin "isinstance") (rIsi K) := h ▸ call_isi
theorem isiTQ (h : X.K = K := by rfl) : CallR X (.builtin "isinstance") (rIsiT K) := h ▸ call_isiT
theorem isiEQ (h : X.K = K := by rfl) : CallR X (.builtin "isinstance") (rIsiE K) := h ▸ call_isiE
theorem allQ (hc : X.calm = true) (h : X.K = K := by rfl) : CallR X (.builtin "all") (rAll K) := h ▸ cr_all hc
theorem eqQ (hu : X.A.units + 64 < cLine) (h : X.K = K := by rfl) : OpR X (compareOp .Eq) (rEqD K) := h ▸ op_eqD hu
theorem neQ (hu : X.A.units + 64 < cLine) (h : X.K = K := by rfl) : OpR X (compareOp .NotEq) (rNeD K) := h ▸ op_neD hu
theorem inQ (h : X.K = K := by rfl) : OpR X (compareOp .In) (rIn K false) := h ▸ op_in_seq
theorem listQ {tg l : Expr} {tl : TE} (hl : PE X l tl) (h : X.K = K := by rfl) : PI X tg l (iList K tl) := h ▸ pi_list hl
end
/-! ### small things of readings -/
theorem yes_if {σ : L2.St} {H : Hp} {A B : Hp → Prop} (h : A H) : tYes σ H (fun b H3 => if b = true then A H3 else B H3) := by
  show (if true = true then A H else B H)
  rw [if_pos rfl]
  exact h
theorem same_new {H : Hp} {p : Addr} {o : HO} (h : H p = none) : Same H (upd H p o) := fun b x e => by
  rw [upd_ne (ne_of_none e h)]
  exact e
theorem cut_map (ns : List Int) (lo hi : Option Int) : ∃ ms : List Int, cutV (ns.map V.int) lo hi = ms.map V.int ∧ ms.length ≤ ns.length := by
  refine ⟨(ns.drop (HT.sIx (ns.map V.int).length 0 lo)).take (HT.sIx (ns.map V.int).length (ns.map V.int).length hi - HT.sIx (ns.map V.int).length 0 lo), ?_, ?_⟩
  · unfold cutV
    rw [List.map_take, List.map_drop]
  · rw [List.length_take, List.length_drop]
    omega
def But (p : Addr) (H H' : Hp) : Prop := ∀ b, b ≠ p → H' b = H b
theorem But.refl (p : Addr) (H : Hp) : But p H H := fun _ _ => rfl
theorem But.trans {p : Addr} {H H1 H2 : Hp} (a : But p H H1) (b : But p H1 H2) : But p H H2 := fun c h => (b c h).trans (a c h)
theorem But.upd {p : Addr} {H H1 : Hp} {o : HO} (a : But p H H1) : But p H (upd H1 p o) := fun c h => (upd_ne h).trans (a c h)
theorem nat_lt_pow {x : Int} {n : Nat} (h0 : 0 < x) (h : x < 2 ^ n) : x.natAbs < 2 ^ n := by
  have e : ((2 ^ n : Nat) : Int) = (2 : Int) ^ n := by
    rw [Int.natCast_pow]
    rfl
  omega
theorem iteDS {c A B : Prop} [Decidable c] (hc : c) (h : A) : if decide c = true then A else B := by
  rw [decide_eq_true hc]
  exact iteT h
theorem int_at {ms : List Int} {i : Nat} {x : V} (h : (ms.map V.int)[i]? = some x) : ∃ n, ms[i]? = some n ∧ x = V.int n := by
  rw [List.getElem?_map] at h
  cases e : ms[i]? with
  | none =>
    rw [e] at h
    cases h
  | some z =>
    rw [e] at h
    exact ⟨z, rfl, (Option.some.inj h).symm⟩
end Fa

namespace Fa
open PySem PySem.Spec PyProof.Rows L2
/-! ### what the head tells of the exception classes, as one look -/
def oexB (K : PySem.W.Frag) (C : Addr) : Bool := (match K.lookup C with
  | some ⟨.type "type", _, .cls cd, sl⟩ => (match cd.mro, sl.toList with
    | .ref C' :: bm, [_, _, _, _, some (.builtin n), _] => C' == C && (n == "ValueError.__new__" && (!cd.hasDel && (cd.hasDict && PySem.HandSPX.refsVE bm)))
    | _, _ => false)
  | _ => false) && (He.eqO (PySem.W.findIn K (.ref C) "__setattr__") (some (some (.builtin "object.__setattr__"))) && (decide (PySem.W.subIn K (.ref C) (.type "BaseException") = some true) && (decide (PySem.W.typeIn K (.ref C) = some (.type "type")) && PySem.W.keepIn K (.ref C))))
theorem oexB_ok {K : PySem.W.Frag} {C : Addr} (q : oexB K C = true) : OexC K C := by
  unfold oexB at q
  obtain ⟨q, q2⟩ := He.ba q
  obtain ⟨q2, q3⟩ := He.ba q2
  obtain ⟨q3, q4⟩ := He.ba q3
  obtain ⟨q4, q5⟩ := He.ba q4
  refine ⟨?_, He.eqO_ok q2, of_decide_eq_true q3, of_decide_eq_true q4, q5⟩
  split at q
  · rename_i dd cd sl ho
    split at q
    · rename_i C' bm k0 k1 k2 k3 n k5 hm hs
      simp only [Bool.and_eq_true, beq_iff_eq, Bool.not_eq_true'] at q
      obtain ⟨rfl, rfl, hdel, hd1, ht⟩ := q
      obtain ⟨nm, bs, mro, ns, qn, hd, sn, sub, ab, col, del⟩ := cd
      dsimp only at hm hdel hd1
      subst hm hdel hd1
      have hsl : sl = #[k0, k1, k2, k3, some (.builtin "ValueError.__new__"), k5] := by
        obtain ⟨l⟩ := sl
        simp only at hs
        rw [hs]
      subst hsl
      exact ⟨nm, qn, ns, bs, bm, sn, sub, ab, col, dd, k0, k1, k2, k3, k5, ho, ht⟩
    · cases q
  · cases q
def kxB (K : PySem.W.Frag) (C : Addr) : Bool := (PySem.W.clsIn K C).isSome && (He.eqO (PySem.W.findIn K (.ref C) "__getattribute__") (some (some (.builtin "BaseException.__getattribute__"))) && (He.eqO (PySem.W.findIn K (.ref C) "__getattr__") (some none) &&
  (decide (PySem.W.subIn K (.ref C) (.type "BaseException") = some true) && (He.eqO (PySem.W.findIn K (.ref C) "__class__") (some (some (.builtin "object.__class__"))) && (He.eqO (PySem.W.specialIn K (.builtin "object.__class__") "__get__") (some (some (.builtin "getset_descriptor.__get__"))) &&
  (decide (PySem.W.takesIn K (.builtin "object.__class__") = some true) && decide (PySem.W.mroIn K C (.type "object") = some true)))))))
theorem kxB_ok {K : PySem.W.Frag} {C : Addr} (q : kxB K C = true) : KxC K C := by
  obtain ⟨h1, q⟩ := He.ba q
  obtain ⟨h2, q⟩ := He.ba q
  obtain ⟨h3, q⟩ := He.ba q
  obtain ⟨h4, q⟩ := He.ba q
  obtain ⟨h5, q⟩ := He.ba q
  obtain ⟨h6, q⟩ := He.ba q
  obtain ⟨h7, h8⟩ := He.ba q
  exact ⟨h1, He.eqO_ok h2, He.eqO_ok h3, of_decide_eq_true h4, He.eqO_ok h5, He.eqO_ok h6, of_decide_eq_true h7, of_decide_eq_true h8⟩
theorem all_lt {n : Nat} {f : Nat → Bool} (h : (List.range n).all f = true) : ∀ i, i < n → f i = true := fun i hi => List.all_eq_true.mp h i (List.mem_range.mpr hi)
end Fa

namespace K55
open PySem PySem.Spec PyProof.Rows L2 Fa
def topS (i : Nat) : Stmt := PySem.Challenge.pw_facesagain_k55_errors_made.main.body.getD i (.Pass ⟨0, 0, 0, 0⟩)
abbrev s__law_bag : Stmt := topS 17
abbrev N__law_bag : List Str := ["script", "stir", "cell"]
theorem sc__law_bag : FnScope N__law_bag ["script"] (defScope s__law_bag) := ⟨rfl, rfl, rfl, by decide +kernel, rfl, by decide +kernel, by decide +kernel⟩
abbrev s__law_stirred : Stmt := topS 18
abbrev N__law_stirred : List Str := ["bag", "wide", "found", "k", "mixed"]
theorem sc__law_stirred : FnScope N__law_stirred ["bag", "wide"] (defScope s__law_stirred) := ⟨rfl, rfl, rfl, by decide +kernel, rfl, by decide +kernel, by decide +kernel⟩
abbrev s__law_draw : Stmt := topS 19
abbrev N__law_draw : List Str := ["bag", "wide", "found"]
theorem sc__law_draw : FnScope N__law_draw ["bag", "wide"] (defScope s__law_draw) := ⟨rfl, rfl, rfl, by decide +kernel, rfl, by decide +kernel, by decide +kernel⟩
/-- the bag: its numbers, how many are read, what is left of one, the stir, the draws -/
structure BagAt (H : Hp) (p q : Addr) : Prop where
  ok : ∃ (xs : List Int) (i v s c : Int), q ≠ p ∧ H p = some (.lst [.ref q, .int i, .int v, .int s, .int c]) ∧ H q = some (.lst (xs.map V.int)) ∧ (∀ x ∈ xs, 0 ≤ x) ∧ 0 ≤ i ∧ 0 ≤ v ∧ 0 ≤ s ∧ s < 2147483647
section
variable {P : Program} {w : World} {K : PySem.W.Frag} {mg : Str → Option Value} {base : Heap}
def spBag (K : PySem.W.Frag) : Sp := fun vs H Q _ => ∃ (a : Addr) (ns : List Int), vs = [.ref a] ∧ SqL K H a (ns.map V.int) ∧ ns.length ≤ 63 ∧ ∀ H' p qq, Same H H' → H p = none → BagAt H' p qq → Q (.ref p) H'
theorem ok_bag {f : Addr} {fd : FuncData} {k : Nat} (F : Fun K "_law_bag" "_law_bag" s__law_bag f fd) (m_int : mg "int" = none) (m_abs : mg "abs" = none) : FnOk P w K mg base CX0 (k + 1) f fd ["script"] (spBag K) := by
  refine F.ok sc__law_bag (fun vs H Q E h => ?_) (fun cdv A outer s H vs Q E hr h => ?_)
  · obtain ⟨a, ns, rfl, _⟩ := h
    rfl
  · obtain ⟨a, ns, rfl, hS, hlen, q⟩ := h
    refine ⟨_, (pss_cons (ps_set (i := 1) sc__law_bag.nd rfl (by first | exact Or.inl rfl | exact Or.inr rfl) pe_int)
  (pss_cons (ps_for PassesOwn.never rfl (Fa.listQ K (pe_slice (Fa.slL K) (pv 0) po_none (po_some pe_int))) (pg_name (i := 2) sc__law_bag.nd rfl (by first | exact Or.inl rfl | exact Or.inr rfl)) (pss_one (ps_set (i := 1) sc__law_bag.nd rfl (by first | exact Or.inl rfl | exact Or.inr rfl) (pe_op op_mod (pe_callTy call_int1 (by rfl) m_int PyProof.Rows.boot_int (pa_cons (pe_op op_add (pe_op op_add (pe_op op_mul (pv 1) pe_int) (pe_op op_mod (pe_callTy call_int1 (by rfl) m_int PyProof.Rows.boot_int (pa_cons (pv 2) pa_nil)) pe_int)) pe_int) pa_nil)) pe_int))))
  (pss_one (ps_ret (pe_lst (pa_cons (pe_lc (own := [("cell", 2)]) (g := gName 2) (tt := tYes) rfl sc__law_bag.nd (Fa.listQ K (pe_slice (Fa.slL K) (pv 0) po_none (po_some pe_int))) (blkOk_by (N := N__law_bag) (sc := defScope s__law_bag) (by decide +kernel)) (fun _ _ _ _ _ => (pg_name (i := 2) sc__law_bag.nd rfl (by first | exact Or.inl rfl | exact Or.inr rfl))) (fun _ _ _ _ _ => pts_nil) (fun _ _ _ _ _ => (pe_op op_mod (pe_callTy call_int1 (by rfl) m_int PyProof.Rows.boot_int (pa_cons (pe_callB call_abs (by rfl) m_abs PyProof.Rows.boot_abs (pa_cons (pv 2) pa_nil)) pa_nil)) (pe_op Fa.op_powW (pe_op Fa.op_powW pe_int pe_int) pe_int)))) (pa_cons pe_int (pa_cons pe_int (pa_cons (pv 1) (pa_cons pe_int pa_nil)))))))))), ?_⟩
    refine ⟨.ref a, rfl, 63, rfl, a, _, rfl, hS, fun c nc => ?_⟩
    obtain ⟨ms, em, lm⟩ := cut_map ns none (some 63)
    rw [em]
    refine ⟨c, rfl, ⟨_, .inl (.inl upd_same)⟩, for_list (xs := ms.map V.int) (fun i σ H1 => H1 = upd H c (.lst (ms.map V.int)) ∧ ∃ (st : Int) (y : Option V), σ = [some (.ref a), some (.int st), y] ∧ 0 ≤ st ∧ st < 2147483647) ?_ ?_ ?_ ?_⟩
    · exact ⟨rfl, 163, none, rfl, by omega, by omega⟩
    · rintro i σ H1 _ ⟨rfl, _⟩
      exact .inl (.inl upd_same)
    · rintro i x σ H1 hx ⟨rfl, st, y, rfl, h0, h1⟩
      obtain ⟨n, rfl⟩ : ∃ n, x = V.int n := by
        rw [List.getElem?_map] at hx
        cases e : ms[i]? with
        | none =>
          rw [e] at hx
          cases hx
        | some z =>
          rw [e] at hx
          exact ⟨z, (Option.some.inj hx).symm⟩
      refine ⟨_, rfl, _, _, rfl, rfl, .inr ⟨by decide, by decide⟩, _, rfl, .inl ⟨_, rfl, _, _, rfl, rfl, (by show (0 : Int) < _; decide), _, _, rfl, rfl, _, _, rfl, rfl, .inl ⟨_, rfl, _, _, rfl, rfl, (by show (0 : Int) < _; decide), ?_⟩⟩⟩
      exact ⟨rfl, _, _, rfl, Int.emod_nonneg _ (by decide), Int.emod_lt_of_pos _ (by decide)⟩
    · rintro σ H1 ⟨rfl, st, y, rfl, h0, h1⟩
      have nca : ∀ {b : Addr} {o : HO}, H b = some o → b ≠ c := fun e => ne_of_none e nc
      have s1 : Same H (upd H c (.lst (ms.map V.int))) := same_new nc
      refine ⟨.ref a, rfl, 63, rfl, a, _, rfl, s1.seq hS, fun c2 nc2 => ?_⟩
      rw [em]
      generalize eH : upd H c (.lst (ms.map V.int)) = Hc at *
      have s2 : Same Hc (upd Hc c2 (.lst (ms.map V.int))) := same_new nc2
      refine ⟨c2, rfl, ⟨_, .inl (.inl upd_same)⟩, fun D nD => ?_⟩
      have s3 : Same (upd Hc c2 (.lst (ms.map V.int))) (upd (upd Hc c2 (.lst (ms.map V.int))) D (.lst [])) := same_new nD
      refine lc_list (xs := ms.map V.int) (fun i H2 => Same (upd Hc c2 (.lst (ms.map V.int))) H2 ∧ ∃ xs : List Int, xs.length = i ∧ H2 D = some (.lst (xs.map V.int)) ∧ ∀ x ∈ xs, 0 ≤ x) ?_ ?_ ?_ ?_
      · exact ⟨s3, [], rfl, upd_same, fun x h => nomatch h⟩
      · rintro i H2 _ ⟨s4, _⟩
        exact .inl (.inl (s4 _ _ upd_same))
      · rintro i x H2 hx ⟨s4, xs, el, eD, h2⟩
        obtain ⟨n, rfl⟩ : ∃ n, x = V.int n := by
          rw [List.getElem?_map] at hx
          cases e : ms[i]? with
          | none =>
            rw [e] at hx
            cases hx
          | some z =>
            rw [e] at hx
            exact ⟨z, (Option.some.inj hx).symm⟩
        have hi : i < ms.length := by
          have := (List.getElem?_eq_some_iff.mp hx).1
          rw [List.length_map] at this
          exact this
        refine ⟨rfl, yes_if ?_⟩
        refine ⟨_, rfl, _, rfl, .inl ⟨_, rfl, _, _, rfl, rfl, ⟨by decide, by decide, 10, by decide, by decide⟩, _, _, rfl, rfl, ⟨by decide, by decide, 300, by decide +kernel, by decide⟩, _, _, rfl, rfl, ?_, xs.map V.int, eD, ?_, ?_⟩⟩
        · show (0 : Int) < _
          decide +kernel
        · rw [List.length_map, el]
          exact small1000 (by omega)
        · refine ⟨fun b o e => ?_, xs ++ [(if n < 0 then -n else n) % ((10 ^ Int.toNat 60) ^ Int.toNat 10)], ?_, ?_, ?_⟩
          rotate_left
          · rw [List.length_append, el]
            rfl
          · rw [upd_same, List.map_append]
            rfl
          · intro x hx
            rcases List.mem_append.mp hx with hx | hx
            · exact h2 x hx
            · rw [List.mem_singleton.mp hx]
              exact Int.emod_nonneg _ (by decide +kernel)
          · rw [upd_ne (ne_of_none e nD)]
            exact s4 b o e
      · rintro H2 ⟨s4, xs, el, eD, h2⟩
        refine ⟨_, rfl, by show 5 ≤ sizeLine; decide, fun p np => ?_⟩
        have npD : p ≠ D := fun z => by
          rw [z, eD] at np
          cases np
        refine q _ p D (((s1.trans s2).trans s4).trans (same_new np)) ?_ ⟨xs, 0, 0, st, 0, npD.symm, upd_same, ?_, h2, by omega, by omega, h0, h1⟩
        · exact ((s1.trans s2).trans s4).free np
        · rw [upd_ne npD.symm]
          exact eD
def spDraw : Sp := fun vs H Q _ => ∃ (p qq : Addr) (wd : Int), vs = [.ref p, .int wd] ∧ BagAt H p qq ∧ 0 < wd ∧ wd < 2 ^ 3000 ∧ ∀ H' r, But p H H' → BagAt H' p qq → 0 ≤ r → r < wd → Q (.int r) H'
theorem ok_stirred {f : Addr} {fd : FuncData} {k : Nat} (F : Fun K "_law_stirred" "_law_stirred" s__law_stirred f fd) (m_int : mg "int" = none) (m_range : mg "range" = none) : FnOk P w K mg base CX0 (k + 1) f fd ["bag", "wide"] spDraw := by
  refine F.ok sc__law_stirred (fun vs H Q E h => ?_) (fun cdv A outer s H vs Q E hr h => ?_)
  · obtain ⟨p, qq, wd, rfl, _⟩ := h
    rfl
  · obtain ⟨p, qq, wd, rfl, hB, w0, w1, q⟩ := h
    refine ⟨_, (pss_cons (ps_set (i := 2) sc__law_stirred.nd rfl (by first | exact Or.inl rfl | exact Or.inr rfl) pe_int)
  (pss_cons (ps_for PassesOwn.never rfl (pi_range1 (by rfl) m_range (pa_cons (pe_op op_add pe_int (pe_op op_fdivW (pe_bits (pv 1)) pe_int)) pa_nil)) (pg_name (i := 3) sc__law_stirred.nd rfl (by first | exact Or.inl rfl | exact Or.inr rfl)) (pss_cons (ps_asg (pe_op op_add (pe_ix (Fa.ixL K) (pv 0) pe_int (fun _ _ => rfl)) pe_int) (pg_sub (pv 0) pe_int set_list))
  (pss_cons (ps_set (i := 4) sc__law_stirred.nd rfl (by first | exact Or.inl rfl | exact Or.inr rfl) (pe_op op_add (pe_op op_add (pe_op op_add (pe_op Fa.op_powW (pe_ix (Fa.ixL K) (pv 0) pe_int (fun _ _ => rfl)) pe_int) (pe_op op_mul pe_int (pe_ix (Fa.ixL K) (pv 0) pe_int (fun _ _ => rfl)))) (pe_op op_mul pe_int (pe_ix (Fa.ixL K) (pv 0) pe_int (fun _ _ => rfl)))) pe_int))
  (pss_cons (ps_asg (pe_op op_mod (pe_callTy call_int1 (by rfl) m_int PyProof.Rows.boot_int (pa_cons (pv 4) pa_nil)) pe_int) (pg_sub (pv 0) pe_int set_list))
  (pss_one (ps_set (i := 2) sc__law_stirred.nd rfl (by first | exact Or.inl rfl | exact Or.inr rfl) (pe_op op_add (pe_op op_mul (pv 2) pe_int) (pe_op op_fdivW (pe_ix (Fa.ixL K) (pv 0) pe_int (fun _ _ => rfl)) pe_int))))))))
  (pss_one (ps_ret (pe_op op_mod (pe_callTy call_int1 (by rfl) m_int PyProof.Rows.boot_int (pa_cons (pv 2) pa_nil)) (pv 1)))))), ?_⟩
    have hb := PyProof.Rows.intBits_le (nat_lt_pow w0 w1)
    have hb2 : (Builtin.Int.intBits wd : Int) / 27 ≤ 3000 / 27 := Int.ediv_le_ediv (by decide) (by omega)
    have hb3 : 0 ≤ (Builtin.Int.intBits wd : Int) / 27 := Int.ediv_nonneg (by omega) (by decide)
    refine ⟨_, rfl, wd, rfl, _, _, rfl, rfl, ⟨by decide, by decide⟩, _, _, rfl, rfl, _, rfl, by omega, by omega, ?_⟩
    refine for_range (lo := 0) (fun i σ H1 => But p H H1 ∧ BagAt H1 p qq ∧ ∃ (fo : Int) (y3 y4 : Option V), σ = [some (.ref p), some (.int wd), some (.int fo), y3, y4]) ?_ ?_ ?_
    · exact ⟨But.refl p H, hB, 0, none, none, rfl⟩
    · rintro i σ H1 hi ⟨hB1, ⟨xs, ii, v, st, c, nq, hp, hq, hx, i0, v0, s0, s1⟩, fo, y3, y4, rfl⟩
      refine ⟨_, rfl, _, _, _, _, rfl, rfl, .inl (.inl hp), rfl, _, _, rfl, rfl, _, rfl, p, _, _, 4, rfl, rfl, hp, rfl, ?_⟩
      refine ⟨_, rfl, _, _, _, _, rfl, rfl, .inl (.inl upd_same), rfl, _, _, rfl, rfl, ⟨by decide, by decide, 31, by omega, by decide⟩, ?_⟩
      refine ⟨_, rfl, _, _, _, _, rfl, rfl, .inl (.inl upd_same), rfl, _, _, rfl, rfl, .inl ⟨by decide, by decide⟩, _, _, rfl, rfl, ?_⟩
      refine ⟨_, rfl, _, _, _, _, rfl, rfl, .inl (.inl upd_same), rfl, _, _, rfl, rfl, .inl ⟨by decide, by decide⟩, _, _, rfl, rfl, _, _, rfl, rfl, ?_⟩
      refine ⟨_, rfl, .inl ⟨_, rfl, _, _, rfl, rfl, (by show (0 : Int) < _; decide), _, rfl, p, _, _, 3, rfl, rfl, upd_same, rfl, ?_⟩⟩
      refine ⟨_, rfl, _, _, rfl, rfl, .inr ⟨by decide, by decide⟩, _, rfl, _, _, _, _, rfl, rfl, .inl (.inl upd_same), rfl, _, _, rfl, rfl, ⟨by decide, by decide⟩, _, _, rfl, rfl, ?_⟩
      refine ⟨hB1.upd.upd, ⟨xs, ii, v, _, _, nq, upd_same, ?_, hx, i0, v0, Int.emod_nonneg _ (by decide), Int.emod_lt_of_pos _ (by decide)⟩, _, _, _, rfl⟩
      rw [upd_ne nq, upd_ne nq]
      exact hq
    · rintro σ H1 ⟨hB1, hB2, fo, y3, y4, rfl⟩
      refine ⟨_, rfl, .inl ⟨_, rfl, _, rfl, _, _, rfl, rfl, w0, ?_⟩⟩
      exact q _ _ hB1 hB2 (Int.emod_nonneg _ (by omega)) (Int.emod_lt_of_pos _ w0)
theorem ok_draw {f fS : Addr} {fd fdS : FuncData} {k : Nat} (F : Fun K "_law_draw" "_law_draw" s__law_draw f fd) (F__law_stirred : Fun K "_law_stirred" "_law_stirred" s__law_stirred fS fdS) (b__law_stirred : Binds K fdS ["bag", "wide"] [])
    (g__law_stirred : mg "_law_stirred" = some (.ref fS)) (m_int : mg "int" = none) (m_range : mg "range" = none) (m_len : mg "len" = none) : FnOk P w K mg base CX0 (k + 2) f fd ["bag", "wide"] spDraw := by
  have G__law_stirred : FnOk P w K mg base CX0 1 fS fdS ["bag", "wide"] spDraw := ok_stirred F__law_stirred m_int m_range
  refine F.ok sc__law_draw (fun vs H Q E h => ?_) (fun cdv A outer s H vs Q E hr h => ?_)
  · obtain ⟨p, qq, wd, rfl, _⟩ := h
    rfl
  · obtain ⟨p, qq, wd, rfl, ⟨xs, ii, v, st, c, nq, hp, hq, hx, i0, v0, s0, s1⟩, w0, w1, q⟩ := h
    refine ⟨_, (pss_cons (ps_if (PW.pt (pw_and (pt_cmpR op_eq (pe_ix (Fa.ixL K) (pv 0) pe_int (fun _ _ => rfl)) pe_int (nomark _)) (pw_and1 (pt_cmpR op_lt (pe_ix (Fa.ixL K) (pv 0) pe_int (fun _ _ => rfl)) (pe_callB (Fa.lenQ K) (by rfl) m_len PySem.boot_len (pa_cons (pe_ix (Fa.ixL K) (pv 0) pe_int (fun _ _ => rfl)) pa_nil)) (nomark _))))) (pss_cons (ps_asg (pe_ix (Fa.ixL K) (pe_ix (Fa.ixL K) (pv 0) pe_int (fun _ _ => rfl)) (pe_ix (Fa.ixL K) (pv 0) pe_int (fun _ _ => rfl)) (fun _ _ => rfl)) (pg_sub (pv 0) pe_int set_list))
  (pss_one (ps_asg (pe_op op_add (pe_ix (Fa.ixL K) (pv 0) pe_int (fun _ _ => rfl)) pe_int) (pg_sub (pv 0) pe_int set_list)))) (pss_one (ps_if (pt_cmpR op_eq (pe_ix (Fa.ixL K) (pv 0) pe_int (fun _ _ => rfl)) pe_int (nomark _)) (pss_one (ps_ret (pe_call G__law_stirred (hr.mono (by omega)) (by rfl) g__law_stirred F__law_stirred.kp b__law_stirred .nil pass0 (pa_cons (pv 0) (pa_cons (pv 1) pa_nil))))) pss_nil)))
  (pss_cons (ps_set (i := 2) sc__law_draw.nd rfl (by first | exact Or.inl rfl | exact Or.inr rfl) (pe_op op_mod (pe_callTy call_int1 (by rfl) m_int PyProof.Rows.boot_int (pa_cons (pe_ix (Fa.ixL K) (pv 0) pe_int (fun _ _ => rfl)) pa_nil)) (pv 1)))
  (pss_cons (ps_asg (pe_op op_fdivW (pe_ix (Fa.ixL K) (pv 0) pe_int (fun _ _ => rfl)) (pv 1)) (pg_sub (pv 0) pe_int set_list))
  (pss_one (ps_ret (pv 2)))))), ?_⟩
    obtain ⟨j, rfl⟩ : ∃ j : Nat, ii = j := ⟨ii.toNat, by omega⟩
    have wl : wd.natAbs.log2 < 9000 := (wide_div (i := 0) w0 (nat_lt_pow w0 w1) (by decide) (by decide)).2
    refine ⟨_, rfl, _, _, _, _, rfl, rfl, .inl (.inl hp), rfl, rfl, _, rfl, ite2 (fun e => ?_) (fun e => ?_)⟩
    · have ev : v = 0 := V.int.inj (of_decide_eq_true e)
      subst ev
      refine ⟨_, rfl, _, _, _, _, rfl, rfl, .inl (.inl hp), rfl, _, rfl, _, _, _, _, rfl, rfl, .inl (.inl hp), rfl, qq, _, rfl, .inl (.inl (.inl hq)), _, _, rfl, rfl, _, rfl, ite2 (fun e2 => ?_) (fun e2 => ?_)⟩
      · have hj : j < xs.length := by
          have := of_decide_eq_true e2
          rw [List.length_map] at this
          omega
        have ej : (xs.map V.int)[j]? = some (V.int xs[j]) := by
          rw [List.getElem?_map, List.getElem?_eq_getElem hj]
          rfl
        refine ⟨_, rfl, _, _, _, _, rfl, rfl, .inl (.inl hp), rfl, _, rfl, _, _, _, _, rfl, rfl, .inl (.inl hp), rfl, _, _, _, _, rfl, rfl, .inl (.inl hq), atI_nat ej, _, rfl, p, _, _, 2, rfl, rfl, hp, rfl, ?_⟩
        refine ⟨_, rfl, _, _, _, _, rfl, rfl, .inl (.inl upd_same), rfl, _, _, rfl, rfl, _, rfl, p, _, _, 1, rfl, rfl, upd_same, rfl, ?_⟩
        refine ⟨_, rfl, _, _, _, _, rfl, rfl, .inl (.inl upd_same), rfl, .inl ⟨_, rfl, _, rfl, _, _, rfl, rfl, w0, ?_⟩⟩
        refine ⟨_, rfl, _, _, _, _, rfl, rfl, .inl (.inl upd_same), rfl, _, rfl, _, _, rfl, rfl, ⟨w0, wl⟩, _, rfl, p, _, _, 2, rfl, rfl, upd_same, rfl, _, rfl, ?_⟩
        refine q _ _ (But.refl p H).upd.upd.upd ⟨xs, _, _, st, c, nq, upd_same, ?_, hx, by omega, Int.ediv_nonneg (hx _ (List.getElem_mem hj)) (by omega), s0, s1⟩ (Int.emod_nonneg _ (by omega)) (Int.emod_lt_of_pos _ w0)
        rw [upd_ne nq, upd_ne nq, upd_ne nq]
        exact hq
      · refine ⟨_, rfl, _, _, _, _, rfl, rfl, .inl (.inl hp), rfl, rfl, _, rfl, ?_⟩
        refine iteT ?_
        exact ⟨_, rfl, _, rfl, p, qq, wd, rfl, ⟨xs, _, _, st, c, nq, hp, hq, hx, i0, v0, s0, s1⟩, w0, w1, q⟩
    · refine iteF ?_
      refine ⟨_, rfl, _, _, _, _, rfl, rfl, .inl (.inl hp), rfl, rfl, _, rfl, ite2 (fun z => absurd z e) (fun _ => ?_)⟩
      refine ⟨_, rfl, _, _, _, _, rfl, rfl, .inl (.inl hp), rfl, .inl ⟨_, rfl, _, rfl, _, _, rfl, rfl, w0, ?_⟩⟩
      refine ⟨_, rfl, _, _, _, _, rfl, rfl, .inl (.inl hp), rfl, _, rfl, _, _, rfl, rfl, ⟨w0, wl⟩, _, rfl, p, _, _, 2, rfl, rfl, hp, rfl, _, rfl, ?_⟩
      refine q _ _ (But.refl p H).upd ⟨xs, _, _, st, c, nq, upd_same, ?_, hx, by omega, Int.ediv_nonneg v0 (by omega), s0, s1⟩ (Int.emod_nonneg _ (by omega)) (Int.emod_lt_of_pos _ w0)
      rw [upd_ne nq]
      exact hq
end
end K55

namespace K55
open PySem PySem.Spec PyProof.Rows L2 Fa
abbrev s__law_alike : Stmt := topS 20
abbrev N__law_alike : List Str := ["found", "due", "k"]
theorem sc__law_alike : FnScope N__law_alike ["found", "due"] (defScope s__law_alike) := ⟨rfl, rfl, rfl, by decide +kernel, rfl, by decide +kernel, by decide +kernel⟩
abbrev s__law_of : Stmt := topS 21
abbrev N__law_of : List Str := ["made", "found"]
theorem sc__law_of : FnScope N__law_of ["made"] (defScope s__law_of) := ⟨rfl, rfl, rfl, by decide +kernel, rfl, by decide +kernel, by decide +kernel⟩
abbrev s_Impossible___init__ : Stmt := inClass (topS 14) 0
abbrev N_Impossible___init__ : List Str := ["self", "word", "first", "second"]
theorem sc_Impossible___init__ : FnScope N_Impossible___init__ ["self", "word", "first", "second"] (defScope s_Impossible___init__) := ⟨rfl, rfl, rfl, by decide +kernel, rfl, by decide +kernel, by decide +kernel⟩
abbrev s_InvalidText___init__ : Stmt := inClass (topS 15) 0
abbrev N_InvalidText___init__ : List Str := ["self", "place"]
theorem sc_InvalidText___init__ : FnScope N_InvalidText___init__ ["self", "place"] (defScope s_InvalidText___init__) := ⟨rfl, rfl, rfl, by decide +kernel, rfl, by decide +kernel, by decide +kernel⟩
def nms : List Str := ["InvalidSheet", "InvalidFamily", "InvalidPattern", "InvalidJoins", "InvalidRow", "InvalidCount", "InvalidWidth", "InvalidDay", "InvalidNumber", "InvalidIndex", "NotFull", "NothingToUndo", "Impossible", "InvalidText", "FaceError"]
def cl (K : PySem.W.Frag) (i : Nat) : Addr := He.ga K (nms.getD i "")
/-- the classes: what is known of them -/
structure Cs (K : PySem.W.Frag) (mg : Str → Option Value) : Prop where
  g : ∀ i, i < 15 → mg (nms.getD i "") = some (.ref (cl K i))
  kx : ∀ i, i < 15 → KxC K (cl K i)
  kit : ∀ i j, i < 15 → j < 14 → PySem.W.kitOne K (.ref (cl K i)) (.ref (cl K j)) = some (decide (j = i))
  kf : ∀ i, i < 15 → PySem.W.kitOne K (.ref (cl K i)) (.ref (cl K 14)) = some true
  kv : ∀ i, i < 15 → PySem.W.kitOne K (.ref (cl K i)) (.type "ValueError") = some true
def ofList (i : Nat) : List V := (List.range 14).map fun j => .bl (decide (j = i))
def spOf (K : PySem.W.Frag) : Sp := fun vs H Q _ => ∃ (a : Addr) (i : Nat) (fs : List (Str × V)), vs = [.ref a] ∧ i < 15 ∧ ExcAt H a (cl K i) fs ∧ ∀ H' p, Same H H' → H p = none → H' p = some (.lst (ofList i)) → Q (.ref p) H'
def spInit3 (K : PySem.W.Frag) (C : Addr) : Sp := fun vs H Q _ => ∃ (a : Addr) (x y z : V), vs = [.ref a, x, y, z] ∧ H a = some (exo a C none) ∧
  ∀ H' d, H d = none → d ≠ a → (∀ b, b ≠ a → b ≠ d → H' b = H b) → H' a = some (exo a C (some d)) → H' d = some (exd d [("second", z), ("first", y), ("word", x)]) → Q .non H'
def spInit1 (K : PySem.W.Frag) (C : Addr) : Sp := fun vs H Q _ => ∃ (a : Addr) (x : V), vs = [.ref a, x] ∧ H a = some (exo a C none) ∧
  ∀ H' d, H d = none → d ≠ a → (∀ b, b ≠ a → b ≠ d → H' b = H b) → H' a = some (exo a C (some d)) → H' d = some (exd d [("place", x)]) → Q .non H'
section
variable {P : Program} {w : World} {K : PySem.W.Frag} {mg : Str → Option Value} {base : Heap}
theorem ok_init3 {C f : Addr} {fd : FuncData} {k : Nat} (F : Fun K "__init__" "Impossible.__init__" s_Impossible___init__ f fd) (T : OexC K C) (n1 : PySem.W.findIn K (.ref C) "word" = some none) (n2 : PySem.W.findIn K (.ref C) "first" = some none) (n3 : PySem.W.findIn K (.ref C) "second" = some none) :
    FnOk P w K mg base CX0 (k + 1) f fd ["self", "word", "first", "second"] (spInit3 K C) := by
  refine F.ok sc_Impossible___init__ (fun vs H Q E h => ?_) (fun cdv A outer s H vs Q E hr h => ?_)
  · obtain ⟨a, x, y, z, rfl, _⟩ := h
    rfl
  · obtain ⟨a, x, y, z, rfl, ha, q⟩ := h
    refine ⟨_, (pss_cons (ps_ost (pv 0) (pv 1))
  (pss_cons (ps_ost (pv 0) (pv 2))
  (pss_one (ps_ost (pv 0) (pv 3))))), ?_⟩
    refine ⟨_, rfl, _, rfl, a, C, rfl, T, n1, .inl ⟨ha, fun d nd nda => ?_⟩⟩
    have e1 : upd (upd H d (exd d [("word", x)])) a (exo a C (some d)) a = some (exo a C (some d)) := upd_same
    have e2 : upd (upd H d (exd d [("word", x)])) a (exo a C (some d)) d = some (exd d [("word", x)]) := by
      rw [upd_ne nda, upd_same]
    refine ⟨_, rfl, _, rfl, a, C, rfl, T, n2, .inr ⟨d, _, e1, e2, Nat.le_of_ble_eq_true rfl, ?_⟩⟩
    refine ⟨_, rfl, _, rfl, a, C, rfl, T, n3, .inr ⟨d, _, (by rw [upd_ne nda.symm]; exact e1), upd_same, Nat.le_of_ble_eq_true rfl, ?_⟩⟩
    refine q _ d nd nda (fun b hb hd => ?_) ?_ upd_same
    · rw [upd_ne hd, upd_ne hd, upd_ne hb, upd_ne hd]
    · rw [upd_ne nda.symm, upd_ne nda.symm]
      exact e1
theorem ok_init1 {C f : Addr} {fd : FuncData} {k : Nat} (F : Fun K "__init__" "InvalidText.__init__" s_InvalidText___init__ f fd) (T : OexC K C) (n1 : PySem.W.findIn K (.ref C) "place" = some none) :
    FnOk P w K mg base CX0 (k + 1) f fd ["self", "place"] (spInit1 K C) := by
  refine F.ok sc_InvalidText___init__ (fun vs H Q E h => ?_) (fun cdv A outer s H vs Q E hr h => ?_)
  · obtain ⟨a, x, rfl, _⟩ := h
    rfl
  · obtain ⟨a, x, rfl, ha, q⟩ := h
    refine ⟨_, (pss_one (ps_ost (pv 0) (pv 1))), ?_⟩
    refine ⟨_, rfl, _, rfl, a, C, rfl, T, n1, .inl ⟨ha, fun d nd nda => ?_⟩⟩
    refine q _ d nd nda (fun b hb hd => ?_) upd_same ?_
    · rw [upd_ne hb, upd_ne hd]
    · rw [upd_ne nda, upd_same]
theorem ok_of {f : Addr} {fd : FuncData} {k : Nat} (F : Fun K "_law_of" "_law_of" s__law_of f fd) (c : Cs K mg) (m_isinstance : mg "isinstance" = none) : FnOk P w K mg base CX0 (k + 1) f fd ["made"] (spOf K) := by
  have g_InvalidSheet := c.g 0 (by decide)
  have g_InvalidFamily := c.g 1 (by decide)
  have g_InvalidPattern := c.g 2 (by decide)
  have g_InvalidJoins := c.g 3 (by decide)
  have g_InvalidRow := c.g 4 (by decide)
  have g_InvalidCount := c.g 5 (by decide)
  have g_InvalidWidth := c.g 6 (by decide)
  have g_InvalidDay := c.g 7 (by decide)
  have g_InvalidNumber := c.g 8 (by decide)
  have g_InvalidIndex := c.g 9 (by decide)
  have g_NotFull := c.g 10 (by decide)
  have g_NothingToUndo := c.g 11 (by decide)
  have g_Impossible := c.g 12 (by decide)
  have g_InvalidText := c.g 13 (by decide)
  refine F.ok sc__law_of (fun vs H Q E h => ?_) (fun cdv A outer s H vs Q E hr h => ?_)
  · obtain ⟨a, i, fs, rfl, _⟩ := h
    rfl
  · obtain ⟨a, i, fs, rfl, hi, ex, q⟩ := h
    refine ⟨_, (pss_cons (ps_set (i := 1) sc__law_of.nd rfl (by first | exact Or.inl rfl | exact Or.inr rfl) (pe_lst (pa_cons (pe_callB (Fa.isiEQ K) (by rfl) m_isinstance PyProof.Rows.boot_isinstance (pa_cons (pv 0) (pa_cons (pe_glob (v := .ref _) rfl g_InvalidSheet rfl) pa_nil))) (pa_cons (pe_callB (Fa.isiEQ K) (by rfl) m_isinstance PyProof.Rows.boot_isinstance (pa_cons (pv 0) (pa_cons (pe_glob (v := .ref _) rfl g_InvalidFamily rfl) pa_nil))) (pa_cons (pe_callB (Fa.isiEQ K) (by rfl) m_isinstance PyProof.Rows.boot_isinstance (pa_cons (pv 0) (pa_cons (pe_glob (v := .ref _) rfl g_InvalidPattern rfl) pa_nil))) pa_nil)))))
  (pss_cons (ps_set (i := 1) sc__law_of.nd rfl (by first | exact Or.inl rfl | exact Or.inr rfl) (pe_op op_cat (pv 1) (pe_lst (pa_cons (pe_callB (Fa.isiEQ K) (by rfl) m_isinstance PyProof.Rows.boot_isinstance (pa_cons (pv 0) (pa_cons (pe_glob (v := .ref _) rfl g_InvalidJoins rfl) pa_nil))) (pa_cons (pe_callB (Fa.isiEQ K) (by rfl) m_isinstance PyProof.Rows.boot_isinstance (pa_cons (pv 0) (pa_cons (pe_glob (v := .ref _) rfl g_InvalidRow rfl) pa_nil))) (pa_cons (pe_callB (Fa.isiEQ K) (by rfl) m_isinstance PyProof.Rows.boot_isinstance (pa_cons (pv 0) (pa_cons (pe_glob (v := .ref _) rfl g_InvalidCount rfl) pa_nil))) pa_nil))))))
  (pss_cons (ps_set (i := 1) sc__law_of.nd rfl (by first | exact Or.inl rfl | exact Or.inr rfl) (pe_op op_cat (pv 1) (pe_lst (pa_cons (pe_callB (Fa.isiEQ K) (by rfl) m_isinstance PyProof.Rows.boot_isinstance (pa_cons (pv 0) (pa_cons (pe_glob (v := .ref _) rfl g_InvalidWidth rfl) pa_nil))) (pa_cons (pe_callB (Fa.isiEQ K) (by rfl) m_isinstance PyProof.Rows.boot_isinstance (pa_cons (pv 0) (pa_cons (pe_glob (v := .ref _) rfl g_InvalidDay rfl) pa_nil))) (pa_cons (pe_callB (Fa.isiEQ K) (by rfl) m_isinstance PyProof.Rows.boot_isinstance (pa_cons (pv 0) (pa_cons (pe_glob (v := .ref _) rfl g_InvalidNumber rfl) pa_nil))) pa_nil))))))
  (pss_cons (ps_set (i := 1) sc__law_of.nd rfl (by first | exact Or.inl rfl | exact Or.inr rfl) (pe_op op_cat (pv 1) (pe_lst (pa_cons (pe_callB (Fa.isiEQ K) (by rfl) m_isinstance PyProof.Rows.boot_isinstance (pa_cons (pv 0) (pa_cons (pe_glob (v := .ref _) rfl g_InvalidIndex rfl) pa_nil))) (pa_cons (pe_callB (Fa.isiEQ K) (by rfl) m_isinstance PyProof.Rows.boot_isinstance (pa_cons (pv 0) (pa_cons (pe_glob (v := .ref _) rfl g_NotFull rfl) pa_nil))) (pa_cons (pe_callB (Fa.isiEQ K) (by rfl) m_isinstance PyProof.Rows.boot_isinstance (pa_cons (pv 0) (pa_cons (pe_glob (v := .ref _) rfl g_NothingToUndo rfl) pa_nil))) pa_nil))))))
  (pss_one (ps_ret (pe_op op_cat (pv 1) (pe_lst (pa_cons (pe_callB (Fa.isiEQ K) (by rfl) m_isinstance PyProof.Rows.boot_isinstance (pa_cons (pv 0) (pa_cons (pe_glob (v := .ref _) rfl g_Impossible rfl) pa_nil))) (pa_cons (pe_callB (Fa.isiEQ K) (by rfl) m_isinstance PyProof.Rows.boot_isinstance (pa_cons (pv 0) (pa_cons (pe_glob (v := .ref _) rfl g_InvalidText rfl) pa_nil))) pa_nil)))))))))), ?_⟩
    have kk := c.kx i hi
    refine ⟨_, rfl, a, _, fs, _, _, _, rfl, ex, kk, .own _, c.kit i 0 hi (by decide), _, rfl, a, _, fs, _, _, _, rfl, ex, kk, .own _, c.kit i 1 hi (by decide), _, rfl, a, _, fs, _, _, _, rfl, ex, kk, .own _, c.kit i 2 hi (by decide), by show 3 ≤ sizeLine; decide, fun p1 np1 => ?_⟩
    have e1 : (upd H p1 (.lst [.bl (decide (0 = i)), .bl (decide (1 = i)), .bl (decide (2 = i))])) p1 = some (.lst [.bl (decide (0 = i)), .bl (decide (1 = i)), .bl (decide (2 = i))]) := upd_same
    have s1 : Same H (upd H p1 (.lst [.bl (decide (0 = i)), .bl (decide (1 = i)), .bl (decide (2 = i))])) := same_new np1
    generalize upd H p1 _ = H1 at e1 s1 ⊢
    refine ⟨_, rfl, _, rfl, a, _, fs, _, _, _, rfl, ex.same s1, kk, .own _, c.kit i 3 hi (by decide), _, rfl, a, _, fs, _, _, _, rfl, ex.same s1, kk, .own _, c.kit i 4 hi (by decide), _, rfl, a, _, fs, _, _, _, rfl, ex.same s1, kk, .own _, c.kit i 5 hi (by decide), by show 3 ≤ sizeLine; decide, fun p2a np2a => ?_⟩
    have ep2a : (upd H1 p2a (.lst [.bl (decide (3 = i)), .bl (decide (4 = i)), .bl (decide (5 = i))])) p2a = some (.lst [.bl (decide (3 = i)), .bl (decide (4 = i)), .bl (decide (5 = i))]) := upd_same
    have tp2a : Same H1 (upd H1 p2a (.lst [.bl (decide (3 = i)), .bl (decide (4 = i)), .bl (decide (5 = i))])) := same_new np2a
    generalize upd H1 p2a _ = Hp2a at ep2a tp2a ⊢
    refine ⟨p1, p2a, _, _, rfl, rfl, tp2a _ _ e1, ep2a, by show 6 ≤ sizeLine; decide, fun p2b np2b => ?_⟩
    have ep2b : (upd Hp2a p2b (.lst [.bl (decide (0 = i)), .bl (decide (1 = i)), .bl (decide (2 = i)), .bl (decide (3 = i)), .bl (decide (4 = i)), .bl (decide (5 = i))])) p2b = some (.lst [.bl (decide (0 = i)), .bl (decide (1 = i)), .bl (decide (2 = i)), .bl (decide (3 = i)), .bl (decide (4 = i)), .bl (decide (5 = i))]) := upd_same
    have tp2b : Same Hp2a (upd Hp2a p2b (.lst [.bl (decide (0 = i)), .bl (decide (1 = i)), .bl (decide (2 = i)), .bl (decide (3 = i)), .bl (decide (4 = i)), .bl (decide (5 = i))])) := same_new np2b
    have up2b := ((s1.trans tp2a).trans tp2b)
    replace ep2b : (upd Hp2a p2b (.lst ([.bl (decide (0 = i)), .bl (decide (1 = i)), .bl (decide (2 = i))] ++ [.bl (decide (3 = i)), .bl (decide (4 = i)), .bl (decide (5 = i))]))) p2b = some (.lst [.bl (decide (0 = i)), .bl (decide (1 = i)), .bl (decide (2 = i)), .bl (decide (3 = i)), .bl (decide (4 = i)), .bl (decide (5 = i))]) := ep2b
    replace up2b : Same H (upd Hp2a p2b (.lst ([.bl (decide (0 = i)), .bl (decide (1 = i)), .bl (decide (2 = i))] ++ [.bl (decide (3 = i)), .bl (decide (4 = i)), .bl (decide (5 = i))]))) := up2b
    clear tp2b
    generalize upd Hp2a p2b _ = Hp2b at ep2b up2b ⊢
    refine ⟨_, rfl, _, rfl, a, _, fs, _, _, _, rfl, ex.same up2b, kk, .own _, c.kit i 6 hi (by decide), _, rfl, a, _, fs, _, _, _, rfl, ex.same up2b, kk, .own _, c.kit i 7 hi (by decide), _, rfl, a, _, fs, _, _, _, rfl, ex.same up2b, kk, .own _, c.kit i 8 hi (by decide), by show 3 ≤ sizeLine; decide, fun p3a np3a => ?_⟩
    have ep3a : (upd Hp2b p3a (.lst [.bl (decide (6 = i)), .bl (decide (7 = i)), .bl (decide (8 = i))])) p3a = some (.lst [.bl (decide (6 = i)), .bl (decide (7 = i)), .bl (decide (8 = i))]) := upd_same
    have tp3a : Same Hp2b (upd Hp2b p3a (.lst [.bl (decide (6 = i)), .bl (decide (7 = i)), .bl (decide (8 = i))])) := same_new np3a
    generalize upd Hp2b p3a _ = Hp3a at ep3a tp3a ⊢
    refine ⟨p2b, p3a, _, _, rfl, rfl, tp3a _ _ ep2b, ep3a, by show 9 ≤ sizeLine; decide, fun p3b np3b => ?_⟩
    have ep3b : (upd Hp3a p3b (.lst [.bl (decide (0 = i)), .bl (decide (1 = i)), .bl (decide (2 = i)), .bl (decide (3 = i)), .bl (decide (4 = i)), .bl (decide (5 = i)), .bl (decide (6 = i)), .bl (decide (7 = i)), .bl (decide (8 = i))])) p3b = some (.lst [.bl (decide (0 = i)), .bl (decide (1 = i)), .bl (decide (2 = i)), .bl (decide (3 = i)), .bl (decide (4 = i)), .bl (decide (5 = i)), .bl (decide (6 = i)), .bl (decide (7 = i)), .bl (decide (8 = i))]) := upd_same
    have tp3b : Same Hp3a (upd Hp3a p3b (.lst [.bl (decide (0 = i)), .bl (decide (1 = i)), .bl (decide (2 = i)), .bl (decide (3 = i)), .bl (decide (4 = i)), .bl (decide (5 = i)), .bl (decide (6 = i)), .bl (decide (7 = i)), .bl (decide (8 = i))])) := same_new np3b
    have up3b := ((up2b.trans tp3a).trans tp3b)
    replace ep3b : (upd Hp3a p3b (.lst ([.bl (decide (0 = i)), .bl (decide (1 = i)), .bl (decide (2 = i)), .bl (decide (3 = i)), .bl (decide (4 = i)), .bl (decide (5 = i))] ++ [.bl (decide (6 = i)), .bl (decide (7 = i)), .bl (decide (8 = i))]))) p3b = some (.lst [.bl (decide (0 = i)), .bl (decide (1 = i)), .bl (decide (2 = i)), .bl (decide (3 = i)), .bl (decide (4 = i)), .bl (decide (5 = i)), .bl (decide (6 = i)), .bl (decide (7 = i)), .bl (decide (8 = i))]) := ep3b
    replace up3b : Same H (upd Hp3a p3b (.lst ([.bl (decide (0 = i)), .bl (decide (1 = i)), .bl (decide (2 = i)), .bl (decide (3 = i)), .bl (decide (4 = i)), .bl (decide (5 = i))] ++ [.bl (decide (6 = i)), .bl (decide (7 = i)), .bl (decide (8 = i))]))) := up3b
    clear tp3b
    generalize upd Hp3a p3b _ = Hp3b at ep3b up3b ⊢
    refine ⟨_, rfl, _, rfl, a, _, fs, _, _, _, rfl, ex.same up3b, kk, .own _, c.kit i 9 hi (by decide), _, rfl, a, _, fs, _, _, _, rfl, ex.same up3b, kk, .own _, c.kit i 10 hi (by decide), _, rfl, a, _, fs, _, _, _, rfl, ex.same up3b, kk, .own _, c.kit i 11 hi (by decide), by show 3 ≤ sizeLine; decide, fun p4a np4a => ?_⟩
    have ep4a : (upd Hp3b p4a (.lst [.bl (decide (9 = i)), .bl (decide (10 = i)), .bl (decide (11 = i))])) p4a = some (.lst [.bl (decide (9 = i)), .bl (decide (10 = i)), .bl (decide (11 = i))]) := upd_same
    have tp4a : Same Hp3b (upd Hp3b p4a (.lst [.bl (decide (9 = i)), .bl (decide (10 = i)), .bl (decide (11 = i))])) := same_new np4a
    generalize upd Hp3b p4a _ = Hp4a at ep4a tp4a ⊢
    refine ⟨p3b, p4a, _, _, rfl, rfl, tp4a _ _ ep3b, ep4a, by show 12 ≤ sizeLine; decide, fun p4b np4b => ?_⟩
    have ep4b : (upd Hp4a p4b (.lst [.bl (decide (0 = i)), .bl (decide (1 = i)), .bl (decide (2 = i)), .bl (decide (3 = i)), .bl (decide (4 = i)), .bl (decide (5 = i)), .bl (decide (6 = i)), .bl (decide (7 = i)), .bl (decide (8 = i)), .bl (decide (9 = i)), .bl (decide (10 = i)), .bl (decide (11 = i))])) p4b = some (.lst [.bl (decide (0 = i)), .bl (decide (1 = i)), .bl (decide (2 = i)), .bl (decide (3 = i)), .bl (decide (4 = i)), .bl (decide (5 = i)), .bl (decide (6 = i)), .bl (decide (7 = i)), .bl (decide (8 = i)), .bl (decide (9 = i)), .bl (decide (10 = i)), .bl (decide (11 = i))]) := upd_same
    have tp4b : Same Hp4a (upd Hp4a p4b (.lst [.bl (decide (0 = i)), .bl (decide (1 = i)), .bl (decide (2 = i)), .bl (decide (3 = i)), .bl (decide (4 = i)), .bl (decide (5 = i)), .bl (decide (6 = i)), .bl (decide (7 = i)), .bl (decide (8 = i)), .bl (decide (9 = i)), .bl (decide (10 = i)), .bl (decide (11 = i))])) := same_new np4b
    have up4b := ((up3b.trans tp4a).trans tp4b)
    replace ep4b : (upd Hp4a p4b (.lst ([.bl (decide (0 = i)), .bl (decide (1 = i)), .bl (decide (2 = i)), .bl (decide (3 = i)), .bl (decide (4 = i)), .bl (decide (5 = i)), .bl (decide (6 = i)), .bl (decide (7 = i)), .bl (decide (8 = i))] ++ [.bl (decide (9 = i)), .bl (decide (10 = i)), .bl (decide (11 = i))]))) p4b = some (.lst [.bl (decide (0 = i)), .bl (decide (1 = i)), .bl (decide (2 = i)), .bl (decide (3 = i)), .bl (decide (4 = i)), .bl (decide (5 = i)), .bl (decide (6 = i)), .bl (decide (7 = i)), .bl (decide (8 = i)), .bl (decide (9 = i)), .bl (decide (10 = i)), .bl (decide (11 = i))]) := ep4b
    replace up4b : Same H (upd Hp4a p4b (.lst ([.bl (decide (0 = i)), .bl (decide (1 = i)), .bl (decide (2 = i)), .bl (decide (3 = i)), .bl (decide (4 = i)), .bl (decide (5 = i)), .bl (decide (6 = i)), .bl (decide (7 = i)), .bl (decide (8 = i))] ++ [.bl (decide (9 = i)), .bl (decide (10 = i)), .bl (decide (11 = i))]))) := up4b
    clear tp4b
    generalize upd Hp4a p4b _ = Hp4b at ep4b up4b ⊢
    refine ⟨_, rfl, _, rfl, a, _, fs, _, _, _, rfl, ex.same up4b, kk, .own _, c.kit i 12 hi (by decide), _, rfl, a, _, fs, _, _, _, rfl, ex.same up4b, kk, .own _, c.kit i 13 hi (by decide), by show 2 ≤ sizeLine; decide, fun p5a np5a => ?_⟩
    have ep5a : (upd Hp4b p5a (.lst [.bl (decide (12 = i)), .bl (decide (13 = i))])) p5a = some (.lst [.bl (decide (12 = i)), .bl (decide (13 = i))]) := upd_same
    have tp5a : Same Hp4b (upd Hp4b p5a (.lst [.bl (decide (12 = i)), .bl (decide (13 = i))])) := same_new np5a
    generalize upd Hp4b p5a _ = Hp5a at ep5a tp5a ⊢
    refine ⟨p4b, p5a, _, _, rfl, rfl, tp5a _ _ ep4b, ep5a, by show 14 ≤ sizeLine; decide, fun p5b np5b => ?_⟩
    exact q _ p5b ((up4b.trans tp5a).trans (same_new np5b)) ((up4b.trans tp5a).free np5b) upd_same
end
end K55

namespace K55
open PySem PySem.Spec PyProof.Rows L2 Fa
section
variable {P : Program} {w : World} {K : PySem.W.Frag} {mg : Str → Option Value} {base : Heap}
theorem kit_lt {t : String} (h1 : kitB t "list" = some false) (h2 : kitB t "tuple" = some false) : PySem.W.kitAny K (.type t) [.type "list", .type "tuple"] = some false :=
  kitAny_cons (kit_ty h1) (fun _ => kitAny_cons (kit_ty h2) (fun _ => kitAny_nil) (fun z => nomatch z)) (fun z => nomatch z)
theorem kit_l : PySem.W.kitAny K (.type "list") [.type "list", .type "tuple"] = some true :=
  kitAny_cons (b := true) (kit_ty (by decide +kernel)) (fun z => Bool.noConfusion z) (fun _ => rfl)
def Sc (v : V) : Prop := (∃ n, v = .int n) ∨ ∃ x, v = .str x
def spAl1 : Sp := fun vs H Q _ => ∃ v, vs = [v, v] ∧ Sc v ∧ ∀ H' b, Same H H' → b = true → Q (.bl b) H'
def spAl2 : Sp := fun vs H Q _ => ∃ (a b : Addr) (xs : List V), vs = [.ref a, .ref b] ∧ H a = some (.lst xs) ∧ H b = some (.lst xs) ∧ xs.length ≤ 100 ∧ (∀ x ∈ xs, Sc x) ∧ ∀ H' b, Same H H' → b = true → Q (.bl b) H'
def spNo : Sp := fun _ _ _ _ => False
theorem ok_no {f : Addr} {fd : FuncData} {ps : List Str} {k : Nat} : FnOk P w K mg base CX0 k f fd ps spNo := ⟨fun _ _ _ _ h => h.elim, fun _ _ _ _ _ _ _ _ _ _ _ _ _ h => h.elim⟩
theorem ok_al1 {f : Addr} {fd : FuncData} {k : Nat} (F : Fun K "_law_alike" "_law_alike" s__law_alike f fd) (G__law_alike : FnOk P w K mg base CX0 k f fd ["found", "due"] spNo) (g__law_alike : mg "_law_alike" = some (.ref f)) (b__law_alike : Binds K fd ["found", "due"] [])
    (m_isinstance : mg "isinstance" = none) (m_list : mg "list" = none) (m_tuple : mg "tuple" = none) (m_len : mg "len" = none) (m_range : mg "range" = none) (m_all : mg "all" = none) (m_bool : mg "bool" = none) (m_int : mg "int" = none) (m_str : mg "str" = none) :
    FnOk P w K mg base CX0 (k + 1) f fd ["found", "due"] spAl1 := by
  have F__law_alike := F
  have b_list := PyProof.Rows.boot_list
  have b_tuple := PyProof.Rows.boot_tuple
  have b_bool : bootBuiltins "bool" = some (.type "bool") := by decide +kernel
  have b_int := PyProof.Rows.boot_int
  have b_str := PyProof.Rows.boot_str
  refine F.ok sc__law_alike (fun vs H Q E h => ?_) (fun cdv A outer s H vs Q E hr h => ?_)
  · obtain ⟨v, rfl, _⟩ := h
    rfl
  · obtain ⟨v, rfl, hv, q⟩ := h
    refine ⟨_, (pss_cons (ps_if (pt_val (pe_callB (Fa.isiTQ K) (by rfl) m_isinstance PyProof.Rows.boot_isinstance (pa_cons (pv 1) (pa_cons (pe_tup (pa_cons (pe_bltn (v := .ty "list") rfl m_list b_list rfl) (pa_cons (pe_bltn (v := .ty "tuple") rfl m_tuple b_tuple rfl) pa_nil))) pa_nil)))) (pss_cons (ps_if (PW.pt (pw_or (pt_not (pt_val (pe_callB (Fa.isiTQ K) (by rfl) m_isinstance PyProof.Rows.boot_isinstance (pa_cons (pv 0) (pa_cons (pe_tup (pa_cons (pe_bltn (v := .ty "list") rfl m_list b_list rfl) (pa_cons (pe_bltn (v := .ty "tuple") rfl m_tuple b_tuple rfl) pa_nil))) pa_nil))))) (pw_or1 (pt_cmpR op_ne (pe_callB (Fa.isiQ K) (by rfl) m_isinstance PyProof.Rows.boot_isinstance (pa_cons (pv 0) (pa_cons (pe_bltn (v := .ty "list") rfl m_list b_list rfl) pa_nil))) (pe_callB (Fa.isiQ K) (by rfl) m_isinstance PyProof.Rows.boot_isinstance (pa_cons (pv 1) (pa_cons (pe_bltn (v := .ty "list") rfl m_list b_list rfl) pa_nil))) (nomark _))))) (pss_one (ps_ret pe_bl)) pss_nil)
  (pss_cons (ps_if (pt_cmpR op_ne (pe_callB (Fa.lenQ K) (by rfl) m_len PySem.boot_len (pa_cons (pv 0) pa_nil)) (pe_callB (Fa.lenQ K) (by rfl) m_len PySem.boot_len (pa_cons (pv 1) pa_nil)) (nomark _)) (pss_one (ps_ret pe_bl)) pss_nil)
  (pss_one (ps_ret (pe_callB (Fa.allQ K rfl) (by rfl) m_all PyProof.Rows.boot_all (pa_cons (pe_lc (own := [("k", 2)]) (g := gName 2) (tt := tYes) rfl sc__law_alike.nd (pi_range1 (by rfl) m_range (pa_cons (pe_callB (Fa.lenQ K) (by rfl) m_len PySem.boot_len (pa_cons (pv 1) pa_nil)) pa_nil)) (blkOk_by (N := N__law_alike) (sc := defScope s__law_alike) (by decide +kernel)) (fun _ _ _ _ _ => (pg_name (i := 2) sc__law_alike.nd rfl (by first | exact Or.inl rfl | exact Or.inr rfl))) (fun _ _ _ _ _ => pts_nil) (fun _ _ _ _ _ => (pe_call G__law_alike (hr.mono (by omega)) (by rfl) g__law_alike F__law_alike.kp b__law_alike .nil pass0 (pa_cons (pe_ix (Fa.ixL K) (pv 0) (pv 2) (fun _ _ => rfl)) (pa_cons (pe_ix (Fa.ixL K) (pv 1) (pv 2) (fun _ _ => rfl)) pa_nil))))) pa_nil)))))) pss_nil)
  (pss_cons (ps_if (PW.pt (pw_or (pt_cmpR op_ne (pe_callB (Fa.isiQ K) (by rfl) m_isinstance PyProof.Rows.boot_isinstance (pa_cons (pv 0) (pa_cons (pe_bltn (v := .ty "bool") rfl m_bool b_bool rfl) pa_nil))) (pe_callB (Fa.isiQ K) (by rfl) m_isinstance PyProof.Rows.boot_isinstance (pa_cons (pv 1) (pa_cons (pe_bltn (v := .ty "bool") rfl m_bool b_bool rfl) pa_nil))) (nomark _)) (pw_or1 (pt_cmpR op_ne (pe_callB (Fa.isiQ K) (by rfl) m_isinstance PyProof.Rows.boot_isinstance (pa_cons (pv 0) (pa_cons (pe_bltn (v := .ty "int") rfl m_int b_int rfl) pa_nil))) (pe_callB (Fa.isiQ K) (by rfl) m_isinstance PyProof.Rows.boot_isinstance (pa_cons (pv 1) (pa_cons (pe_bltn (v := .ty "int") rfl m_int b_int rfl) pa_nil))) (nomark _))))) (pss_one (ps_ret pe_bl)) pss_nil)
  (pss_one (ps_ret (pe_and (pe_cmpR op_eq (pe_callB (Fa.isiQ K) (by rfl) m_isinstance PyProof.Rows.boot_isinstance (pa_cons (pv 0) (pa_cons (pe_bltn (v := .ty "str") rfl m_str b_str rfl) pa_nil))) (pe_callB (Fa.isiQ K) (by rfl) m_isinstance PyProof.Rows.boot_isinstance (pa_cons (pv 1) (pa_cons (pe_bltn (v := .ty "str") rfl m_str b_str rfl) pa_nil))) (nomark _)) (pe_one (pe_cmpR op_eq (pv 0) (pv 1) (nomark _)))))))), ?_⟩
    obtain ⟨t, k1, k2, b3, k3, b4, k4, b5, k5, sc, tys⟩ : ∃ t : String, kitB t "list" = some false ∧ kitB t "tuple" = some false ∧ ∃ b3, kitB t "bool" = some b3 ∧ ∃ b4, kitB t "int" = some b4 ∧ ∃ b5, kitB t "str" = some b5 ∧ scal v v = true ∧ (∀ H', Same H H' → TyX K H' v (.type t)) := by
      rcases hv with ⟨n, rfl⟩ | ⟨x, rfl⟩
      · exact ⟨"int", by decide +kernel, by decide +kernel, false, by decide +kernel, true, by decide +kernel, false, by decide +kernel, rfl, fun _ _ => .base (.int n)⟩
      · exact ⟨"str", by decide +kernel, by decide +kernel, false, by decide +kernel, false, by decide +kernel, true, by decide +kernel, rfl, fun _ _ => .base (.str x)⟩
    refine ⟨_, rfl, by show 2 ≤ sizeLine; decide, fun tp ntp => ⟨v, tp, _, _, _, _, rfl, upd_same, .cons (.ty _) (.cons (.ty _) .nil), tys _ (same_new ntp), kit_lt k1 k2, _, rfl, iteF ?_⟩⟩
    have sm : Same H (upd H tp (.tup [.ty "list", .ty "tuple"])) := same_new ntp
    generalize upd H tp _ = H1 at sm ⊢
    have ty1 := tys _ sm
    refine ⟨_, rfl, _, _, _, _, _, rfl, .ty _, ty1, kit_ty k3, _, rfl, _, _, _, _, _, rfl, .ty _, ty1, kit_ty k3, rfl, _, rfl, iteNS rfl ?_⟩
    refine ⟨_, rfl, _, _, _, _, _, rfl, .ty _, ty1, kit_ty k4, _, rfl, _, _, _, _, _, rfl, .ty _, ty1, kit_ty k4, rfl, _, rfl, iteNS rfl ?_⟩
    refine ⟨_, rfl, _, _, _, _, _, rfl, .ty _, ty1, kit_ty k5, _, rfl, _, _, _, _, _, rfl, .ty _, ty1, kit_ty k5, rfl, _, rfl, iteDS rfl ?_⟩
    refine ⟨_, rfl, _, rfl, sc, ?_⟩
    exact q _ _ sm (decide_eq_true rfl)
theorem ok_al2 {f : Addr} {fd : FuncData} {k : Nat} (F : Fun K "_law_alike" "_law_alike" s__law_alike f fd) (G__law_alike : FnOk P w K mg base CX0 k f fd ["found", "due"] spAl1) (g__law_alike : mg "_law_alike" = some (.ref f)) (b__law_alike : Binds K fd ["found", "due"] [])
    (m_isinstance : mg "isinstance" = none) (m_list : mg "list" = none) (m_tuple : mg "tuple" = none) (m_len : mg "len" = none) (m_range : mg "range" = none) (m_all : mg "all" = none) (m_bool : mg "bool" = none) (m_int : mg "int" = none) (m_str : mg "str" = none) :
    FnOk P w K mg base CX0 (k + 1) f fd ["found", "due"] spAl2 := by
  have F__law_alike := F
  have b_list := PyProof.Rows.boot_list
  have b_tuple := PyProof.Rows.boot_tuple
  have b_bool : bootBuiltins "bool" = some (.type "bool") := by decide +kernel
  have b_int := PyProof.Rows.boot_int
  have b_str := PyProof.Rows.boot_str
  refine F.ok sc__law_alike (fun vs H Q E h => ?_) (fun cdv A outer s H vs Q E hr h => ?_)
  · obtain ⟨a, b, xs, rfl, _⟩ := h
    rfl
  · obtain ⟨a, b, xs, rfl, ha, hb, hl, hsc, q⟩ := h
    refine ⟨_, (pss_cons (ps_if (pt_val (pe_callB (Fa.isiTQ K) (by rfl) m_isinstance PyProof.Rows.boot_isinstance (pa_cons (pv 1) (pa_cons (pe_tup (pa_cons (pe_bltn (v := .ty "list") rfl m_list b_list rfl) (pa_cons (pe_bltn (v := .ty "tuple") rfl m_tuple b_tuple rfl) pa_nil))) pa_nil)))) (pss_cons (ps_if (PW.pt (pw_or (pt_not (pt_val (pe_callB (Fa.isiTQ K) (by rfl) m_isinstance PyProof.Rows.boot_isinstance (pa_cons (pv 0) (pa_cons (pe_tup (pa_cons (pe_bltn (v := .ty "list") rfl m_list b_list rfl) (pa_cons (pe_bltn (v := .ty "tuple") rfl m_tuple b_tuple rfl) pa_nil))) pa_nil))))) (pw_or1 (pt_cmpR op_ne (pe_callB (Fa.isiQ K) (by rfl) m_isinstance PyProof.Rows.boot_isinstance (pa_cons (pv 0) (pa_cons (pe_bltn (v := .ty "list") rfl m_list b_list rfl) pa_nil))) (pe_callB (Fa.isiQ K) (by rfl) m_isinstance PyProof.Rows.boot_isinstance (pa_cons (pv 1) (pa_cons (pe_bltn (v := .ty "list") rfl m_list b_list rfl) pa_nil))) (nomark _))))) (pss_one (ps_ret pe_bl)) pss_nil)
  (pss_cons (ps_if (pt_cmpR op_ne (pe_callB (Fa.lenQ K) (by rfl) m_len PySem.boot_len (pa_cons (pv 0) pa_nil)) (pe_callB (Fa.lenQ K) (by rfl) m_len PySem.boot_len (pa_cons (pv 1) pa_nil)) (nomark _)) (pss_one (ps_ret pe_bl)) pss_nil)
  (pss_one (ps_ret (pe_callB (Fa.allQ K rfl) (by rfl) m_all PyProof.Rows.boot_all (pa_cons (pe_lc (own := [("k", 2)]) (g := gName 2) (tt := tYes) rfl sc__law_alike.nd (pi_range1 (by rfl) m_range (pa_cons (pe_callB (Fa.lenQ K) (by rfl) m_len PySem.boot_len (pa_cons (pv 1) pa_nil)) pa_nil)) (blkOk_by (N := N__law_alike) (sc := defScope s__law_alike) (by decide +kernel)) (fun _ _ _ _ _ => (pg_name (i := 2) sc__law_alike.nd rfl (by first | exact Or.inl rfl | exact Or.inr rfl))) (fun _ _ _ _ _ => pts_nil) (fun _ _ _ _ _ => (pe_call G__law_alike (hr.mono (by omega)) (by rfl) g__law_alike F__law_alike.kp b__law_alike .nil pass0 (pa_cons (pe_ix (Fa.ixL K) (pv 0) (pv 2) (fun _ _ => rfl)) (pa_cons (pe_ix (Fa.ixL K) (pv 1) (pv 2) (fun _ _ => rfl)) pa_nil))))) pa_nil)))))) pss_nil)
  (pss_cons (ps_if (PW.pt (pw_or (pt_cmpR op_ne (pe_callB (Fa.isiQ K) (by rfl) m_isinstance PyProof.Rows.boot_isinstance (pa_cons (pv 0) (pa_cons (pe_bltn (v := .ty "bool") rfl m_bool b_bool rfl) pa_nil))) (pe_callB (Fa.isiQ K) (by rfl) m_isinstance PyProof.Rows.boot_isinstance (pa_cons (pv 1) (pa_cons (pe_bltn (v := .ty "bool") rfl m_bool b_bool rfl) pa_nil))) (nomark _)) (pw_or1 (pt_cmpR op_ne (pe_callB (Fa.isiQ K) (by rfl) m_isinstance PyProof.Rows.boot_isinstance (pa_cons (pv 0) (pa_cons (pe_bltn (v := .ty "int") rfl m_int b_int rfl) pa_nil))) (pe_callB (Fa.isiQ K) (by rfl) m_isinstance PyProof.Rows.boot_isinstance (pa_cons (pv 1) (pa_cons (pe_bltn (v := .ty "int") rfl m_int b_int rfl) pa_nil))) (nomark _))))) (pss_one (ps_ret pe_bl)) pss_nil)
  (pss_one (ps_ret (pe_and (pe_cmpR op_eq (pe_callB (Fa.isiQ K) (by rfl) m_isinstance PyProof.Rows.boot_isinstance (pa_cons (pv 0) (pa_cons (pe_bltn (v := .ty "str") rfl m_str b_str rfl) pa_nil))) (pe_callB (Fa.isiQ K) (by rfl) m_isinstance PyProof.Rows.boot_isinstance (pa_cons (pv 1) (pa_cons (pe_bltn (v := .ty "str") rfl m_str b_str rfl) pa_nil))) (nomark _)) (pe_one (pe_cmpR op_eq (pv 0) (pv 1) (nomark _)))))))), ?_⟩
    refine ⟨_, rfl, by show 2 ≤ sizeLine; decide, fun tp ntp => ⟨_, tp, _, _, _, _, rfl, upd_same, .cons (.ty _) (.cons (.ty _) .nil), .base (.lst (same_new ntp _ _ hb)), kit_l, _, rfl, iteT ?_⟩⟩
    have sm : Same H (upd H tp (.tup [.ty "list", .ty "tuple"])) := same_new ntp
    generalize upd H tp _ = H1 at sm ⊢
    refine ⟨_, rfl, by show 2 ≤ sizeLine; decide, fun t2 nt2 => ⟨_, t2, _, _, _, _, rfl, upd_same, .cons (.ty _) (.cons (.ty _) .nil), .base (.lst (same_new nt2 _ _ (sm _ _ ha))), kit_l, _, rfl, iteF ?_⟩⟩
    have sm2 : Same H (upd H1 t2 (.tup [.ty "list", .ty "tuple"])) := sm.trans (same_new nt2)
    generalize upd H1 t2 _ = H2 at sm2 ⊢
    have ha2 := sm2 _ _ ha
    have hb2 := sm2 _ _ hb
    refine ⟨_, rfl, _, _, _, _, _, rfl, .ty _, .base (.lst ha2), kit_ty (b := "list") (r := true) (by decide +kernel), _, rfl, _, _, _, _, _, rfl, .ty _, .base (.lst hb2), kit_ty (b := "list") (r := true) (by decide +kernel), rfl, _, rfl, iteNS rfl ?_⟩
    refine ⟨_, rfl, _, _, rfl, .inl (.inl (.inl ha2)), _, rfl, _, _, rfl, .inl (.inl (.inl hb2)), rfl, _, rfl, iteNS rfl ?_⟩
    refine ⟨_, rfl, _, _, rfl, .inl (.inl (.inl hb2)), _, rfl, by omega, by omega, fun D nD => ?_⟩
    refine lc_range (lo := 0) (fun i H3 => Same H2 H3 ∧ H3 D = some (.lst ((List.replicate i true).map V.bl))) ?_ ?_ ?_
    · exact ⟨same_new nD, upd_same⟩
    · rintro i H3 hi ⟨s3, hD⟩
      have hi' : i < xs.length := by omega
      refine ⟨rfl, yes_if ?_⟩
      have ei : atI xs (0 + (i : Int)) = some xs[i] := by
        rw [Int.zero_add]
        exact atI_nat (List.getElem?_eq_getElem hi')
      refine ⟨_, rfl, _, rfl, _, _, _, _, rfl, rfl, .inl (.inl (s3 _ _ ha2)), ei, _, rfl, _, rfl, _, _, _, _, rfl, rfl, .inl (.inl (s3 _ _ hb2)), ei, ?_⟩
      refine ⟨_, rfl, hsc _ (List.getElem_mem hi'), fun H4 bb s4 eb => ⟨_, s4 _ _ hD, ?_, ?_, ?_⟩⟩
      · rw [List.length_map, List.length_replicate]
        exact small1000 (by omega)
      · intro c o e
        rw [upd_ne (ne_of_none e nD)]
        exact s4 _ _ (s3 _ _ e)
      · rw [upd_same, eb, List.replicate_succ', List.map_append]
        rfl
    · rintro H3 ⟨s3, hD⟩
      refine ⟨_, _, rfl, .inl (.inl hD), ?_⟩
      refine q _ _ (sm2.trans s3) ?_
      rw [List.all_replicate]
      split <;> rfl
end
end K55

namespace K55
open PySem PySem.Spec PyProof.Rows L2 Fa
abbrev s_law : Stmt := topS 22
abbrev N_law : List Str := ["script", "bag", "text", "a", "c", "rows", "k", "one", "told", "i"]
theorem sc_law : FnScope N_law ["script"] (defScope s_law) := ⟨rfl, rfl, rfl, by decide +kernel, rfl, by decide +kernel, by decide +kernel⟩
def spLaw (K : PySem.W.Frag) : Sp := fun vs H Q _ => ∃ (a : Addr) (ns : List Int), vs = [.ref a] ∧ SqL K H a (ns.map V.int) ∧ ns.length ≤ 63 ∧ ∀ H', Q (.bl true) H'
/-- what the head tells besides -/
structure Mk2 (K : PySem.W.Frag) (C f : Addr) : Prop where
  T : OexC K C
  i : PySem.W.findIn K (.ref C) "__init__" = some (some (.ref f))
  t : PySem.W.typeIn K (.ref f) = some (.type "function")
  x : XfC K C
theorem BagAt.same {H H' : Hp} {p qq : Addr} (h : BagAt H p qq) (s : Same H H') : BagAt H' p qq := by
  obtain ⟨xs, i, v, st, c, nq, hp, hq, r⟩ := h.ok
  exact ⟨xs, i, v, st, c, nq, s _ _ hp, s _ _ hq, r⟩
theorem BagAt.far {H : Hp} {p qq b : Addr} {o : HO} (h : BagAt H p qq) (h1 : b ≠ p) (h2 : b ≠ qq) : BagAt (upd H b o) p qq := by
  obtain ⟨xs, i, v, st, c, nq, hp, hq, r⟩ := h.ok
  exact ⟨xs, i, v, st, c, nq, by rw [upd_ne h1.symm]; exact hp, by rw [upd_ne h2.symm]; exact hq, r⟩
theorem BagAt.ne {H : Hp} {p qq b : Addr} (h : BagAt H p qq) (n : H b = none) : b ≠ p ∧ b ≠ qq := by
  obtain ⟨xs, i, v, st, c, nq, hp, hq, r⟩ := h.ok
  exact ⟨(ne_of_none hp n).symm, (ne_of_none hq n).symm⟩
def Rows (K : PySem.W.Frag) (H : Hp) (as : List Addr) : Prop := ∀ i, i < as.length → ∃ fs, ExcAt H (as.getD i 0) (cl K i) fs
section
variable {P : Program} {w : World} {K : PySem.W.Frag} {mg : Str → Option Value} {base : Heap}
theorem Rows.nil {H : Hp} : Rows K H [] := fun i h => absurd h (Nat.not_lt_zero _)
theorem Rows.same {H H' : Hp} {as : List Addr} (h : Rows K H as) (s : Same H H') : Rows K H' as := fun i hi => by
  obtain ⟨fs, e⟩ := h i hi
  exact ⟨fs, e.same s⟩
theorem Rows.snoc {H : Hp} {as : List Addr} {a : Addr} {fs : List (Str × V)} (h : Rows K H as) (e : ExcAt H a (cl K as.length) fs) : Rows K H (as ++ [a]) := fun i hi => by
  rw [List.length_append, List.length_singleton] at hi
  by_cases h1 : i < as.length
  · obtain ⟨fs, z⟩ := h i h1
    refine ⟨fs, ?_⟩
    rw [show (as ++ [a]).getD i 0 = as.getD i 0 by
      rw [List.getD_eq_getElem?_getD, List.getD_eq_getElem?_getD, List.getElem?_append_left h1]]
    exact z
  · have e1 : i = as.length := by omega
    subst e1
    refine ⟨fs, ?_⟩
    rw [show (as ++ [a]).getD as.length 0 = a by
      rw [List.getD_eq_getElem?_getD, List.getElem?_append_right (Nat.le_refl _), Nat.sub_self]
      rfl]
    exact e
theorem dec_vint {i j : Int} : decide (V.int i = V.int j) = decide (i = j) := decide_eq_decide.mpr ⟨fun h => V.int.inj h, fun h => congrArg V.int h⟩
theorem dp_bools {H : Hp} (f : Nat → Bool) : ∀ l : List Nat, DpAll K H (l.map fun j => V.bl (f j)) (l.map fun j => PyData.bool (f j))
  | [] => .nil
  | _ :: r => .cons (.bl _) (dp_bools f r)
theorem eqv_bools {f : Nat → Bool} : ∀ l : List Nat, PyData.eqvAll (l.map fun j => PyData.bool (f j)) (l.map fun j => PyData.bool (f j)) = true
  | [] => rfl
  | a :: r => by
    show ((f a == f a) && PyData.eqvAll (r.map fun j => PyData.bool (f j)) (r.map fun j => PyData.bool (f j))) = true
    rw [eqv_bools r, beq_self_eq_true]
    rfl
theorem eqv_lbools {f : Nat → Bool} (l : List Nat) : PyData.eqv (.list (l.map fun j => PyData.bool (f j))) (.list (l.map fun j => PyData.bool (f j))) = true := by
  rw [PyData.eqv]
  exact eqv_bools l
theorem iteNB {b : Bool} {A B : Prop} (hb : b = true) (h : B) : if (!b) = true then A else B := by
  rw [hb]
  exact iteF h
theorem same_init {H H' : Hp} {o d : Addr} {oo : HO} (no : H o = none) (nd : upd H o oo d = none) (ndo : d ≠ o) (keep : ∀ b, b ≠ o → b ≠ d → H' b = upd H o oo b) : Same H H' := fun b x e => by
  rw [upd_ne ndo] at nd
  have h1 := ne_of_none e no
  rw [keep b h1 (ne_of_none e nd), upd_ne h1]
  exact e
theorem six_lt : (6 : Int) < 2 ^ 3000 := by decide +kernel
theorem nine_lt : (9 : Int) < 2 ^ 3000 := by decide +kernel
theorem thirty_lt : (30 : Int) < 2 ^ 3000 := by decide +kernel
theorem three_lt : (3 : Int) < 2 ^ 3000 := by decide +kernel
theorem ok_law {f : Addr} {fd : FuncData} (F : Fun K "law" "law" s_law f fd) (c : Cs K mg)
    {fB fD fA fO f12 f13 : Addr} {fdB fdD fdA fdO fd12 fd13 : FuncData}
    (F__law_bag : Fun K "_law_bag" "_law_bag" s__law_bag fB fdB) (G__law_bag : FnOk P w K mg base CX0 1 fB fdB ["script"] (spBag K)) (g__law_bag : mg "_law_bag" = some (.ref fB)) (b__law_bag : Binds K fdB ["script"] [])
    (F__law_draw : Fun K "_law_draw" "_law_draw" s__law_draw fD fdD) (G__law_draw : FnOk P w K mg base CX0 2 fD fdD ["bag", "wide"] spDraw) (g__law_draw : mg "_law_draw" = some (.ref fD)) (b__law_draw : Binds K fdD ["bag", "wide"] [])
    (F__law_alike : Fun K "_law_alike" "_law_alike" s__law_alike fA fdA) (G__law_alike : FnOk P w K mg base CX0 2 fA fdA ["found", "due"] spAl2) (g__law_alike : mg "_law_alike" = some (.ref fA)) (b__law_alike : Binds K fdA ["found", "due"] [])
    (F__law_of : Fun K "_law_of" "_law_of" s__law_of fO fdO) (G__law_of : FnOk P w K mg base CX0 1 fO fdO ["made"] (spOf K)) (g__law_of : mg "_law_of" = some (.ref fO)) (b__law_of : Binds K fdO ["made"] [])
    (M12 : Mk2 K (cl K 12) f12) (M13 : Mk2 K (cl K 13) f13)
    (G12 : FnOk P w K mg base CX0 1 f12 fd12 ["self", "word", "first", "second"] (spInit3 K (cl K 12))) (G13 : FnOk P w K mg base CX0 1 f13 fd13 ["self", "place"] (spInit1 K (cl K 13)))
    (b12 : KBn K fd12 ["self", "word", "first", "second"] (3 + 1) [] (fun us ws => us) (fun us ws => us)) (b12k : KBn K fd12 ["self", "word", "first", "second"] 1 ["second", "first", "word"] (fun us ws => us ++ (ws.drop 2 ++ ((ws.drop 1).take 1 ++ ws.take 1))) (fun us ws => us ++ (ws.drop 2 ++ ((ws.drop 1).take 1 ++ ws.take 1))))
    (b13 : KBn K fd13 ["self", "place"] (1 + 1) [] (fun us ws => us) (fun us ws => us)) (b13k : KBn K fd13 ["self", "place"] 1 ["place"] (fun us ws => us ++ ws) (fun us ws => us ++ ws))
    (nw : PySem.W.findIn K (.ref (cl K 12)) "word" = some none) (nf : PySem.W.findIn K (.ref (cl K 12)) "first" = some none) (nse : PySem.W.findIn K (.ref (cl K 12)) "second" = some none) (npl : PySem.W.findIn K (.ref (cl K 13)) "place" = some none)
    (xx : ∀ i, i < 15 → i ≠ 12 → i ≠ 13 → PySem.W.excIn K (cl K i) [.type "ValueError", .type "Exception", .type "BaseException", .type "object"] "ValueError.__new__" = true) (kp : ∀ i, i < 15 → PySem.W.keepIn K (.ref (cl K i)) = true)
    (m_isinstance : mg "isinstance" = none) (m_len : mg "len" = none) (m_range : mg "range" = none) (m_ValueError : mg "ValueError" = none) : FnOk P w K mg base CX0 3 f fd ["script"] (spLaw K) := by
  have g_InvalidSheet := c.g 0 (by decide)
  have k_InvalidSheet := kp 0 (by decide)
  have x_InvalidSheet := xx 0 (by decide) (by decide) (by decide)
  have g_InvalidFamily := c.g 1 (by decide)
  have k_InvalidFamily := kp 1 (by decide)
  have x_InvalidFamily := xx 1 (by decide) (by decide) (by decide)
  have g_InvalidPattern := c.g 2 (by decide)
  have k_InvalidPattern := kp 2 (by decide)
  have x_InvalidPattern := xx 2 (by decide) (by decide) (by decide)
  have g_InvalidJoins := c.g 3 (by decide)
  have k_InvalidJoins := kp 3 (by decide)
  have x_InvalidJoins := xx 3 (by decide) (by decide) (by decide)
  have g_InvalidRow := c.g 4 (by decide)
  have k_InvalidRow := kp 4 (by decide)
  have x_InvalidRow := xx 4 (by decide) (by decide) (by decide)
  have g_InvalidCount := c.g 5 (by decide)
  have k_InvalidCount := kp 5 (by decide)
  have x_InvalidCount := xx 5 (by decide) (by decide) (by decide)
  have g_InvalidWidth := c.g 6 (by decide)
  have k_InvalidWidth := kp 6 (by decide)
  have x_InvalidWidth := xx 6 (by decide) (by decide) (by decide)
  have g_InvalidDay := c.g 7 (by decide)
  have k_InvalidDay := kp 7 (by decide)
  have x_InvalidDay := xx 7 (by decide) (by decide) (by decide)
  have g_InvalidNumber := c.g 8 (by decide)
  have k_InvalidNumber := kp 8 (by decide)
  have x_InvalidNumber := xx 8 (by decide) (by decide) (by decide)
  have g_InvalidIndex := c.g 9 (by decide)
  have k_InvalidIndex := kp 9 (by decide)
  have x_InvalidIndex := xx 9 (by decide) (by decide) (by decide)
  have g_NotFull := c.g 10 (by decide)
  have k_NotFull := kp 10 (by decide)
  have x_NotFull := xx 10 (by decide) (by decide) (by decide)
  have g_NothingToUndo := c.g 11 (by decide)
  have k_NothingToUndo := kp 11 (by decide)
  have x_NothingToUndo := xx 11 (by decide) (by decide) (by decide)
  have g_Impossible := c.g 12 (by decide)
  have k_Impossible := kp 12 (by decide)
  have g_InvalidText := c.g 13 (by decide)
  have k_InvalidText := kp 13 (by decide)
  have g_FaceError := c.g 14 (by decide)
  have k_FaceError := kp 14 (by decide)
  have x_FaceError := xx 14 (by decide) (by decide) (by decide)
  have T12 := M12.T
  have i12 := M12.i
  have t12 := M12.t
  have T13 := M13.T
  have i13 := M13.i
  have t13 := M13.t
  have b_ValueError : bootBuiltins "ValueError" = some (.type "ValueError") := by decide +kernel
  refine F.ok sc_law (fun vs H Q E h => ?_) (fun cdv A outer s H vs Q E hr h => ?_)
  · obtain ⟨a, ns, rfl, _⟩ := h
    rfl
  · obtain ⟨a, ns, rfl, hS, hlen, q⟩ := h
    refine ⟨_, (pss_cons (ps_set (i := 1) sc_law.nd rfl (by first | exact Or.inl rfl | exact Or.inr rfl) (pe_call G__law_bag (hr.mono (by omega)) (by rfl) g__law_bag F__law_bag.kp b__law_bag .nil pass0 (pa_cons (pv 0) pa_nil)))
  (pss_cons (ps_set (i := 2) sc_law.nd rfl (by first | exact Or.inl rfl | exact Or.inr rfl) (pe_join pe_str (pe_lc (own := [("k", 6)]) (g := gName 6) (tt := tYes) rfl sc_law.nd (pi_range1 (by rfl) m_range (pa_cons (pe_call G__law_draw (hr.mono (by omega)) (by rfl) g__law_draw F__law_draw.kp b__law_draw .nil pass0 (pa_cons (pv 1) (pa_cons pe_int pa_nil))) pa_nil)) (blkOk_by (N := N_law) (sc := defScope s_law) (by decide +kernel)) (fun _ _ _ _ _ => (pg_name (i := 6) sc_law.nd rfl (by first | exact Or.inl rfl | exact Or.inr rfl))) (fun _ _ _ _ _ => pts_nil) (fun _ _ _ _ _ => (pe_ix ix_str pe_str (pe_call G__law_draw (hr.mono (by omega)) (by rfl) g__law_draw F__law_draw.kp b__law_draw .nil pass0 (pa_cons (pv 1) (pa_cons pe_int pa_nil))) (fun _ _ => rfl))))))
  (pss_cons (ps_par (i := 3) (j := 4) rfl sc_law.nd rfl rfl (by decide) rfl rfl (pa_cons (pe_ix (Fa.ixL K) (pe_lst (pa_cons (pe_call G__law_draw (hr.mono (by omega)) (by rfl) g__law_draw F__law_draw.kp b__law_draw .nil pass0 (pa_cons (pv 1) (pa_cons pe_int pa_nil))) (pa_cons (pe_op Fa.op_powW pe_int pe_int) (pa_cons pe_int pa_nil)))) (pe_call G__law_draw (hr.mono (by omega)) (by rfl) g__law_draw F__law_draw.kp b__law_draw .nil pass0 (pa_cons (pv 1) (pa_cons pe_int pa_nil))) (fun _ _ => rfl)) (pa_cons (pe_call G__law_draw (hr.mono (by omega)) (by rfl) g__law_draw F__law_draw.kp b__law_draw .nil pass0 (pa_cons (pv 1) (pa_cons pe_int pa_nil))) pa_nil)) rfl)
  (pss_cons (ps_set (i := 5) sc_law.nd rfl (by first | exact Or.inl rfl | exact Or.inr rfl) (pe_lst (pa_cons (pe_exc1 PySem.F.excBase_ValueError x_InvalidSheet g_InvalidSheet k_InvalidSheet rfl (pv 2)) (pa_cons (pe_exc1 PySem.F.excBase_ValueError x_InvalidFamily g_InvalidFamily k_InvalidFamily rfl (pv 2)) (pa_cons (pe_exc1 PySem.F.excBase_ValueError x_InvalidPattern g_InvalidPattern k_InvalidPattern rfl (pv 2)) (pa_cons (pe_exc1 PySem.F.excBase_ValueError x_InvalidJoins g_InvalidJoins k_InvalidJoins rfl (pv 2)) (pa_cons (pe_exc1 PySem.F.excBase_ValueError x_InvalidRow g_InvalidRow k_InvalidRow rfl (pv 2)) pa_nil)))))))
  (pss_cons (ps_set (i := 5) sc_law.nd rfl (by first | exact Or.inl rfl | exact Or.inr rfl) (pe_op op_cat (pv 5) (pe_lst (pa_cons (pe_exc1 PySem.F.excBase_ValueError x_InvalidCount g_InvalidCount k_InvalidCount rfl (pv 2)) (pa_cons (pe_exc1 PySem.F.excBase_ValueError x_InvalidWidth g_InvalidWidth k_InvalidWidth rfl (pv 2)) (pa_cons (pe_exc1 PySem.F.excBase_ValueError x_InvalidDay g_InvalidDay k_InvalidDay rfl (pv 2)) (pa_cons (pe_exc1 PySem.F.excBase_ValueError x_InvalidNumber g_InvalidNumber k_InvalidNumber rfl (pv 2)) (pa_cons (pe_exc1 PySem.F.excBase_ValueError x_InvalidIndex g_InvalidIndex k_InvalidIndex rfl (pv 2)) pa_nil))))))))
  (pss_cons (ps_set (i := 5) sc_law.nd rfl (by first | exact Or.inl rfl | exact Or.inr rfl) (pe_op op_cat (pv 5) (pe_lst (pa_cons (pe_exc1 PySem.F.excBase_ValueError x_NotFull g_NotFull k_NotFull rfl (pv 2)) (pa_cons (pe_exc1 PySem.F.excBase_ValueError x_NothingToUndo g_NothingToUndo k_NothingToUndo rfl (pv 2)) (pa_cons (Fa.pe_mkV T12 i12 t12 G12 (hr.mono (by omega)) (by rfl) g_Impossible b12 pass0 (pa_cons (pv 2) (pa_cons (pv 3) (pa_cons (pv 4) pa_nil)))) (pa_cons (Fa.pe_mkV T13 i13 t13 G13 (hr.mono (by omega)) (by rfl) g_InvalidText b13 pass0 (pa_cons (pv 3) pa_nil)) pa_nil)))))))
  (pss_cons (ps_for PassesOwn.never rfl (pi_range1 (by rfl) m_range (pa_cons (pe_callB (Fa.lenQ K) (by rfl) m_len PySem.boot_len (pa_cons (pv 5) pa_nil)) pa_nil)) (pg_name (i := 6) sc_law.nd rfl (by first | exact Or.inl rfl | exact Or.inr rfl)) (pss_cons (ps_if (PW.pt (pw_or (pt_not (pt_val (pe_callB (Fa.isiEQ K) (by rfl) m_isinstance PyProof.Rows.boot_isinstance (pa_cons (pe_ix (Fa.ixL K) (pv 5) (pv 6) (fun _ _ => rfl)) (pa_cons (pe_glob (v := .ref _) rfl g_FaceError rfl) pa_nil))))) (pw_or1 (pt_not (pt_val (pe_callB (Fa.isiEQ K) (by rfl) m_isinstance PyProof.Rows.boot_isinstance (pa_cons (pe_ix (Fa.ixL K) (pv 5) (pv 6) (fun _ _ => rfl)) (pa_cons (pe_bltn (v := .ty "ValueError") rfl m_ValueError b_ValueError rfl) pa_nil)))))))) (pss_one (ps_ret pe_bl)) pss_nil)
  (pss_one (ps_if (pt_cmpR (Fa.neQ K hr.units) (pe_call G__law_of (hr.mono (by omega)) (by rfl) g__law_of F__law_of.kp b__law_of .nil pass0 (pa_cons (pe_ix (Fa.ixL K) (pv 5) (pv 6) (fun _ _ => rfl)) pa_nil)) (pe_lc (own := [("i", 9)]) (g := gName 9) (tt := tYes) rfl sc_law.nd (pi_range1 (by rfl) m_range (pa_cons (pe_callB (Fa.lenQ K) (by rfl) m_len PySem.boot_len (pa_cons (pv 5) pa_nil)) pa_nil)) (blkOk_by (N := N_law) (sc := defScope s_law) (by decide +kernel)) (fun _ _ _ _ _ => (pg_name (i := 9) sc_law.nd rfl (by first | exact Or.inl rfl | exact Or.inr rfl))) (fun _ _ _ _ _ => pts_nil) (fun _ _ _ _ _ => (pe_cmpR op_eq (pv 9) (pv 6) (nomark _)))) (nomark _)) (pss_one (ps_ret pe_bl)) pss_nil))))
  (pss_cons (ps_if (pt_cmpR (Fa.neQ K hr.units) (pe_call G__law_of (hr.mono (by omega)) (by rfl) g__law_of F__law_of.kp b__law_of .nil pass0 (pa_cons (pe_exc1 PySem.F.excBase_ValueError x_FaceError g_FaceError k_FaceError rfl (pv 2)) pa_nil)) (pe_op op_rep (pe_lst (pa_cons pe_bl pa_nil)) (pe_callB (Fa.lenQ K) (by rfl) m_len PySem.boot_len (pa_cons (pv 5) pa_nil))) (nomark _)) (pss_one (ps_ret pe_bl)) pss_nil)
  (pss_cons (ps_set (i := 7) sc_law.nd rfl (by first | exact Or.inl rfl | exact Or.inr rfl) (Fa.pe_mkVK T12 i12 t12 G12 (hr.mono (by omega)) (by rfl) g_Impossible b12k pass0 (pk_cons (pv 4) (pk_cons (pv 3) (pk_cons (pv 2) pk_nil)))))
  (pss_cons (ps_set (i := 8) sc_law.nd rfl (by first | exact Or.inl rfl | exact Or.inr rfl) (pe_lst (pa_cons (Fa.pe_xfV (pe_ix (Fa.ixL K) (pv 5) pe_int (fun _ _ => rfl))) (pa_cons (Fa.pe_xfV (pe_ix (Fa.ixL K) (pv 5) pe_int (fun _ _ => rfl))) (pa_cons (Fa.pe_xfV (pe_ix (Fa.ixL K) (pv 5) pe_int (fun _ _ => rfl))) (pa_cons (Fa.pe_xfV (pe_ix (Fa.ixL K) (pv 5) pe_int (fun _ _ => rfl))) (pa_cons (Fa.pe_xfV (pv 7)) (pa_cons (Fa.pe_xfV (pv 7)) (pa_cons (Fa.pe_xfV (pv 7)) pa_nil)))))))))
  (pss_one (ps_ret (pe_call G__law_alike (hr.mono (by omega)) (by rfl) g__law_alike F__law_alike.kp b__law_alike .nil pass0 (pa_cons (pe_op op_cat (pv 8) (pe_lst (pa_cons (Fa.pe_xfV (Fa.pe_mkVK T13 i13 t13 G13 (hr.mono (by omega)) (by rfl) g_InvalidText b13k pass0 (pk_cons (pv 4) pk_nil))) pa_nil))) (pa_cons (pe_lst (pa_cons (pv 2) (pa_cons (pv 3) (pa_cons (pv 4) (pa_cons (pv 3) (pa_cons (pv 2) (pa_cons (pv 3) (pa_cons (pv 4) (pa_cons (pv 4) pa_nil))))))))) pa_nil))))))))))))))), ?_⟩
    -- bag = _law_bag(script)
    refine ⟨_, rfl, a, ns, rfl, hS, hlen, fun H1 p qq s1 np hB => ?_⟩
    -- text = ''.join(..)
    refine ⟨⟨_, rfl⟩, _, rfl, p, qq, 9, rfl, hB, by decide, nine_lt, fun H2 r b2 hB2 r0 r9 => ⟨r, rfl, by omega, by omega, fun D nD => ?_⟩⟩
    obtain ⟨nDp, nDq⟩ := hB2.ne nD
    refine lc_range (lo := 0) (fun i H3 => BagAt H3 p qq ∧ ∃ ys : List Str, ys.length = i ∧ (ys.map (·.length)).sum = i ∧ H3 D = some (.lst (ys.map V.str))) ?_ ?_ ?_
    · exact ⟨hB2.same (same_new nD), [], rfl, rfl, upd_same⟩
    · rintro i H3 hi ⟨hB3, ys, el, es, eD⟩
      refine ⟨rfl, yes_if ?_⟩
      refine ⟨_, rfl, p, qq, 6, rfl, hB3, by decide, six_lt, fun H4 r4 b4 hB4 r40 r46 => ?_⟩
      obtain ⟨m, rfl⟩ : ∃ m : Nat, r4 = m := ⟨r4.toNat, by omega⟩
      have hm : m < (Str.ofString "abc \n-").cps.toList.length := Nat.lt_of_lt_of_le (show m < 6 by omega) (by decide +kernel)
      refine ⟨_, _, _, rfl, rfl, by decide +kernel, atI_nat (List.getElem?_eq_getElem hm), ys.map V.str, (b4 D nDp).trans eD, ?_, ?_⟩
      · rw [List.length_map, el]
        exact small1000 (by omega)
      · refine ⟨hB4.far nDp nDq, ys ++ [⟨#[(Str.ofString "abc \n-").cps.toList[m]]⟩], ?_, ?_, ?_⟩
        · rw [List.length_append, el]
          rfl
        · rw [List.map_append, List.sum_append, es]
          rfl
        · rw [upd_same, List.map_append]
          rfl
    · rintro H3 ⟨hB3, ys, el, es, eD⟩
      refine ⟨_, D, ys, rfl, rfl, .inl (.inl (.inl eD)), ?_, ?_⟩
      · rw [es, show (Str.ofString "").length = 0 from rfl, Nat.mul_zero]
        omega
      generalize Txt.join _ ys = text
      -- a, c = ..
      refine ⟨_, rfl, p, qq, 30, rfl, hB3, by decide, thirty_lt, fun H4 r4 b4 hB4 r40 r41 => ?_⟩
      refine ⟨_, _, rfl, rfl, ⟨by decide, by decide, 10, by decide, by decide⟩, by show 3 ≤ sizeLine; decide, fun l nl => ?_⟩
      obtain ⟨nlp, nlq⟩ := hB4.ne nl
      refine ⟨_, rfl, p, qq, 3, rfl, hB4.same (same_new nl), by decide, three_lt, fun H5 r5 b5 hB5 r50 r51 => ?_⟩
      obtain ⟨A1, eA⟩ : ∃ A1 : Int, atI [V.int r4, V.int (10 ^ Int.toNat 29), V.int 0] r5 = some (V.int A1) := by
        have e : r5 = 0 ∨ r5 = 1 ∨ r5 = 2 := by omega
        rcases e with rfl | rfl | rfl
        · exact ⟨r4, rfl⟩
        · exact ⟨10 ^ Int.toNat 29, rfl⟩
        · exact ⟨0, rfl⟩
      refine ⟨l, _, _, _, rfl, rfl, .inl (.inl ((b5 l nlp).trans upd_same)), eA, ?_⟩
      refine ⟨_, rfl, p, qq, 30, rfl, hB5, by decide, thirty_lt, fun H6 C1 b6 hB6 r60 r61 => ⟨_, _, rfl, ?_⟩⟩
      -- rows
      have R0 : Rows K H6 [] := Rows.nil
      refine ⟨_, rfl, fun a0 na0 => ?_⟩
      have Sa0 : Same H6 (upd H6 a0 (ExO (.ref (cl K 0)) a0)) := same_new na0
      have Ra0 : Rows K (upd H6 a0 (ExO (.ref (cl K 0)) a0)) [a0] := (R0.same Sa0).snoc (as := []) (.inl ⟨upd_same, rfl⟩)
      clear Sa0
      generalize upd H6 a0 (ExO (.ref (cl K 0)) a0) = Ha0 at Ra0  ⊢
      refine ⟨_, rfl, fun a1 na1 => ?_⟩
      have Sa1 : Same Ha0 (upd Ha0 a1 (ExO (.ref (cl K 1)) a1)) := same_new na1
      have Ra1 : Rows K (upd Ha0 a1 (ExO (.ref (cl K 1)) a1)) [a0, a1] := (Ra0.same Sa1).snoc (as := [a0]) (.inl ⟨upd_same, rfl⟩)
      clear Sa1
      generalize upd Ha0 a1 (ExO (.ref (cl K 1)) a1) = Ha1 at Ra1  ⊢
      refine ⟨_, rfl, fun a2 na2 => ?_⟩
      have Sa2 : Same Ha1 (upd Ha1 a2 (ExO (.ref (cl K 2)) a2)) := same_new na2
      have Ra2 : Rows K (upd Ha1 a2 (ExO (.ref (cl K 2)) a2)) [a0, a1, a2] := (Ra1.same Sa2).snoc (as := [a0, a1]) (.inl ⟨upd_same, rfl⟩)
      clear Sa2
      generalize upd Ha1 a2 (ExO (.ref (cl K 2)) a2) = Ha2 at Ra2  ⊢
      refine ⟨_, rfl, fun a3 na3 => ?_⟩
      have Sa3 : Same Ha2 (upd Ha2 a3 (ExO (.ref (cl K 3)) a3)) := same_new na3
      have Ra3 : Rows K (upd Ha2 a3 (ExO (.ref (cl K 3)) a3)) [a0, a1, a2, a3] := (Ra2.same Sa3).snoc (as := [a0, a1, a2]) (.inl ⟨upd_same, rfl⟩)
      clear Sa3
      generalize upd Ha2 a3 (ExO (.ref (cl K 3)) a3) = Ha3 at Ra3  ⊢
      refine ⟨_, rfl, fun a4 na4 => ?_⟩
      have Sa4 : Same Ha3 (upd Ha3 a4 (ExO (.ref (cl K 4)) a4)) := same_new na4
      have Ra4 : Rows K (upd Ha3 a4 (ExO (.ref (cl K 4)) a4)) [a0, a1, a2, a3, a4] := (Ra3.same Sa4).snoc (as := [a0, a1, a2, a3]) (.inl ⟨upd_same, rfl⟩)
      clear Sa4
      generalize upd Ha3 a4 (ExO (.ref (cl K 4)) a4) = Ha4 at Ra4  ⊢
      refine ⟨by show 5 ≤ sizeLine; decide, fun r1 nr1 => ?_⟩
      have er1 : (upd Ha4 r1 (.lst [.ref a0, .ref a1, .ref a2, .ref a3, .ref a4])) r1 = some (.lst [.ref a0, .ref a1, .ref a2, .ref a3, .ref a4]) := upd_same
      have Sr1 : Same Ha4 (upd Ha4 r1 (.lst [.ref a0, .ref a1, .ref a2, .ref a3, .ref a4])) := same_new nr1
      have Rr1 : Rows K (upd Ha4 r1 (.lst [.ref a0, .ref a1, .ref a2, .ref a3, .ref a4])) [a0, a1, a2, a3, a4] := Ra4.same Sr1
      clear Sr1
      generalize upd Ha4 r1 (.lst [.ref a0, .ref a1, .ref a2, .ref a3, .ref a4]) = Hr1 at Rr1 er1  ⊢
      refine ⟨_, rfl, ?_⟩
      refine ⟨_, rfl, fun a5 na5 => ?_⟩
      have Sa5 : Same Hr1 (upd Hr1 a5 (ExO (.ref (cl K 5)) a5)) := same_new na5
      have Ra5 : Rows K (upd Hr1 a5 (ExO (.ref (cl K 5)) a5)) [a0, a1, a2, a3, a4, a5] := (Rr1.same Sa5).snoc (as := [a0, a1, a2, a3, a4]) (.inl ⟨upd_same, rfl⟩)
      replace er1 := Sa5 _ _ er1
      clear Sa5
      generalize upd Hr1 a5 (ExO (.ref (cl K 5)) a5) = Ha5 at Ra5 er1 ⊢
      refine ⟨_, rfl, fun a6 na6 => ?_⟩
      have Sa6 : Same Ha5 (upd Ha5 a6 (ExO (.ref (cl K 6)) a6)) := same_new na6
      have Ra6 : Rows K (upd Ha5 a6 (ExO (.ref (cl K 6)) a6)) [a0, a1, a2, a3, a4, a5, a6] := (Ra5.same Sa6).snoc (as := [a0, a1, a2, a3, a4, a5]) (.inl ⟨upd_same, rfl⟩)
      replace er1 := Sa6 _ _ er1
      clear Sa6
      generalize upd Ha5 a6 (ExO (.ref (cl K 6)) a6) = Ha6 at Ra6 er1 ⊢
      refine ⟨_, rfl, fun a7 na7 => ?_⟩
      have Sa7 : Same Ha6 (upd Ha6 a7 (ExO (.ref (cl K 7)) a7)) := same_new na7
      have Ra7 : Rows K (upd Ha6 a7 (ExO (.ref (cl K 7)) a7)) [a0, a1, a2, a3, a4, a5, a6, a7] := (Ra6.same Sa7).snoc (as := [a0, a1, a2, a3, a4, a5, a6]) (.inl ⟨upd_same, rfl⟩)
      replace er1 := Sa7 _ _ er1
      clear Sa7
      generalize upd Ha6 a7 (ExO (.ref (cl K 7)) a7) = Ha7 at Ra7 er1 ⊢
      refine ⟨_, rfl, fun a8 na8 => ?_⟩
      have Sa8 : Same Ha7 (upd Ha7 a8 (ExO (.ref (cl K 8)) a8)) := same_new na8
      have Ra8 : Rows K (upd Ha7 a8 (ExO (.ref (cl K 8)) a8)) [a0, a1, a2, a3, a4, a5, a6, a7, a8] := (Ra7.same Sa8).snoc (as := [a0, a1, a2, a3, a4, a5, a6, a7]) (.inl ⟨upd_same, rfl⟩)
      replace er1 := Sa8 _ _ er1
      clear Sa8
      generalize upd Ha7 a8 (ExO (.ref (cl K 8)) a8) = Ha8 at Ra8 er1 ⊢
      refine ⟨_, rfl, fun a9 na9 => ?_⟩
      have Sa9 : Same Ha8 (upd Ha8 a9 (ExO (.ref (cl K 9)) a9)) := same_new na9
      have Ra9 : Rows K (upd Ha8 a9 (ExO (.ref (cl K 9)) a9)) [a0, a1, a2, a3, a4, a5, a6, a7, a8, a9] := (Ra8.same Sa9).snoc (as := [a0, a1, a2, a3, a4, a5, a6, a7, a8]) (.inl ⟨upd_same, rfl⟩)
      replace er1 := Sa9 _ _ er1
      clear Sa9
      generalize upd Ha8 a9 (ExO (.ref (cl K 9)) a9) = Ha9 at Ra9 er1 ⊢
      refine ⟨by show 5 ≤ sizeLine; decide, fun r2 nr2 => ?_⟩
      have er2 : (upd Ha9 r2 (.lst [.ref a5, .ref a6, .ref a7, .ref a8, .ref a9])) r2 = some (.lst [.ref a5, .ref a6, .ref a7, .ref a8, .ref a9]) := upd_same
      have Sr2 : Same Ha9 (upd Ha9 r2 (.lst [.ref a5, .ref a6, .ref a7, .ref a8, .ref a9])) := same_new nr2
      have Rr2 : Rows K (upd Ha9 r2 (.lst [.ref a5, .ref a6, .ref a7, .ref a8, .ref a9])) [a0, a1, a2, a3, a4, a5, a6, a7, a8, a9] := Ra9.same Sr2
      replace er1 := Sr2 _ _ er1
      clear Sr2
      generalize upd Ha9 r2 (.lst [.ref a5, .ref a6, .ref a7, .ref a8, .ref a9]) = Hr2 at Rr2 er2 er1 ⊢
      refine ⟨r1, r2, _, _, rfl, rfl, er1, er2, by show 10 ≤ sizeLine; decide, fun r3 nr3 => ?_⟩
      have er3 : (upd Hr2 r3 (.lst ([.ref a0, .ref a1, .ref a2, .ref a3, .ref a4] ++ [.ref a5, .ref a6, .ref a7, .ref a8, .ref a9]))) r3 = some (.lst [.ref a0, .ref a1, .ref a2, .ref a3, .ref a4, .ref a5, .ref a6, .ref a7, .ref a8, .ref a9]) := upd_same
      have Rr3 : Rows K (upd Hr2 r3 (.lst ([.ref a0, .ref a1, .ref a2, .ref a3, .ref a4] ++ [.ref a5, .ref a6, .ref a7, .ref a8, .ref a9]))) [a0, a1, a2, a3, a4, a5, a6, a7, a8, a9] := Rr2.same (same_new nr3)
      clear er1 er2
      generalize upd Hr2 r3 (.lst ([.ref a0, .ref a1, .ref a2, .ref a3, .ref a4] ++ [.ref a5, .ref a6, .ref a7, .ref a8, .ref a9])) = Hr3 at Rr3 er3 ⊢
      refine ⟨_, rfl, ?_⟩
      refine ⟨_, rfl, fun a10 na10 => ?_⟩
      have Sa10 : Same Hr3 (upd Hr3 a10 (ExO (.ref (cl K 10)) a10)) := same_new na10
      have Ra10 : Rows K (upd Hr3 a10 (ExO (.ref (cl K 10)) a10)) [a0, a1, a2, a3, a4, a5, a6, a7, a8, a9, a10] := (Rr3.same Sa10).snoc (as := [a0, a1, a2, a3, a4, a5, a6, a7, a8, a9]) (.inl ⟨upd_same, rfl⟩)
      replace er3 := Sa10 _ _ er3
      clear Sa10
      generalize upd Hr3 a10 (ExO (.ref (cl K 10)) a10) = Ha10 at Ra10 er3 ⊢
      refine ⟨_, rfl, fun a11 na11 => ?_⟩
      have Sa11 : Same Ha10 (upd Ha10 a11 (ExO (.ref (cl K 11)) a11)) := same_new na11
      have Ra11 : Rows K (upd Ha10 a11 (ExO (.ref (cl K 11)) a11)) [a0, a1, a2, a3, a4, a5, a6, a7, a8, a9, a10, a11] := (Ra10.same Sa11).snoc (as := [a0, a1, a2, a3, a4, a5, a6, a7, a8, a9, a10]) (.inl ⟨upd_same, rfl⟩)
      replace er3 := Sa11 _ _ er3
      clear Sa11
      generalize upd Ha10 a11 (ExO (.ref (cl K 11)) a11) = Ha11 at Ra11 er3 ⊢
      refine ⟨_, rfl, _, rfl, _, rfl, rfl, by decide, rfl, fun a12 na12 => ⟨a12, _, _, _, rfl, upd_same, fun Ha12 d12 nd12 ne12 kp12 ea12 ed12 => ⟨rfl, ?_⟩⟩⟩
      have Sa12 : Same Ha11 Ha12 := same_init na12 nd12 ne12 kp12
      have Ra12 : Rows K Ha12 [a0, a1, a2, a3, a4, a5, a6, a7, a8, a9, a10, a11, a12] := (Ra11.same Sa12).snoc (as := [a0, a1, a2, a3, a4, a5, a6, a7, a8, a9, a10, a11]) (.inr ⟨d12, ea12, ed12⟩)
      replace er3 := Sa12 _ _ er3
      refine ⟨_, rfl, rfl, by decide, rfl, fun a13 na13 => ⟨a13, _, rfl, upd_same, fun Ha13 d13 nd13 ne13 kp13 ea13 ed13 => ⟨rfl, ?_⟩⟩⟩
      have Sa13 : Same Ha12 Ha13 := same_init na13 nd13 ne13 kp13
      have Ra13 : Rows K Ha13 [a0, a1, a2, a3, a4, a5, a6, a7, a8, a9, a10, a11, a12, a13] := (Ra12.same Sa13).snoc (as := [a0, a1, a2, a3, a4, a5, a6, a7, a8, a9, a10, a11, a12]) (.inr ⟨d13, ea13, ed13⟩)
      replace er3 := Sa13 _ _ er3
      replace ea12 := Sa13 _ _ ea12
      replace ed12 := Sa13 _ _ ed12
      refine ⟨by show 4 ≤ sizeLine; decide, fun r4 nr4 => ?_⟩
      have er4 : (upd Ha13 r4 (.lst [.ref a10, .ref a11, .ref a12, .ref a13])) r4 = some (.lst [.ref a10, .ref a11, .ref a12, .ref a13]) := upd_same
      have Sr4 : Same Ha13 (upd Ha13 r4 (.lst [.ref a10, .ref a11, .ref a12, .ref a13])) := same_new nr4
      have Rr4 : Rows K (upd Ha13 r4 (.lst [.ref a10, .ref a11, .ref a12, .ref a13])) [a0, a1, a2, a3, a4, a5, a6, a7, a8, a9, a10, a11, a12, a13] := Ra13.same Sr4
      replace ea12 := Sr4 _ _ ea12
      replace ed12 := Sr4 _ _ ed12
      replace ea13 := Sr4 _ _ ea13
      replace ed13 := Sr4 _ _ ed13
      replace er3 := Sr4 _ _ er3
      clear Sr4
      generalize upd Ha13 r4 (.lst [.ref a10, .ref a11, .ref a12, .ref a13]) = Hr4 at Rr4 er4 ea12 ed12 ea13 ed13 er3 ⊢
      refine ⟨r3, r4, _, _, rfl, rfl, er3, er4, by show 14 ≤ sizeLine; decide, fun r5 nr5 => ?_⟩
      have er5 : (upd Hr4 r5 (.lst ([.ref a0, .ref a1, .ref a2, .ref a3, .ref a4, .ref a5, .ref a6, .ref a7, .ref a8, .ref a9] ++ [.ref a10, .ref a11, .ref a12, .ref a13]))) r5 = some (.lst [.ref a0, .ref a1, .ref a2, .ref a3, .ref a4, .ref a5, .ref a6, .ref a7, .ref a8, .ref a9, .ref a10, .ref a11, .ref a12, .ref a13]) := upd_same
      have Sr5 : Same Hr4 (upd Hr4 r5 (.lst ([.ref a0, .ref a1, .ref a2, .ref a3, .ref a4, .ref a5, .ref a6, .ref a7, .ref a8, .ref a9] ++ [.ref a10, .ref a11, .ref a12, .ref a13]))) := same_new nr5
      have Rr5 : Rows K (upd Hr4 r5 (.lst ([.ref a0, .ref a1, .ref a2, .ref a3, .ref a4, .ref a5, .ref a6, .ref a7, .ref a8, .ref a9] ++ [.ref a10, .ref a11, .ref a12, .ref a13]))) [a0, a1, a2, a3, a4, a5, a6, a7, a8, a9, a10, a11, a12, a13] := Rr4.same Sr5
      replace ea12 := Sr5 _ _ ea12
      replace ed12 := Sr5 _ _ ed12
      replace ea13 := Sr5 _ _ ea13
      replace ed13 := Sr5 _ _ ed13
      clear er3 er4 Sr5
      generalize upd Hr4 r5 (.lst ([.ref a0, .ref a1, .ref a2, .ref a3, .ref a4, .ref a5, .ref a6, .ref a7, .ref a8, .ref a9] ++ [.ref a10, .ref a11, .ref a12, .ref a13])) = Hr at Rr5 er5 ea12 ed12 ea13 ed13 ⊢
      clear Ra13 Ra12 Ra11 Ra10 Ra9 Ra8 Ra7 Ra6 Ra5 Ra4 Ra3 Ra2 Ra1 Ra0 Rr4 Rr3 Rr2 Rr1
      obtain ⟨as, las, e12, e13, hR, hL⟩ : ∃ as : List Addr, as.length = 14 ∧ as[12]? = some a12 ∧ as[13]? = some a13 ∧ Rows K Hr as ∧ Hr r5 = some (.lst (as.map V.ref)) := ⟨[a0, a1, a2, a3, a4, a5, a6, a7, a8, a9, a10, a11, a12, a13], rfl, rfl, rfl, Rr5, er5⟩
      have lm : (as.map V.ref).length = 14 := by rw [List.length_map, las]
      clear Rr5 er5
      have ats : ∀ i : Nat, i < 14 → atI (as.map V.ref) (0 + (i : Int)) = some (.ref (as.getD i 0)) := fun i hi => by
        rw [Int.zero_add]
        refine atI_nat ?_
        rw [List.getElem?_map, List.getElem?_eq_getElem (by omega), List.getD_eq_getElem?_getD, List.getElem?_eq_getElem (by omega)]
        rfl
      -- for k in range(len(rows))
      refine ⟨_, rfl, r5, _, rfl, .inl (.inl (.inl hL)), _, rfl, by omega, by omega, ?_⟩
      refine for_range (lo := 0) (fun i σ H' => Same Hr H' ∧ ∃ y, σ = [some (.ref a), some (.ref p), some (.str text), some (.int A1), some (.int C1), some (.ref r5), y, none, none, none]) ?_ ?_ ?_
      · exact ⟨Same.refl Hr, none, rfl⟩
      · rintro i σ H' hi ⟨s', y, rfl⟩
        have hi14 : i < 14 := by omega
        obtain ⟨fs, ex⟩ := hR i (by omega)
        have hL' := s' _ _ hL
        have ex' := ex.same s'
        have kk := c.kx i (by omega)
        refine ⟨_, rfl, _, rfl, r5, _, _, _, rfl, rfl, .inl (.inl hL'), ats i hi14, _, _, _, _, _, _, rfl, ex', kk, .own _, c.kf i (by omega), _, rfl, iteF ?_⟩
        refine ⟨_, rfl, _, rfl, r5, _, _, _, rfl, rfl, .inl (.inl hL'), ats i hi14, _, _, _, _, _, _, rfl, ex', kk, .ty _, c.kv i (by omega), _, rfl, iteF ?_⟩
        refine ⟨_, rfl, _, rfl, r5, _, _, _, rfl, rfl, .inl (.inl hL'), ats i hi14, _, i, fs, rfl, by omega, ex', fun H2 p2 s2 n2 e2 => ?_⟩
        refine ⟨_, rfl, r5, _, rfl, .inl (.inl (.inl (s2 _ _ hL'))), _, rfl, by omega, by omega, fun D nD => ?_⟩
        refine lc_range (lo := 0) (fun m H3 => Same H2 H3 ∧ H3 D = some (.lst ((List.range m).map fun j => V.bl (decide (j = i))))) ?_ ?_ ?_
        · exact ⟨same_new nD, upd_same⟩
        · rintro m H3 hm ⟨s3, hD⟩
          refine ⟨rfl, yes_if ⟨_, rfl, _, rfl, rfl, _, hD, ?_, ?_, ?_⟩⟩
          · rw [List.length_map, List.length_range]
            exact small1000 (by omega)
          · intro b o e
            rw [upd_ne (ne_of_none e nD)]
            exact s3 _ _ e
          · rw [upd_same, List.range_succ, List.map_append, show decide (V.int (0 + (m : Int)) = V.int (0 + (i : Int))) = decide (m = i) by
              rw [dec_vint]
              exact decide_eq_decide.mpr ⟨fun z => by omega, fun z => by omega⟩]
            rfl
        · rintro H3 ⟨s3, hD⟩
          rw [show (((as.map V.ref).length : Nat) : Int).toNat = 14 by rw [lm]; rfl] at hD
          refine ⟨.list ((List.range 14).map fun j => .bool (decide (j = i))), _, .lst (.inl (.inl (s3 _ _ e2))) (dp_bools _ _), .lst (.inl (.inl hD)) (dp_bools _ _), rfl, rfl, _, rfl, ?_⟩
          refine iteNB (eqv_lbools _) ?_
          exact ⟨((s'.trans s2).trans s3), _, rfl⟩
      · rintro σ H' ⟨s', y, rfl⟩
        have at12 : atI (as.map V.ref) 12 = some (.ref a12) := atI_nat (j := 12) (by rw [List.getElem?_map, e12]; rfl)
        have at13 : atI (as.map V.ref) 13 = some (.ref a13) := atI_nat (j := 13) (by rw [List.getElem?_map, e13]; rfl)
        replace hL := s' _ _ hL
        replace ea12 := s' _ _ ea12
        replace ed12 := s' _ _ ed12
        replace ea13 := s' _ _ ea13
        replace ed13 := s' _ _ ed13
        clear hR s'
        refine ⟨_, rfl, fun aF nF => ⟨aF, 14, [], rfl, by decide, .inl ⟨upd_same, rfl⟩, fun H7 p7 s7 n7 e7 => ⟨by show 1 ≤ sizeLine; decide, fun l nl => ?_⟩⟩⟩
        have s8 : Same H' (upd H7 l (.lst [.bl false])) := ((same_new nF).trans s7).trans (same_new nl)
        have e7' := (same_new (o := .lst [.bl false]) nl) _ _ e7
        have el : upd H7 l (.lst [.bl false]) l = some (.lst [.bl false]) := upd_same
        generalize upd H7 l (.lst [.bl false]) = H8 at s8 e7' el ⊢
        refine ⟨_, rfl, r5, _, rfl, .inl (.inl (.inl (s8 _ _ hL))), l, _, _, rfl, rfl, el, by omega, by omega, ?_, fun q1 nq1 => ?_⟩
        · rw [lm]
          show 1 * 14 ≤ sizeLine
          decide
        have e9 : upd H8 q1 (.lst (List.replicate (((as.map V.ref).length : Nat) : Int).toNat [V.bl false]).flatten) q1 = some (.lst ((List.range 14).map fun j => V.bl (decide (j = 14)))) := by
          rw [upd_same, lm]
          rfl
        have s9 : Same H8 (upd H8 q1 (.lst (List.replicate (((as.map V.ref).length : Nat) : Int).toNat [V.bl false]).flatten)) := same_new nq1
        generalize upd H8 q1 _ = H9 at s9 e9 ⊢
        refine ⟨.list ((List.range 14).map fun j => .bool (decide (j = 14))), _, .lst (.inl (.inl (s9 _ _ e7'))) (dp_bools _ _), .lst (.inl (.inl e9)) (dp_bools _ _), rfl, rfl, _, rfl, iteNB (eqv_lbools _) ?_⟩
        have s10 := s8.trans s9
        replace hL := s10 _ _ hL
        replace ea12 := s10 _ _ ea12
        replace ed12 := s10 _ _ ed12
        replace ea13 := s10 _ _ ea13
        replace ed13 := s10 _ _ ed13
        clear s10 s9 s8 e9 e7' el e7
        -- one, told
        refine ⟨_, rfl, _, rfl, _, rfl, rfl, by decide, rfl, fun o no => ⟨o, _, _, _, rfl, upd_same, fun Ho dd ndd neo kpo eo edo => ⟨rfl, ?_⟩⟩⟩
        have so := same_init no ndd neo kpo
        replace hL := so _ _ hL
        replace ea12 := so _ _ ea12
        replace ed12 := so _ _ ed12
        replace ea13 := so _ _ ea13
        replace ed13 := so _ _ ed13
        refine ⟨_, rfl, _, _, _, _, rfl, rfl, .inl (.inl hL), at12, a12, cl K 12, d12, _, _, rfl, ea12, ed12, M12.x, nw, rfl, ?_⟩
        refine ⟨_, rfl, _, _, _, _, rfl, rfl, .inl (.inl hL), at12, a12, cl K 12, d12, _, _, rfl, ea12, ed12, M12.x, nf, rfl, ?_⟩
        refine ⟨_, rfl, _, _, _, _, rfl, rfl, .inl (.inl hL), at12, a12, cl K 12, d12, _, _, rfl, ea12, ed12, M12.x, nse, rfl, ?_⟩
        refine ⟨_, rfl, _, _, _, _, rfl, rfl, .inl (.inl hL), at13, a13, cl K 13, d13, _, _, rfl, ea13, ed13, M13.x, npl, rfl, ?_⟩
        refine ⟨_, rfl, o, cl K 12, dd, _, _, rfl, eo, edo, M12.x, nw, rfl, ?_⟩
        refine ⟨_, rfl, o, cl K 12, dd, _, _, rfl, eo, edo, M12.x, nf, rfl, ?_⟩
        refine ⟨_, rfl, o, cl K 12, dd, _, _, rfl, eo, edo, M12.x, nse, rfl, ?_⟩
        refine ⟨by show 7 ≤ sizeLine; decide, fun tl ntl => ?_⟩
        have et : upd Ho tl (.lst [.str text, .int A1, .int C1, .int A1, .str text, .int A1, .int C1]) tl = some (.lst [.str text, .int A1, .int C1, .int A1, .str text, .int A1, .int C1]) := upd_same
        generalize upd Ho tl (.lst [.str text, .int A1, .int C1, .int A1, .str text, .int A1, .int C1]) = H11 at et ⊢
        refine ⟨_, rfl, _, rfl, rfl, by decide, rfl, fun o2 no2 => ⟨o2, _, rfl, upd_same, fun H12 d2 nd2 neo2 kpo2 eo2 edo2 => ⟨rfl, ?_⟩⟩⟩
        have so2 := same_init no2 nd2 neo2 kpo2
        refine ⟨o2, cl K 13, d2, _, _, rfl, eo2, edo2, M13.x, npl, rfl, by show 1 ≤ sizeLine; decide, fun l2 nl2 => ?_⟩
        refine ⟨tl, l2, _, _, rfl, rfl, same_new nl2 _ _ (so2 _ _ et), upd_same, by show 8 ≤ sizeLine; decide, fun r2 nr2 => ?_⟩
        have er2 : upd (upd H12 l2 (.lst [.int C1])) r2 (.lst ([.str text, .int A1, .int C1, .int A1, .str text, .int A1, .int C1] ++ [.int C1])) r2 = some (.lst [.str text, .int A1, .int C1, .int A1, .str text, .int A1, .int C1, .int C1]) := upd_same
        generalize upd (upd H12 l2 (.lst [.int C1])) r2 (.lst ([.str text, .int A1, .int C1, .int A1, .str text, .int A1, .int C1] ++ [.int C1])) = H13 at er2 ⊢
        refine ⟨_, rfl, _, rfl, _, rfl, _, rfl, _, rfl, _, rfl, _, rfl, _, rfl, by show 8 ≤ sizeLine; decide, fun l3 nl3 => ?_⟩
        refine ⟨r2, l3, _, rfl, same_new nl3 _ _ er2, upd_same, Nat.le_of_ble_eq_true rfl, ?_, fun H' b s eb => ?_⟩
        · intro x hx
          simp only [List.mem_cons, List.not_mem_nil, or_false] at hx
          rcases hx with rfl | rfl | rfl | rfl | rfl | rfl | rfl | rfl
          all_goals first
            | exact .inl ⟨_, rfl⟩
            | exact .inr ⟨_, rfl⟩
        · rw [eb]
          exact q H'
end
end K55

set_option maxHeartbeats 0
namespace K55
open PySem PySem.Spec PyProof.Rows L2 Fa
def mkD (x : Str) (st : Stmt) : He.DefD := ⟨(x, none), x, x, defArgs st, defBody st, defScope st, [], []⟩
def mkM (c q : Str) (st : Stmt) : He.DefD := ⟨(c, some "__init__"), "__init__", q, defArgs st, defBody st, defScope st, [], []⟩
def fn : List He.DefD := [mkD "_law_bag" s__law_bag, mkD "_law_stirred" s__law_stirred, mkD "_law_draw" s__law_draw, mkD "_law_alike" s__law_alike, mkD "_law_of" s__law_of, mkD "law" s_law,
  mkM "Impossible" "Impossible.__init__" s_Impossible___init__, mkM "InvalidText" "InvalidText.__init__" s_InvalidText___init__]
def gls : List Str := ["_law_bag", "_law_stirred", "_law_draw", "_law_alike", "_law_of", "law"]
def fre : List Str := ["int", "abs", "range", "len", "isinstance", "list", "tuple", "all", "bool", "str", "ValueError"]
def fa : List He.Fa := gls.map .glo ++ (nms.map .glo ++ fre.map .free)
def initB (K : PySem.W.Frag) (i : Nat) (x : Str) : Bool := oexB K (cl K i) && (He.eqO (PySem.W.findIn K (.ref (cl K i)) "__init__") (some (some (.ref (He.fAd K (x, some "__init__"))))) && (decide (PySem.W.typeIn K (.ref (He.fAd K (x, some "__init__"))) = some (.type "function")) && xfB K (cl K i)))
def exB (K : PySem.W.Frag) : Bool := ((List.range 15).all fun i => kxB K (cl K i)) && (((List.range 15).all fun i => (List.range 14).all fun j => decide (PySem.W.kitOne K (.ref (cl K i)) (.ref (cl K j)) = some (decide (j = i)))) &&
  (((List.range 15).all fun i => decide (PySem.W.kitOne K (.ref (cl K i)) (.ref (cl K 14)) = some true)) && (((List.range 15).all fun i => decide (PySem.W.kitOne K (.ref (cl K i)) (.type "ValueError") = some true)) &&
  (((List.range 15).all fun i => decide (i = 12) || (decide (i = 13) || PySem.W.excIn K (cl K i) [.type "ValueError", .type "Exception", .type "BaseException", .type "object"] "ValueError.__new__")) && (((List.range 15).all fun i => PySem.W.keepIn K (.ref (cl K i))) &&
  (initB K 12 "Impossible" && (initB K 13 "InvalidText" && (He.eqO (PySem.W.findIn K (.ref (cl K 12)) "word") (some none) && (He.eqO (PySem.W.findIn K (.ref (cl K 12)) "first") (some none) && (He.eqO (PySem.W.findIn K (.ref (cl K 12)) "second") (some none) && He.eqO (PySem.W.findIn K (.ref (cl K 13)) "place") (some none)))))))))))
theorem initB_ok {K : PySem.W.Frag} {i : Nat} {x : Str} (h : initB K i x = true) : Mk2 K (cl K i) (He.fAd K (x, some "__init__")) := by
  obtain ⟨h1, h⟩ := He.ba h
  obtain ⟨h2, h⟩ := He.ba h
  obtain ⟨h3, h4⟩ := He.ba h
  exact ⟨oexB_ok h1, He.eqO_ok h2, of_decide_eq_true h3, xfB_ok h4⟩
abbrev R : PySem.W.OpenRow := PySem.W.OpenLaw.row PySem.Challenge.rw_facesagain_k55_errors_made
def loo : List Str := ["FaceError", "InvalidSheet", "InvalidFamily", "InvalidPattern", "InvalidJoins", "InvalidRow", "InvalidCount", "InvalidWidth", "InvalidDay", "InvalidNumber", "InvalidIndex", "NotFull", "NothingToUndo", "Impossible", "InvalidText", "_law_bag", "_law_stirred", "_law_draw", "_law_alike", "_law_of"]
abbrev hk : PySem.W.Hook := He.hookX 6 fa fn [] [] exB
def ob (s : PySem.W.SharedT) : He.AlX := He.obsX 6 fa fn [] [] exB (HandSHeadRun.getT s)
theorem ob_eq (s : PySem.W.SharedT) : ob s = hk.obs s.abs := He.obsX_eq (HandSHeadRun.getT_eq s)
theorem run (w : World) : HandSHeadRun.RunEq R (PySem.W.view R.prog [22]) hk ob 4000 loo w := by
  intro os
  kernel_rfl
end K55

set_option maxHeartbeats 0
namespace K55
open PySem PySem.Spec PyProof.Rows L2 Fa
theorem facts {P : Program} {w : World} {K : PySem.W.Frag} {h : Heap} {mg : Str → Option Value} {f : Addr} (X : K.In h) (G : h.Ns mainGlobals mg) (hfa : mg ("law" : Str) = some (.ref f)) (cx : He.SaysX fa fn [] [] exB w h K) :
    ∃ fd : FuncData, (∀ (s : Shared) (v : Value), BindsTo s fd ⟨[v], []⟩ [("script", v)]) ∧ ∀ base : Heap, K.In base → base.Ns mainGlobals mg → FnOk P w K mg base CX0 3 f fd ["script"] (spLaw K) := by
  have c := cx.t.d
  obtain ⟨h1, h⟩ := He.ba cx.more
  obtain ⟨h2, h⟩ := He.ba h
  obtain ⟨h3, h⟩ := He.ba h
  obtain ⟨h4, h⟩ := He.ba h
  obtain ⟨h5, h⟩ := He.ba h
  obtain ⟨h6, h⟩ := He.ba h
  obtain ⟨h7, h⟩ := He.ba h
  obtain ⟨h8, h⟩ := He.ba h
  obtain ⟨h9, h⟩ := He.ba h
  obtain ⟨h10, h⟩ := He.ba h
  obtain ⟨h11, h12⟩ := He.ba h
  have gl : ∀ x, x ∈ gls → mg x = some (.ref (He.ga K x)) := fun x hx => He.glo_ok X G (c.facts (List.mem_append_left _ (List.mem_map.mpr ⟨x, hx, rfl⟩)))
  have cg : ∀ x, x ∈ nms → mg x = some (.ref (He.ga K x)) := fun x hx => He.glo_ok X G (c.facts (List.mem_append_right _ (List.mem_append_left _ (List.mem_map.mpr ⟨x, hx, rfl⟩))))
  have fr : ∀ x, x ∈ fre → mg x = none := fun x hx => He.free_ok X G (c.facts (List.mem_append_right _ (List.mem_append_right _ (List.mem_map.mpr ⟨x, hx, rfl⟩))))
  obtain ⟨fdB, F0⟩ := c.def_ 0 rfl
  obtain ⟨fdS, F1⟩ := c.def_ 1 rfl
  obtain ⟨fdD, F2⟩ := c.def_ 2 rfl
  obtain ⟨fdA, F3⟩ := c.def_ 3 rfl
  obtain ⟨fdO, F4⟩ := c.def_ 4 rfl
  obtain ⟨fdL, F5⟩ := c.def_ 5 rfl
  obtain ⟨fd12, F6⟩ := c.def_ 6 rfl
  obtain ⟨fd13, F7⟩ := c.def_ 7 rfl
  have e := hfa.symm.trans (gl "law" (by decide))
  cases e
  have b := FunD.bindsA (ps := ["script"]) F5 fun _ _ _ _ _ _ us hl => match us, hl with | [_], _ => rfl
  have T0 : Fun K "_law_bag" "_law_bag" s__law_bag _ fdB := fun_of F0
  have T1 : Fun K "_law_stirred" "_law_stirred" s__law_stirred _ fdS := fun_of F1
  have T2 : Fun K "_law_draw" "_law_draw" s__law_draw _ fdD := fun_of F2
  have T3 : Fun K "_law_alike" "_law_alike" s__law_alike _ fdA := fun_of F3
  have T4 : Fun K "_law_of" "_law_of" s__law_of _ fdO := fun_of F4
  have T5 : Fun K "law" "law" s_law _ fdL := fun_of F5
  have T6 : Fun K "__init__" "Impossible.__init__" s_Impossible___init__ _ fd12 := fun_of F6
  have T7 : Fun K "__init__" "InvalidText.__init__" s_InvalidText___init__ _ fd13 := fun_of F7
  have b0 := T0.binds (ps := ["script"]) fun _ _ _ _ _ _ us hl => match us, hl with | [_], _ => rfl
  have b1 := T1.binds (ps := ["bag", "wide"]) fun _ _ _ _ _ _ us hl => match us, hl with | [_, _], _ => rfl
  have b2 := T2.binds (ps := ["bag", "wide"]) fun _ _ _ _ _ _ us hl => match us, hl with | [_, _], _ => rfl
  have b3 := T3.binds (ps := ["found", "due"]) fun _ _ _ _ _ _ us hl => match us, hl with | [_, _], _ => rfl
  have b4 := T4.binds (ps := ["made"]) fun _ _ _ _ _ _ us hl => match us, hl with | [_], _ => rfl
  have k12 : KBn K fd12 ["self", "word", "first", "second"] (3 + 1) [] (fun us ws => us) (fun us ws => us) := kbn_of (ks := []) T6 (fun us _ => us) (fun r _ => r) fun _ _ _ _ _ _ us ws hl h0 => match us, ws, hl, h0 with | [_, _, _, _], [], _, _ => rfl
  have k12k : KBn K fd12 ["self", "word", "first", "second"] 1 ["second", "first", "word"] (fun us ws => us ++ (ws.drop 2 ++ ((ws.drop 1).take 1 ++ ws.take 1))) (fun us ws => us ++ (ws.drop 2 ++ ((ws.drop 1).take 1 ++ ws.take 1))) :=
    kbn_of (ks := ["second", "first", "word"]) T6 (fun us ws => us ++ (ws.drop 2 ++ ((ws.drop 1).take 1 ++ ws.take 1))) (fun r z => r.append ((z.drop 2).append (((z.drop 1).take 1).append (z.take 1)))) fun _ _ _ _ _ _ us ws hl h0 => match us, ws, hl, h0 with | [_], [_, _, _], _, _ => rfl
  have k13 : KBn K fd13 ["self", "place"] (1 + 1) [] (fun us ws => us) (fun us ws => us) := kbn_of (ks := []) T7 (fun us _ => us) (fun r _ => r) fun _ _ _ _ _ _ us ws hl h0 => match us, ws, hl, h0 with | [_, _], [], _, _ => rfl
  have k13k : KBn K fd13 ["self", "place"] 1 ["place"] (fun us ws => us ++ ws) (fun us ws => us ++ ws) := kbn_of (ks := ["place"]) T7 (fun us ws => us ++ ws) (fun r z => r.append z) fun _ _ _ _ _ _ us ws hl h0 => match us, ws, hl, h0 with | [_], [_], _, _ => rfl
  have cs : Cs K mg := ⟨fun i hi => cg _ (by
      rw [List.getD_eq_getElem?_getD, List.getElem?_eq_getElem (show i < nms.length from hi)]
      exact List.getElem_mem _), fun i hi => kxB_ok (all_lt h1 i hi), fun i j hi hj => of_decide_eq_true (all_lt (all_lt h2 i hi) j hj), fun i hi => of_decide_eq_true (all_lt h3 i hi), fun i hi => of_decide_eq_true (all_lt h4 i hi)⟩
  have M12 := initB_ok h7
  have M13 := initB_ok h8
  refine ⟨fdL, fun s v => b s [v] rfl, fun base _ _ => ?_⟩
  have mI := fr "isinstance" (by decide)
  have mL := fr "len" (by decide)
  have mR := fr "range" (by decide)
  have G1 : FnOk P w K mg base CX0 1 _ fdA ["found", "due"] spAl1 := ok_al1 (k := 0) T3 ok_no (gl "_law_alike" (by decide)) b3 mI (fr "list" (by decide)) (fr "tuple" (by decide)) mL mR (fr "all" (by decide)) (fr "bool" (by decide)) (fr "int" (by decide)) (fr "str" (by decide))
  exact ok_law T5 cs T0 (ok_bag T0 (fr "int" (by decide)) (fr "abs" (by decide))) (gl "_law_bag" (by decide)) b0 T2 (ok_draw T2 T1 b1 (gl "_law_stirred" (by decide)) (fr "int" (by decide)) mR mL) (gl "_law_draw" (by decide)) b2
    T3 (ok_al2 T3 G1 (gl "_law_alike" (by decide)) b3 mI (fr "list" (by decide)) (fr "tuple" (by decide)) mL mR (fr "all" (by decide)) (fr "bool" (by decide)) (fr "int" (by decide)) (fr "str" (by decide))) (gl "_law_alike" (by decide)) b3
    T4 (ok_of T4 cs mI) (gl "_law_of" (by decide)) b4 M12 M13 (ok_init3 T6 M12.T (He.eqO_ok h9) (He.eqO_ok h10) (He.eqO_ok h11)) (ok_init1 T7 M13.T (He.eqO_ok h12)) k12 k12k k13 k13k (He.eqO_ok h9) (He.eqO_ok h10) (He.eqO_ok h11) (He.eqO_ok h12)
    (fun i hi n1 n2 => by
      have z := all_lt h5 i hi
      rw [decide_eq_false n1, decide_eq_false n2, Bool.false_or, Bool.false_or] at z
      exact z) (fun i hi => all_lt h6 i hi) mI mL mR (fr "ValueError" (by decide))
end K55
open PySem PySem.W PySem.Calls PyProof.Rows
theorem PySem.Challenge.cw_facesagain_k55_errors_made_holds : PySem.Challenge.rw_facesagain_k55_errors_made.Holds := by
  w_on; o_law
  refine HandSHeadRun.head_any (r := OpenLaw.row PySem.Challenge.rw_facesagain_k55_errors_made) (q := view (OpenLaw.row PySem.Challenge.rw_facesagain_k55_errors_made).prog [22]) (H := K55.hk) (ob := K55.ob) (M := 4000) (loose := K55.loo) (d := HandSHeadRun.topDef (OpenLaw.row PySem.Challenge.rw_facesagain_k55_errors_made).prog 22) (kwd := []) K55.ob_eq
    (by kernel_rfl) (fun s => by kernel_rfl) K55.run (by kernel_rfl) (by kernel_rfl) (by kernel_rfl) (by rfl) (by first | assumption | decide +kernel) (by decide +kernel) ⟨rfl, rfl, rfl, rfl, rfl, by decide +kernel⟩ ?hw ?hc
  case hw => w_witness2
  case hc =>
    refine L2.walk_ofE (l := PySem.Challenge.rw_facesagain_k55_errors_made) (n := 63) (k := 3) (x := "script") (CX := L2.CX0) rfl (by decide) (by kernel_rfl) ⟨rfl, by decide, by decide⟩ ?F (fun _ _ _ _ z => z)
    intro w mg fa h Y G hmg0
    obtain ⟨K, KX, c⟩ := Y
    have hmg : mg ("law" : PySem.Str) = some (.ref fa) := by
      have e : (HandSHeadRun.topDef (OpenLaw.row PySem.Challenge.rw_facesagain_k55_errors_made).prog 22).name = ("law" : PySem.Str) := by kernel_rfl
      rw [← e]
      exact hmg0
    obtain ⟨fd, hb, hF⟩ := K55.facts (P := (PySem.Challenge.rw_facesagain_k55_errors_made).prog) (w := w) KX G hmg c
    exact ⟨K, fd, K55.spLaw K, KX, hb, fun H a ns hl _ hS => ⟨a, ns, rfl, hS, hl, fun _ => rfl⟩, hF⟩
