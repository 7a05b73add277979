import PyProof.Rows.All
import Wide.All
import OpenK.AllK
import Wide.FinOn
import KE.KLam
import HandS.ForMost
import HandS.Exc
import HandS.ExcOwn
import HandS.TryOnly
import HandS.WordsExc
import HandS.ExcInit
import HandS.ExcIs
import HandS.ExcField
import HandS.IsInst
import HandS.ClsMeth
import HandS.Defaults
import HandS.MakeKw
import HandS.Nested
import HandS.SetFor
import HandS.Flow
import HandS.ExcValue
import PyProof.ReprRoads
import PyProof.ReprBulk
import PyProof.StrLawsRepr
import PyProof.EqKinds
import HandS.Lambda
import HandS.EndBits
import HandS.EndTab
import PySem.Challenge.RW_lastopen_k01_errors_made
set_option Elab.async false
set_option linter.all false
set_option maxRecDepth 100000
set_option maxHeartbeats 4000000
/-! Errors of classes of one's own as values: made by place and by name, asked by isinstance, their fields read. -/
namespace PySem
namespace EK
open PySem.W PySem.Calls PyProof.Rows PySem.HandSPX
section
variable {M : Model} {prog : Program} {w : World} {A : Around} {E : Value → Shared → Prop} {R : Result → Shared → Prop} {h : Heap} {g : Array GenState} {d : Drawn} {t : Nat} {os : OsState}
variable {nm q : Str} {C N : Addr} {bs bm bmB : List Value} {hdct : Bool} {sn : List Str} {sub : List Value} {ab : Bool} {col : Option Bool} {dd : Option Addr} {k0 k1 k2 k3 k5 : Option Value} {B newId initId : String}
theorem check_new_kw (F : ExcBaseFacts B newId initId bmB) (hT : ∀ X : String, bm.contains (.type X) = bmB.contains (.type X)) {rest : List Value} {kw : List (Str × Value)} {Q : Unit → Shared → Prop}
    (hC : h.get? C = some (excClassObj nm q C N bs bm hdct sn sub ab col dd k0 k1 k2 k3 k5 newId)) (hq : Q () ⟨h, g, d, t, os⟩) : wpAny M A (checkBuiltinCall newId ⟨.ref C :: rest, kw⟩) Q E ⟨h, g, d, t, os⟩ := by
  have hcont : (Value.ref C :: bm).contains (.type B) = true := by rw [List.contains_cons, hT, F.hasB, Bool.or_true]
  have hstar := F.noStar
  simp only [checkBuiltinCall, F.newKind, F.newSplit, F.newRow]
  repeat (first | refine wpAny_loadPart_at hC ?_ | (refine wpAny_isSubtype_exc hC ?_; rw [hcont]) | refine wpAny_staticBase_exc hC ?_ | refine wpAny_madeBy_exc hC ?_ | simp only [bne_self_eq_false, Bool.false_eq_true, if_false] | wp_step)
  exact hq
theorem new_kw (F : ExcBaseFacts B newId initId bmB) (hT : ∀ X : String, bm.contains (.type X) = bmB.contains (.type X)) {rest : List Value} {kw : List (Str × Value)}
    (hC : h.get? C = some (excClassObj nm q C N bs bm hdct sn sub ab col dd k0 k1 k2 k3 k5 newId))
    (hq : R (.ok (.ret (.ref (h.objs.size + 1)))) ⟨(h.push { cls := .type "tuple", data := .seq rest.toArray }).push
      { cls := .ref C, data := .fields #[.ref h.objs.size, .none, .none, .none, .bool false, .none] }, g, d, t, os⟩) (hrest : rest.length ≤ sizeLine) :
    codeAny (model prog w) A (.builtin newId ⟨.ref C :: rest, kw⟩) R ⟨h, g, d, t, os⟩ := by
  have hends := F.ends
  have hcB : (Value.ref C :: bm).contains (.type B) = true := by rw [List.contains_cons, hT, F.hasB, Bool.or_true]
  have hcA : (Value.ref C :: bm).contains (.type "AttributeError") = false := by rw [List.contains_cons, hT, F.noAttr]; rfl
  have hcN : (Value.ref C :: bm).contains (.type "NameError") = false := by rw [List.contains_cons, hT, F.noName]; rfl
  refine codeAny_builtinAt F.entry ?_
  unfold Builtin.«BaseException.__new__»
  refine wpAt_bind ?_
  show wpAt _ _ _ (stack >>= _) _ _ _
  refine wpAt_bind (wpAt_stack fun p below => wpAt_of_wpAny ?_)
  wp_walk
  refine wpAt_of_wpAny ?_
  rw [F.owner]
  repeat (first | with_reducible refine wpAny_madeHere_exc F.canon hC ?_ | with_reducible refine wpAny_loadPart_at hC ?_ | (with_reducible refine wpAny_isSubtype_exc hC ?_; first | rw [hcB] | rw [hcA] | rw [hcN]) | wp_step)
  show R _ _
  rw [Heap.size_push]
  exact hq
theorem type_call_kw (F : ExcBaseFacts B newId initId bmB) (hT : ∀ X : String, bm.contains (.type X) = bmB.contains (.type X)) {rest : List Value} {kw : List (Str × Value)} {fI : Addr} {Q : Fin → Shared → Prop}
    (hC : h.get? C = some (excClassObj nm q C N bs bm hdct sn sub ab col dd k0 k1 k2 k3 k5 newId))
    (hi : W.Looks (model prog w) h (typeLookup (.ref C) "__init__") (some (.ref fI))) (hb : ∀ self, W.Looks (model prog w) h (bindSpecial (.ref fI) self) (.ref fI, [self])) (hrest : rest.length ≤ sizeLine)
    (hq : codeAny (model prog w) A (.call (.ref fI) ⟨.ref (h.objs.size + 1) :: rest, kw⟩)
      (fun r s' => match r with | .ok (.ret v) => v = .none ∧ Q (.done (.ret (.ref (h.objs.size + 1)))) s' | .ok _ => False | .error e => E e s')
      ⟨(h.push (W.kdv_tup rest)).push (excO C h.objs.size), g, d, t, os⟩) :
    wpAny (model prog w) A (Builtin.«type.__call__» ⟨.ref C :: rest, kw⟩) Q E ⟨h, g, d, t, os⟩ := by
  repeat (first | with_reducible refine wpAny_loadPart_at hC ?_ | with_reducible refine wpAny_madeBy_exc hC ?_ | wp_step)
  refine codeAny_call_builtin_code (Code.quiet_builtin _ F.quiet) (check_new_kw F hT hC ?_)
  refine new_kw F hT hC ?_ hrest
  show wpAny _ _ _ _ _ _
  have k : ∀ b o, h.get? b = some o → ((h.push (W.kdv_tup rest)).push (excO C h.objs.size)).get? b = some o := fun b o e => Heap.get?_push_of_some _ (Heap.get?_push_of_some _ e)
  have hC₁ := k _ _ hC
  have hget : ((h.push (W.kdv_tup rest)).push (excO C h.objs.size)).get? (h.objs.size + 1) = some (excO C h.objs.size) := by heap_get
  have hcC : (Value.ref C :: bm).contains (.ref C) = true := by simp
  have i1 := hi.keeps k
  have b1 := (hb (.ref (h.objs.size + 1))).keeps k
  unfold isInstance
  repeat (first | with_reducible refine wpAny_loadPart_at hget ?_ | (with_reducible refine wpAny_isSubtype_exc hC₁ ?_; rw [hcC]) | wp_step)
  show wpAny _ _ (typeLookup (.ref C) _) _ _ _
  refine i1.at ?_
  refine wpAny_holding (wpAny_bind (b1.at ?_))
  refine wpAny_bind (wpAny_call (codeAny_mono hq fun r s' z => ?_))
  rcases r with e | (v | _ | _ | _) <;> first | exact z | exact z.elim | skip
  obtain ⟨rfl, z⟩ := z
  first
    | exact wpAny_pure (wpAny_pure z)
    | (wp_walk; exact z)
theorem check_type_kw {rest : List Value} {kw : List (Str × Value)} {Q : Unit → Shared → Prop} (hC : h.get? C = some (excClassObj nm q C N bs bm hdct sn sub ab col dd k0 k1 k2 k3 k5 newId))
    (hq : Q () ⟨h, g, d, t, os⟩) : wpAny M A (checkBuiltinCall "type.__call__" ⟨.ref C :: rest, kw⟩) Q E ⟨h, g, d, t, os⟩ := by
  have f3 := tc_sub
  have hT : (⟨h, g, d, t, os⟩ : Shared).TypeIs (.ref C) "type" := ⟨_, hC, rfl⟩
  simp only [checkBuiltinCall, tc_kind, tc_split]
  repeat (any_goals (first | assumption | with_reducible refine wpAny_loadPart_at hC ?_ | with_reducible refine wpAny_onRaise ?_ | with_reducible refine wpAny_map ?_ | wp_step))
theorem call_kw (F : ExcBaseFacts B newId initId bmB) (hT : ∀ X : String, bm.contains (.type X) = bmB.contains (.type X)) {rest : List Value} {kw : List (Str × Value)} {fI : Addr}
    (hC : h.get? C = some (excClassObj nm q C N bs bm hdct sn sub ab col dd k0 k1 k2 k3 k5 newId))
    (hi : W.Looks (model prog w) h (typeLookup (.ref C) "__init__") (some (.ref fI))) (hb : ∀ self, W.Looks (model prog w) h (bindSpecial (.ref fI) self) (.ref fI, [self])) (hrest : rest.length ≤ sizeLine)
    (hq : codeAny (model prog w) (A.under (.builtin "type.__call__" ⟨.ref C :: rest, kw⟩)) (.call (.ref fI) ⟨.ref (h.objs.size + 1) :: rest, kw⟩) (W.InitBack (h.objs.size + 1) R)
      ⟨(h.push (W.kdv_tup rest)).push (excO C h.objs.size), g, d, t, os⟩) :
    codeAny (model prog w) A (.call (.ref C) ⟨rest, kw⟩) R ⟨h, g, d, t, os⟩ := by
  have f1 := tc_lookup
  have f2 := tc_bind (.ref C)
  have hTy : (⟨h, g, d, t, os⟩ : Shared).TypeIs (.ref C) "type" := ⟨_, hC, rfl⟩
  refine codeAny_of_tree ?_
  show wpAny _ _ (callAny (.ref C) _) _ _ _
  repeat (any_goals (first | assumption | with_reducible refine wpAny_loadPart_at hC ?_ | wp_step))
  refine ⟨rfl, ?_⟩
  refine codeAny_call_builtin_at (Code.quiet_builtin _ (by decide +kernel)) entry_typeCall (check_type_kw hC (type_call_kw F hT hC hi hb hrest ?_))
  refine codeAny_mono hq fun r s' z => ?_
  rcases r with e | (v | _ | _ | _) <;> exact z
end
end EK
end PySem
namespace PySem.W
open PySem PySem.Spec PySem.Calls PyProof.Rows
section
variable {prog : Program} {w : World} {A : Around} {E : Value → Shared → Prop} {s : Shared} {K : Frag} {x D : Addr} {ox : Obj} {od : Option Obj}
theorem find_dataN {C : Addr} {name : Str} {a g : Value} (hc : (clsIn K C).isSome = true) (ha : findIn K (.ref C) name = some (some a)) (hg : specialIn K a "__get__" = some (some g)) (ht : takesIn K a = some true) : findObj K C od name = some (.bind g a) := by
  obtain ⟨cd, hc⟩ := Option.isSome_iff_exists.mp hc
  unfold findObj
  rw [hc, Option.bind_some, ha, Option.bind_some]
  simp [hg, ht]
theorem kin_classEd {Q : Option Value → Shared → Prop} (hga : findIn K (.ref D) "__getattribute__" = some (some (.builtin "BaseException.__getattribute__"))) (hgt : findIn K (.ref D) "__getattr__" = some none) (hsub : subIn K (.ref D) (.type "BaseException") = some true)
    (hdct : hasDictIn K D = true) (ha : findIn K (.ref D) "__class__" = some (some (.builtin "object.__class__")))
    (hn : specialIn K (.builtin "object.__class__") "__get__" = some (some (.builtin "getset_descriptor.__get__"))) (htk : takesIn K (.builtin "object.__class__") = some true) (hm : mroIn K D (.type "object") = some true)
    (X : K.In s.heap) (I : InstAt s.heap x ox D od) (h : Q (some (.ref D)) { s with toks := s.toks + 1 }) : wpAny (model prog w) A (getAttr? (.ref x) "__class__") Q E s := by
  have hf : findObj K D od "__class__" = some (.bind (.builtin "getset_descriptor.__get__") (.builtin "object.__class__")) := find_dataN (by obtain ⟨cd, hc, _⟩ := any_some hdct; rw [hc]; rfl) ha hn htk
  obtain ⟨hp, g, d, t, os⟩ := s
  have L0 := I.type (M := model prog w)
  have L1 := looks_findIn (M := model prog w) X hga
  have L2 := looks_findIn (M := model prog w) X hgt
  have L3 := looks_find (M := model prog w) X I hf
  have sub : Looks (model prog w) hp (isInstance (.ref x) (.type "BaseException")) true := L0.andThen (looks_subIn X hsub)
  have hx0 : (false && onTheHeap (Value.builtin "BaseException.__getattribute__")) = false := rfl
  have hx2 : (Value.builtin "BaseException.__getattribute__" == Value.builtin "object.__getattribute__") = false := by decide +kernel
  have hx1 : (onTheHeap (Value.ref D) && Value.builtin "BaseException.__getattribute__" == Value.builtin "object.__getattribute__") = false := by rw [hx2]; rfl
  unfold getAttr? getAttrBy? getAttrBy
  refine wpAny_bind (wpAny_mkText (wpAny_bind (wpAny_attempt (wpAny_holding (wpAny_bind (L0.at (wpAny_bind (L1.at ?_))))))))
  show wpAny _ _ (if (onTheHeap (Value.ref D) && Value.builtin "BaseException.__getattribute__" == Value.builtin "object.__getattribute__") = true then _ else _) _ _ _
  rw [hx1, if_neg Bool.false_ne_true]
  unfold getAttrByItsOwn hookBefore
  refine wpAny_bind ?_
  rw [if_pos (show onTheHeap (Value.ref D) = true from rfl)]
  refine L2.at ?_
  refine wpAny_bind (wpAny_attempt (wpAny_holding ?_))
  unfold callGetattribute
  rw [hx0, if_neg Bool.false_ne_true]
  unfold boundAndCalled
  rw [PySem.F.excAttr_ValueError.ga.bind (.ref x)]
  refine wpAny_bind (wpAny_pure ?_)
  show wpAny _ _ (call (.builtin "BaseException.__getattribute__") [.ref x, .str "__class__" t]) _ _ _
  refine wpAny_call (codeAny_call_builtin PySem.F.excAttr_ValueError.ga.plain PySem.F.entry_bexc_ga ?_)
  refine @check_slot (model prog w) _ _ ⟨hp, g, d, t + 1, os⟩ "BaseException.__getattribute__" "BaseException" "__getattribute__" (.ref x) [.str "__class__" t] [] _ (by decide +kernel) (by decide +kernel) sub (PySem.F.args_bexc_ga (.ref x) (.str "__class__" t)) ?_
  unfold Builtin.«object.__getattribute__»
  refine wpAny_bind (wpAny_of_eq (a := ((Value.ref x : Value), [Value.str "__class__" t])) (by first | rfl | (simp only [slotArgs]; rfl)) ?_)
  refine wpAny_bind (wpAny_pure (wpAny_bind (L0.at (wpAny_bind (L3.at ?_)))))
  show wpAny _ _ (holding [Value.builtin "object.__class__"] (call (.builtin "getset_descriptor.__get__") [.builtin "object.__class__", .ref x, .ref D]) >>= ret) _ _ _
  refine wpAny_bind (wpAny_holding (wpAny_call (class_get (s := ⟨hp, g, d, t + 1, os⟩) (ox := ox) (od := od) X I hm ?_)))
  refine wpAny_pure ?_
  show wpAny _ _ (handedOut (.ref D)) _ _ _
  rw [handedOut_of (v := .ref D) rfl]
  first
    | exact wpAny_pure (wpAny_pure h)
    | exact wpAny_pure h
    | exact wpAny_pure (wpAny_bind (wpAny_pure (wpAny_pure h)))
theorem kitx_excd (hga : findIn K (.ref D) "__getattribute__" = some (some (.builtin "BaseException.__getattribute__"))) (hgt : findIn K (.ref D) "__getattr__" = some none) (hsub : subIn K (.ref D) (.type "BaseException") = some true) (hdct : hasDictIn K D = true) (ha : findIn K (.ref D) "__class__" = some (some (.builtin "object.__class__")))
    (hn : specialIn K (.builtin "object.__class__") "__get__" = some (some (.builtin "getset_descriptor.__get__"))) (htk : takesIn K (.builtin "object.__class__") = some true) (hm : mroIn K D (.type "object") = some true) :
    KitX K (.ref x) (.ref D) (fun h => ∃ ox od, InstAt h x ox D od) where
  ty := fun _ _ _ ⟨_, _, I⟩ => I.type
  it := fun _ _ X _ => by
    obtain ⟨cdD, hcD, _⟩ := any_some hdct
    unfold clsIn at hcD
    split at hcD
    · rename_i c' d' cd' sl' ho
      intro A' Q' E' s' k q
      unfold isType loadHead
      exact wpAny_bind (wpAny_loadPart (k _ _ (X _ _ ho)) (wpAny_pure q))
    · cases hcD
  ne := fun h tp dd its n sl X htp => by
    obtain ⟨cdD, hcD, _⟩ := any_some hdct
    refine Bool.eq_false_iff.mpr fun q => ?_
    have e : D = tp := Value.ref.inj (beq_iff_eq.mp q)
    subst e
    unfold clsIn at hcD
    split at hcD
    · rename_i c' d' cd' sl' ho
      have z := (X _ _ ho).symm.trans htp
      cases z
    · cases hcD
  ca := fun X ⟨_, _, I⟩ k => kin_classEd hga hgt hsub hdct ha hn htk hm X I k
end
end PySem.W

namespace EV
open PySem PySem.Spec PyProof.Rows L2
/-- an error of the class at C with the fields fs stands at a -/
def ErrAt (H : Hp) (a C : Addr) (fs : List (Str × V)) : Prop := (fs = [] ∧ H a = some (exo a C none)) ∨ ∃ dx, H a = some (exo a C (some dx)) ∧ H dx = some (exd dx fs)
theorem ErrAt.of_same {H H' : Hp} {a C : Addr} {fs : List (Str × V)} (e : ErrAt H a C fs) (k : ∀ b o, H b = some o → H' b = some o) : ErrAt H' a C fs := by
  rcases e with ⟨h1, h2⟩ | ⟨dx, h1, h2⟩
  · exact .inl ⟨h1, k _ _ h2⟩
  · exact .inr ⟨dx, k _ _ h1, k _ _ h2⟩
section
variable {X : Cx} {pins : List (Addr × Obj)} {σ : L2.St} {H : Hp} {s : Shared}
theorem ErrAt.inst (I : Inv X pins σ H s) {a C : Addr} {fs : List (Str × V)} (e : ErrAt H a C fs) : ∃ ox od, PySem.W.InstAt s.heap a ox C od ∧ ∀ f, RelO (fs.lookup f) ((od.bind fun o => PySem.W.lookIn f o).join) := by
  rcases e with ⟨rfl, h⟩ | ⟨dx, h1, h2⟩
  · obtain ⟨t1, ho⟩ := exo_at I.hok h
    exact ⟨_, none, ⟨ho, rfl, rfl, trivial⟩, fun f => trivial⟩
  · obtain ⟨t1, ho⟩ := exo_at I.hok h1
    obtain ⟨mA, hns, hr⟩ := exd_at I.hok h2
    obtain ⟨od, hod, hl⟩ := lookIn_ns hns
    refine ⟨_, some od, ⟨ho, rfl, rfl, hod⟩, fun f => ?_⟩
    show RelO (fs.lookup f) (PySem.W.lookIn f od).join
    rw [hl f]
    exact hr f
end
/-! ### the field of an error that is a value -/
def tEf (K : PySem.W.Frag) (f : Str) (te : TE) : TE := fun σ H Q => te σ H fun x H1 => ∃ (a C dx : Addr) (fs : List (Str × V)) (v : V), x = .ref a ∧ XfC K C ∧ PySem.W.findIn K (.ref C) f = some none ∧ H1 a = some (exo a C (some dx)) ∧ H1 dx = some (exd dx fs) ∧ fs.lookup f = some v ∧ Q v H1
theorem pe_ef {X : Cx} {e : Expr} {te : TE} {pos : Pos} {n : Str} (he : PE X e te) (hb : attributeBase e n X.env (eval e X.env) = eval e X.env := by rfl) : PE X (.Attribute e n pos) (tEf X.K n te) := by
  refine ⟨fun pins s σ H Q I h => ?_⟩
  refine attr_of hb (thn (he.run pins s σ H _ I h) fun u s1 hh => ?_)
  obtain ⟨x, H1, I1, rx, a, C, dx, fs, v, ex, T, hno, h1, h2, l, q⟩ := hh
  subst ex
  obtain rfl : u = Value.ref a := rx
  obtain ⟨t1, ho⟩ := exo_at I1.hok h1
  obtain ⟨mA, hns, hr⟩ := exd_at I1.hok h2
  obtain ⟨od, hod, hl⟩ := lookIn_ns hns
  obtain ⟨u, hu, ru⟩ := RelO.some_of (v := v) (o := mA n) (by rw [← l]; exact hr n)
  have J : PySem.W.InstAt s1.heap a _ C (some od) := ⟨ho, rfl, rfl, hod⟩
  exact HandSPX.exc_get I1.kIn J T.ga T.gg T.exC (PySem.W.findObj_own T.hdC hno rfl (by rw [hl, hu])) (handed_of ru) ⟨v, H1, I1.tok _, ru, q⟩
/-! ### isinstance of it -/
def rIsX (K : PySem.W.Frag) : List V → Hp → VK → Prop := fun xs H Q => ∃ (a D : Addr) (fs : List (Str × V)) (c : V) (cv : Value) (b : Bool), xs = [.ref a, c] ∧ ErrAt H a D fs ∧ ClsV c cv ∧ ExcC K D ∧ PySem.W.kitOne K (.ref D) cv = some b ∧ Q (.bl b) H
theorem call_isX {X : Cx} : CallR X (.builtin "isinstance") (rIsX X.K) := by
  intro pins s σ H xs us Q I r h
  obtain ⟨a, D, fs, c, cv, b, rfl, ea, k, C, e, q⟩ := h
  obtain ⟨u1, u2, rfl, r1, r2⟩ := vals2 r
  have e2 := k.eq r2
  subst e2
  cases (show u1 = Value.ref a from r1)
  obtain ⟨ox, od, J, _⟩ := ea.inst I
  exact PySem.W.kia_one (PySem.W.kitx_excd C.hg C.hk C.hs C.hd C.ha C.hn C.ht C.hm) I.kIn ⟨_, _, J⟩ e (fun z => nomatch z) fun tk => ⟨.bl b, H, I.tok tk, rfl, q⟩
/-! ### made -/
section
variable {X : Cx} {CX : CXT} {k : Nat} {C fI : Addr} {fd : FuncData} {ps : List Str} {sp : Sp} {E : XK} {x : Str} {p pos : Pos} {e : Expr} {es : List Expr} {ta : TA}
theorem run_mkE {pins : List (Addr × Obj)} {σ : L2.St} {H : Hp} {s : Shared} {Q : VK} {us ws : List Value} {kw : List (Str × Value)} {zs : List V} (T : OexC X.K C) (iC : PySem.W.findIn X.K (.ref C) "__init__" = some (some (.ref fI))) (tI : PySem.W.typeIn X.K (.ref fI) = some (.type "function"))
    (F : FnOk X.prog X.w X.K X.mg X.base CX k fI fd ps sp) (hr : Room (k + 1) X.A) (hx : Passes CX X E) (I : Inv X pins σ H s) (hus : us.length ≤ 1000)
    (bt : ∀ (s' : Shared) (self : Value), X.K.In s'.heap → (self :: ws).length = ps.length → BindsTo s' fd ⟨self :: us, kw⟩ (ps.zip (self :: ws))) (r : Vals zs ws)
    (h : ∀ a, H a = none → sp (.ref a :: zs) (upd H a (exo a C none)) (fun v H2 => v = .non ∧ Q (.ref a) H2) E) :
    wpAny (model X.prog X.w) X.A (call (.ref C) us kw) (EP X pins σ Q) X.xe s := by
  obtain ⟨nm, q, N, bs, bm, sn, sub, ab, col, dd, k0, k1, k2, k3, k5, hC, hbm⟩ := T.cls
  obtain ⟨hp, g, dr, tk, os⟩ := s
  have hsz : hp.objs.size ≤ hp.objs.size + 1 := Nat.le_succ _
  have hn : H (hp.objs.size + 1) = none := I.hok.fresh hsz
  have hq := h (hp.objs.size + 1) hn
  have kk : ∀ b o, hp.get? b = some o → ((hp.push (PySem.W.kdv_tup us)).push (PySem.HandSPX.excO C hp.objs.size)).get? b = some o := fun b o e => Heap.get?_push_of_some _ (Heap.get?_push_of_some _ e)
  have hget : ((hp.push (PySem.W.kdv_tup us)).push (PySem.HandSPX.excO C hp.objs.size)).get? (hp.objs.size + 1) = some (PySem.HandSPX.excO C hp.objs.size) := by heap_get
  have I2 : Inv X pins σ (upd H (hp.objs.size + 1) (exo (hp.objs.size + 1) C none)) ⟨(hp.push (PySem.W.kdv_tup us)).push (PySem.HandSPX.excO C hp.objs.size), g, dr, tk, os⟩ :=
    I.laid (t' := tk) (a := hp.objs.size + 1) (o := exo (hp.objs.size + 1) C none) (h' := (hp.push (PySem.W.kdv_tup us)).push (PySem.HandSPX.excO C hp.objs.size)) kk hsz (exo_ok hget)
  have r2 : Vals (V.ref (hp.objs.size + 1) :: zs) (Value.ref (hp.objs.size + 1) :: ws) := .cons rfl r
  have hl : (Value.ref (hp.objs.size + 1) :: ws).length = ps.length := by
    have e := r2.length
    rw [F.len _ _ _ _ hq] at e
    exact e.symm
  have hus2 : us.length ≤ sizeLine := by
    rw [sizeLine_eq]
    omega
  refine wpAny_call (PySem.EK.call_kw PySem.F.excBase_ValueError (fun Y => PySem.HandSPX.refsVE_contains Y bm hbm) (I.kIn _ _ hC) (PySem.W.looks_findIn I.kIn iC) (fun self => PySem.W.bind_fn I.kIn self tI) hus2
    (codeAny_mono (F.run _ X.stack _ _ ⟨Value.ref (hp.objs.size + 1) :: us, kw⟩ (Value.ref (hp.objs.size + 1) :: ws) _ _ E (hr.make C us kw) (I2.env0.make C us kw) (bt _ _ I2.kIn hl) r2 hq) fun r s' hq' => ?_))
  cases r with
  | error er => exact hx pins σ _ _ er s' I2 hq'
  | ok fl =>
    cases fl with
    | ret u =>
      obtain ⟨v, H', I3, rv, ev, q3⟩ := I2.after hq'
      subst ev
      exact ⟨rv, ⟨V.ref (hp.objs.size + 1), H', I3, rfl, q3⟩⟩
    | next => exact False.elim hq'
    | brk => exact False.elim hq'
    | cont => exact False.elim hq'
/-- C(e, ..) and C(), the error as a value; C's own __init__ keeps sp -/
def tMkE (C : Addr) (sp : Sp) (E : XK) (ta : TA) : TE := fun σ H Q => ta σ H fun vs H1 => vs.length ≤ 1000 ∧ ∀ a, H1 a = none → sp (.ref a :: vs) (upd H1 a (exo a C none)) (fun v H2 => v = .non ∧ Q (.ref a) H2) E
/-- C(k = v, ..) -/
def tMkEk (C : Addr) (m : Nat) (sp : Sp) (E : XK) (gV : List V → List V) (tk : TA) : TE := fun σ H Q => tk σ H fun zs H1 => zs.length = m ∧ ∀ a, H1 a = none → sp (.ref a :: gV zs) (upd H1 a (exo a C none)) (fun v H2 => v = .non ∧ Q (.ref a) H2) E
theorem pe_mkE (T : OexC X.K C) (iC : PySem.W.findIn X.K (.ref C) "__init__" = some (some (.ref fI))) (tI : PySem.W.typeIn X.K (.ref fI) = some (.type "function")) (F : FnOk X.prog X.w X.K X.mg X.base CX k fI fd ps sp) (hr : Room (k + 1) X.A) (hb : Binds X.K fd ps []) (hx : Passes CX X E)
    (hg : Gl X x) (hm : X.mg x = some (.ref C)) (ha : PA X (e :: es) ta)
    (hdb : (x == ("__debug__" : Str)) = false := by decide) (he : starEach (e :: es) X.env = (false, eval e X.env) :: starEach es X.env := by rfl) (hpl : (backTo pos (starEach es X.env)).any (·.1) = false := by rfl) :
    PE X (.Call (.Name x p) (e :: es) [] pos) (tMkE C sp E ta) := by
  refine ⟨fun pins s σ H Q I h => ?_⟩
  refine wpAny_Call_Name_kw (ld_glob I hg hm ?_ hdb)
  refine PySem.W.callWith_K (h₀ := X.base) I.ok.mod.kin T.kC (thn (ha.run pos pins s σ H _ I h) fun us s1 ⟨vs, H1, I1, r1, hz, q1⟩ => ⟨I1.kIn, ?_⟩) he hpl
  refine run_mkE (ws := us) T iC tI F hr hx I1 (by show us.length ≤ 1000; rw [← r1.length]; exact hz) (fun s' self hk hl => ?_) r1 q1
  have z := hb s' (self :: us) hk (by rw [List.append_nil]; exact hl)
  rw [List.append_nil] at z
  exact z
theorem pe_mkE0 (T : OexC X.K C) (iC : PySem.W.findIn X.K (.ref C) "__init__" = some (some (.ref fI))) (tI : PySem.W.typeIn X.K (.ref fI) = some (.type "function")) (F : FnOk X.prog X.w X.K X.mg X.base CX k fI fd ps sp) (hr : Room (k + 1) X.A) (hb : Binds X.K fd ps []) (hx : Passes CX X E)
    (hg : Gl X x) (hm : X.mg x = some (.ref C)) (hdb : (x == ("__debug__" : Str)) = false := by decide) :
    PE X (.Call (.Name x p) [] [] pos) (tMkE C sp E tNil) := by
  refine ⟨fun pins s σ H Q I h => ?_⟩
  refine wpAny_Call_Name_kw (ld_glob I hg hm ?_ hdb)
  obtain ⟨_, h⟩ := (show ([] : List V).length ≤ 1000 ∧ _ from h)
  refine PySem.W.callWith_K0 I.kIn T.kC (run_mkE (us := []) (ws := []) (kw := []) T iC tI F hr hx I (by decide) (fun s' self hk hl => ?_) .nil h)
  have z := hb s' [self] hk hl
  exact z
theorem pe_mkEk {ks : List Str} {g : List Value → List Value} {gV : List V → List V} {kws : List Keyword} {tk : TA} (T : OexC X.K C) (iC : PySem.W.findIn X.K (.ref C) "__init__" = some (some (.ref fI))) (tI : PySem.W.typeIn X.K (.ref fI) = some (.type "function"))
    (F : FnOk X.prog X.w X.K X.mg X.base CX k fI fd ps sp) (hr : Room (k + 1) X.A) (hx : Passes CX X E)
    (hb : ∀ (s' : Shared) (self : Value) (ws : List Value), ws.length = ks.length → BindsTo s' fd ⟨[self], ks.zip ws⟩ (ps.zip (self :: g ws))) (hrel : ∀ {zs : List V} {ws : List Value}, Vals zs ws → zs.length = ks.length → Vals (gV zs) (g ws))
    (hg : Gl X x) (hm : X.mg x = some (.ref C)) (hkw : PK X kws tk)
    (hall : (backToKw pos (keywordEach kws X.env)).all (·.1.isSome) = true := by rfl) (hks : (backToKw pos (keywordEach kws X.env)).filterMap (·.1) = ks := by rfl) (hdb : (x == ("__debug__" : Str)) = false := by decide)
    (hpl : ((backTo pos (starEach [] X.env)).any (·.1) || (backToKw pos (keywordEach kws X.env)).any (·.1.isNone)) = false := by rfl) :
    PE X (.Call (.Name x p) [] kws pos) (tMkEk C ks.length sp E gV tk) := by
  refine ⟨fun pins s σ H Q I h => ?_⟩
  refine wpAny_Call_Name_kw (ld_glob I hg hm ?_ hdb)
  refine PySem.W.callWith_KW0 (h₀ := X.base) I.ok.mod.kin T.kC hall ?_ hpl
  refine thn (hkw.run pos pins s σ H _ I h) fun ws s2 ⟨zs, H2, I2, rz, l2, q2⟩ => ⟨I2.kIn, ?_⟩
  rw [hks]
  exact run_mkE (us := []) T iC tI F hr hx I2 (by decide) (fun s' self hk hl => hb s' self ws (by rw [← rz.length]; exact l2)) (hrel rz l2) q2
/-- an error class without an __init__ of its own, made with nothing -/
theorem pe_exc0 {bmB : List Value} {B newId initId : String} (F : ExcBaseFacts B newId initId bmB) (q : PySem.W.excIn X.K C bmB newId = true) (hm : X.mg x = some (.ref C)) (kC : PySem.W.keepIn X.K (.ref C) = true) (hg : Gl X x) (hdb : (x == ("__debug__" : Str)) = false := by decide) :
    PE X (.Call (.Name x p) [] [] pos) (fun σ H Q => ∀ a, H a = none → Q (.ref a) (upd H a (exo a C none))) := by
  refine ⟨fun pins s σ H Q I h => ?_⟩
  refine wpAny_Call_Name_kw (ld_glob I hg hm ?_ hdb)
  refine PySem.W.callWith_K0 I.kIn kC ?_
  obtain ⟨bm, N, nm, qn, bs, hdct, sn, sub, ab, col, dd, k0, k1, k2, k3, k5, mN, hC, hN, hni, T⟩ := exc_obj I.kIn q
  refine wpAny_call_exc_subT F T hC hN hni (fun h' a hm => ?_) (by show 0 ≤ sizeLine; exact Nat.zero_le _)
  have hn : H a = none := I.hok.gone hm.new
  obtain ⟨t, ht, _, _⟩ := hm.there
  exact ⟨.ref a, upd H a (exo a C none), I.laidN hm.keeps hm.new hn (exo_ok ht), rfl, h a hn⟩
/-- Base.__init__(self, ..), Base an own error class without an __init__ of its own -/
theorem pe_binit {pl : Sem Bool} {O : Addr} {p1 p2 : Pos} (r : ClX.CRead X.K O (.type "type")) (vV : PySem.W.findCls X.K (.ref O) (.type "type") "__init__" = some (.val (.builtin "ValueError.__init__"))) (hg : Gl X x) (hm : X.mg x = some (.ref O)) (ha : PA X (e :: es) ta)
    (hdb : (x == ("__debug__" : Str)) = false := by decide)
    (hc : eval (.Call (.Attribute (.Name x p1) "__init__" p2) (e :: es) [] pos) X.env = (do
      let ov ← eval (.Name x p1) X.env
      standAt p2.atName
      let (f, first) ← holding [ov] (getMethod ov "__init__" pl)
      callWith pos f first (backTo pos (starEach (e :: es) X.env)) (backToKw pos (keywordEach [] X.env))) := by rfl)
    (he : starEach (e :: es) X.env = (false, eval e X.env) :: starEach es X.env := by rfl) (hpl : (backTo pos (starEach es X.env)).any (·.1) = false := by rfl) :
    PE X (.Call (.Attribute (.Name x p1) "__init__" p2) (e :: es) [] pos) (tVeI X.K ta) := by
  refine ⟨fun pins s σ H Q I h => ?_⟩
  refine PySem.W.methodCall_KW (ld_glob I hg hm ?_ hdb) hc
  refine PySem.W.method_cls I.kIn r.ga (PySem.W.cls_value I.kIn r.rd vV (by decide +kernel) ?_)
  show wpAny _ _ (callWith pos (Value.builtin "ValueError.__init__") [] (backTo pos (starEach (e :: es) X.env)) []) _ _ _
  refine PyProof.Rows.callWith_method1 (thn (ha.run pos pins _ σ H _ (I.tok _) h) fun us s1 ⟨vs, H1, I1, r1, a, C, ws, ev, hl, T, ea, q⟩ => ?_) he hpl
  subst ev
  cases r1 with
  | @cons _ u0 _ ur ra rw' =>
    obtain rfl : u0 = Value.ref a := ra
    have hlen : ur.length ≤ sizeLine := by
      rw [← Paired.length rw', sizeLine_eq]
      omega
    exact oinit_ok T I1 ea hlen fun s' J => ⟨.non, H1, J, rfl, q⟩
end
end EV
namespace EV
open PySem PySem.Spec PyProof.Rows L2
/-! ### data with dicts, to be shown -/
def keyD : Key → PyData
  | .inl i => .int i
  | .inr x => .str x
mutual
inductive Dq (K : PySem.W.Frag) (H : Hp) : V → PyData → Prop
  | non : Dq K H .non .none
  | bl (b : Bool) : Dq K H (.bl b) (.bool b)
  | int (i : Int) : Dq K H (.int i) (.int i)
  | str (x : Str) : Dq K H (.str x) (.str x)
  | lst {a : Addr} {xs : List V} {ds : List PyData} : SqL K H a xs → a ≠ sysModules → DqAll K H xs ds → Dq K H (.ref a) (.list ds)
  | tup {a : Addr} {xs : List V} {ds : List PyData} : SqT K H a xs → DqAll K H xs ds → Dq K H (.ref a) (.tuple ds)
  | dct {a : Addr} {kvs : List (Key × V)} {ds : List PyData} : H a = some (.dK kvs) → DqAll K H (kvs.map (·.2)) ds → Dq K H (.ref a) (.dict ((kvs.map fun p => keyD p.1).zip ds))
inductive DqAll (K : PySem.W.Frag) (H : Hp) : List V → List PyData → Prop
  | nil : DqAll K H [] []
  | cons {v : V} {vs : List V} {d : PyData} {ds : List PyData} : Dq K H v d → DqAll K H vs ds → DqAll K H (v :: vs) (d :: ds)
end
theorem DqAll.len {K : PySem.W.Frag} {H : Hp} : ∀ {vs : List V} {ds : List PyData}, DqAll K H vs ds → vs.length = ds.length
  | _, _, .nil => rfl
  | _, _, .cons _ t => congrArg Nat.succ (DqAll.len t)
section
variable {X : Cx} {pins : List (Addr × Obj)} {σ : L2.St} {H : Hp} {s : Shared}
theorem keys_read {h : Heap} : ∀ {es : List DictEntry} {vs : List (Key × Value)}, Pairs (mixKind X.prog X.w) es vs → ReadsAll h (es.map (·.key)) (vs.map fun p => keyD p.1) []
  | _, _, .nil => .nil
  | _, _, .cons (e := e) (kv := kv) h1 h2 t => by
    have r := keys_read (h := h) t
    have one : Reads h e.key (keyD kv.1) [] := by
      rcases keyIs_shape (show keyIs kv.1 e.key = true from h1) with ⟨i, tk, e1, e2⟩ | ⟨y, tk, e1, e2⟩
      · rw [e1, e2]
        exact .int i tk
      · rw [e1, e2]
        exact .str y tk
    exact .cons one r
theorem vals_are : ∀ {es : List DictEntry} {vs : List (Key × Value)}, Pairs (mixKind X.prog X.w) es vs → es.map (·.val) = vs.map (·.2)
  | _, _, .nil => rfl
  | _, _, .cons h1 h2 t => by
    rw [List.map_cons, List.map_cons, h2, vals_are t]
theorem kv_vals : ∀ {kvs : List (Key × V)} {vs : List (Key × Value)}, KV kvs vs → Vals (kvs.map (·.2)) (vs.map (·.2))
  | _, _, .nil => .nil
  | _, _, .cons r t => .cons r.2 (kv_vals t)
theorem kv_keys : ∀ {kvs : List (Key × V)} {vs : List (Key × Value)}, KV kvs vs → kvs.map (fun p => keyD p.1) = vs.map (fun p => keyD p.1)
  | _, _, .nil => rfl
  | _, _, .cons r t => by rw [List.map_cons, List.map_cons, r.1, kv_keys t]
theorem zip_fst {α β : Type} : ∀ {l : List α} {m : List β}, l.length = m.length → (l.zip m).map (·.1) = l
  | [], [], _ => rfl
  | a :: l, b :: m, h => by rw [List.zip_cons_cons, List.map_cons, zip_fst (Nat.succ.inj h)]
theorem zip_snd {α β : Type} : ∀ {l : List α} {m : List β}, l.length = m.length → (l.zip m).map (·.2) = m
  | [], [], _ => rfl
  | a :: l, b :: m, h => by rw [List.zip_cons_cons, List.map_cons, zip_snd (Nat.succ.inj h)]
mutual
theorem Dq.reads (I : Inv X pins σ H s) : ∀ {v : V} {d : PyData} {u : Value}, Dq X.K H v d → RelV v u → ∃ as, Reads s.heap u d as ∧ sysModules ∉ as
  | _, _, _, .non, r => by cases r; exact ⟨_, .none, by simp⟩
  | _, _, _, .bl b, r => by cases r; exact ⟨_, .bool b, by simp⟩
  | _, _, _, .int i, r => by obtain ⟨t, rfl⟩ := r; exact ⟨_, .int i t, by simp⟩
  | _, _, _, .str x, r => by obtain ⟨t, rfl⟩ := r; exact ⟨_, .str x t, by simp⟩
  | _, _, _, .lst hs ne ha, r => by
    cases r
    obtain ⟨its, rv, ⟨o, n, ho, hc, _, hd⟩, _⟩ := I.list hs
    obtain ⟨as, hr, hn⟩ := DqAll.reads I ha rv
    refine ⟨_, Reads.list ho hc hd hr, fun z => ?_⟩
    rcases List.mem_cons.mp z with e | e
    · exact ne e.symm
    · exact hn e
  | _, _, _, .tup hs ha, r => by
    cases r
    obtain ⟨its, rv, ⟨o, ho, hc, n, hd⟩, _⟩ := I.tuple hs
    obtain ⟨as, hr, hn⟩ := DqAll.reads I ha rv
    exact ⟨_, Reads.tuple ho hc hd hr, hn⟩
  | _, _, _, .dct (a := a) (kvs := kvs) (ds := ds) he ha, r => by
    cases r
    obtain ⟨_, hsm, vs, kv, o, es, ep, ho, hx, hd, _, hp, _⟩ := (show ObjOk X.prog X.w H s.heap a (.dK kvs) from I.hok a _ he)
    obtain ⟨as, hr, hn⟩ := DqAll.reads I ha (kv_vals kv)
    have hl : (kvs.map fun p => keyD p.1).length = ds.length := by rw [List.length_map, ← ha.len, List.length_map]
    have hk := keys_read (h := s.heap) hp
    refine ⟨_, Reads.dict (as := []) (bs := as) ho hx.1 hd ?_ ?_, fun z => ?_⟩
    · rw [zip_fst hl, kv_keys kv]
      exact hk
    · rw [zip_snd hl, vals_are hp]
      exact hr
    · rcases List.mem_cons.mp z with e | e
      · exact (beq_eq_false_iff_ne.mp hsm) e.symm
      · exact hn e
theorem DqAll.reads (I : Inv X pins σ H s) : ∀ {vs : List V} {ds : List PyData} {us : List Value}, DqAll X.K H vs ds → Vals vs us → ∃ as, ReadsAll s.heap us ds as ∧ sysModules ∉ as
  | _, _, _, .nil, r => by cases r; exact ⟨_, .nil, by simp⟩
  | _, _, _, .cons h1 h2, r => by
    cases r with
    | cons r1 r2 =>
      obtain ⟨as, q1, n1⟩ := Dq.reads I h1 r1
      obtain ⟨bs, q2, n2⟩ := DqAll.reads I h2 r2
      exact ⟨_, .cons q1 q2, fun z => (List.mem_append.mp z).elim n1 n2⟩
end
end
theorem sqT_same {K : PySem.W.Frag} {H H' : Hp} (k : ∀ b o, H b = some o → H' b = some o) {a : Addr} {xs : List V} (h : SqT K H a xs) : SqT K H' a xs := by
  rcases h with (h | ⟨o, h⟩) | h
  · exact .inl (.inl (k _ _ h))
  · exact .inl (.inr ⟨o, k _ _ h⟩)
  · exact .inr h
mutual
theorem Dq.same {K : PySem.W.Frag} {H H' : Hp} (k : ∀ b o, H b = some o → H' b = some o) : ∀ {v : V} {d : PyData}, Dq K H v d → Dq K H' v d
  | _, _, .non => .non
  | _, _, .bl b => .bl b
  | _, _, .int i => .int i
  | _, _, .str x => .str x
  | _, _, .lst hs ne ha => .lst (Same.seq k hs) ne (DqAll.same k ha)
  | _, _, .tup hs ha => .tup (sqT_same k hs) (DqAll.same k ha)
  | _, _, .dct he ha => .dct (k _ _ he) (DqAll.same k ha)
theorem DqAll.same {K : PySem.W.Frag} {H H' : Hp} (k : ∀ b o, H b = some o → H' b = some o) : ∀ {vs : List V} {ds : List PyData}, DqAll K H vs ds → DqAll K H' vs ds
  | _, _, .nil => .nil
  | _, _, .cons h t => .cons (Dq.same k h) (DqAll.same k t)
end
/-! ### repr -/
def rRepr (K : PySem.W.Frag) : List V → Hp → VK → Prop := fun xs H Q => ∃ (x : V) (d : PyData), xs = [x] ∧ Dq K H x d ∧ d.showable = true ∧ d.shown.length ≤ sizeLine ∧ d.depth ≤ 60 ∧ Q (.str d.shown) H
theorem call_reprD {X : Cx} (hg : X.A.guards = some []) (hu : X.A.units + 64 < cLine) : CallR X (.builtin "repr") (rRepr X.K) := by
  intro pins s σ H xs us Q I r h
  obtain ⟨x, d, rfl, hd, hs, hz, hdp, q⟩ := h
  obtain ⟨u, rfl, ru⟩ := r.one
  cases hd with
  | non =>
    cases ru
    exact PySem.P.repr_of_none ⟨.str _, H, I.tok _, ⟨_, rfl⟩, q⟩
  | bl b =>
    cases ru
    refine PySem.P.repr_of_bool ⟨.str _, H, I.tok _, ⟨_, rfl⟩, ?_⟩
    cases b <;> exact q
  | int i =>
    obtain ⟨t, rfl⟩ := ru
    exact PySem.P.repr_of_int (by simpa [PyData.showable] using hs) ⟨.str _, H, I.tok _, ⟨_, rfl⟩, q⟩
  | str y =>
    obtain ⟨t, rfl⟩ := ru
    exact PySem.P.repr_of_str ⟨.str _, H, I.tok _, ⟨_, rfl⟩, q⟩ hz
  | lst h1 h2 h3 =>
    obtain ⟨as, hr, hn⟩ := Dq.reads I (.lst h1 h2 h3) ru
    cases ru
    exact repr_of_reads' hr hs (fun _ => hn) hg (by omega) (fun _ _ e => e) (fun h' u tk k => ⟨.str _, H, I.kept k, ⟨u, rfl⟩, q⟩) hz
  | tup h1 h2 =>
    obtain ⟨as, hr, hn⟩ := Dq.reads I (.tup h1 h2) ru
    cases ru
    exact repr_of_reads' hr hs (fun _ => hn) hg (by omega) (fun _ _ e => e) (fun h' u tk k => ⟨.str _, H, I.kept k, ⟨u, rfl⟩, q⟩) hz
  | dct h1 h2 =>
    obtain ⟨as, hr, hn⟩ := Dq.reads I (.dct h1 h2) ru
    cases ru
    exact repr_of_reads' hr hs (fun _ => hn) hg (by omega) (fun _ _ e => e) (fun h' u tk k => ⟨.str _, H, I.kept k, ⟨u, rfl⟩, q⟩) hz
/-! ### a list display: its place is told to be a new one -/
def tLstB (t : TA) : TE := fun σ H Q => t σ H fun xs H1 => xs.length ≤ sizeLine ∧ ∀ p, H1 p = none → p ≠ sysModules → Q (.ref p) (upd H1 p (.lst xs))
theorem pe_lstB {X : Cx} {es : List Expr} {t : TA} {pos : Pos} (h : PA X es t) : PE X (.List es pos) (tLstB t) := ⟨fun pins s σ H Q I hq =>
  wpAny_List_spliced (thn (h.run pos pins s σ H _ I hq) fun us s1 ⟨xs, H1, I1, r, z, q⟩ => ⟨r.length ▸ z, .ref s1.heap.objs.size, upd H1 s1.heap.objs.size (.lst xs),
    I1.laid (t' := s1.toks) (fun _ _ e => Heap.get?_push_of_some _ e) (Nat.le_refl _) ⟨z, us, 0, r, Heap.get?_push_size _ rfl⟩, rfl, q _ (I1.hok.fresh (Nat.le_refl _)) (Nat.ne_of_gt I1.big)⟩)⟩
/-! ### xs.count(True), xs a list of truth values -/
def isTrueV : Value → Bool
  | .bool b => b
  | _ => false
def rCntT (K : PySem.W.Frag) : V → List V → Hp → VK → Prop := fun x xs H Q => ∃ (p : Addr) (bs : List Bool), x = .ref p ∧ xs = [.bl true] ∧ SqL K H p (bs.map V.bl) ∧ Q (.int (bs.countP id : Nat)) H
theorem true_count : ∀ {bs : List Bool} {us : List Value}, Vals (bs.map V.bl) us → us.countP isTrueV = bs.countP id ∧ ∀ y ∈ us, ∃ b, y = .bool b
  | [], _, r => by cases r; exact ⟨rfl, fun _ h => nomatch h⟩
  | b :: bs, _, r => by
    cases r with
    | cons r1 r2 =>
      cases r1
      obtain ⟨h1, h2⟩ := true_count r2
      refine ⟨?_, fun y hy => ?_⟩
      · rw [List.countP_cons, List.countP_cons, h1] <;> rfl
      · rcases List.mem_cons.mp hy with e | e
        · exact ⟨b, e⟩
        · exact h2 y e
theorem mt_countT {X : Cx} : MtR X "list.count" (rCntT X.K) := by
  intro pins s σ H x xs v us Q I rx rxs h
  obtain ⟨p, bs, rfl, rfl, hs, q⟩ := h
  cases rx
  obtain ⟨u, rfl, ru⟩ := rxs.one
  cases ru
  obtain ⟨its, rv, ⟨⟨cls, dd, data, sl⟩, n, ho, hc, hdn, hd⟩, hlen⟩ := I.list hs
  simp only at hc hd
  subst hc hd
  obtain ⟨ec, eb⟩ := true_count rv
  refine call_meets PySem.F.slot_list_count ⟨_, ho, rfl⟩ PySem.F.entry_list_count (PySem.F.args_list_count_2 _ _)
    (SeqAt.list_countAt p its.toArray n dd sl (.bool true) isTrueV) ⟨ho, fun y hy => ?_, .int (bs.countP id : Nat), H, I.tok _, ⟨s.toks, ?_⟩, q⟩
  · obtain ⟨b, rfl⟩ := eb y (by simpa using hy)
    have z := SeqAt.EqAt.bool_bool (A := X.A.in1) (s := s) b true
    rw [show (b == true) = isTrueV (.bool b) by cases b <;> rfl] at z
    exact z
  · have e3 : its.toArray.toList.countP isTrueV = bs.countP id := ec
    show Value.int ((its.toArray.toList.countP isTrueV : Nat) : Int) s.toks = _
    rw [e3]
end EV
namespace EV
open PySem PySem.Spec PyProof.Rows L2 LamX NdefX
/-! ### a lambda without captured names, as a value -/
def LamO (f : Addr) (F : NF) (e : Expr) : HO := .ext fun h => ∃ (od : Option Addr) (sl : Array (Option Value)) (pm ctv : Value), h.get? f = some (⟨.type "function", od, .func (PySem.W.kla_fn F.name F.qual F.params e F.scope F.cl pm (.ref F.c) ctv), sl⟩ : Obj)
theorem lamO_at {P : Program} {w : World} {H : Hp} {h : Heap} {f : Addr} {F : NF} {e : Expr} (hok : HOk P w H h) (x : H f = some (LamO f F e)) : ∃ (od : Option Addr) (sl : Array (Option Value)) (pm ctv : Value), h.get? f = some (⟨.type "function", od, .func (PySem.W.kla_fn F.name F.qual F.params e F.scope F.cl pm (.ref F.c) ctv), sl⟩ : Obj) := (hok f _ x).1
theorem lamO_ne {f : Addr} {F : NF} {e : Expr} (ps : Array Value) : LamO f F e ≠ .tbl ps := fun z => by
  unfold LamO at z
  cases z
section
variable {X : Cx} {pins : List (Addr × Obj)} {σ : L2.St} {H : Hp} {s : Shared}
theorem inv_lam {F : NF} {e : Expr} {h' : Heap} {t' : Nat} {pm ctv : Value} (I : Inv X pins σ H { s with heap := h', toks := t' }) :
    Inv X pins σ (upd H h'.objs.size (LamO h'.objs.size F e)) { s with heap := h'.push ({ cls := .type "function", data := .func (PySem.W.kla_fn F.name F.qual F.params e F.scope F.cl pm (.ref F.c) ctv) } : Obj), toks := t' } := by
  have at_ : (h'.push ({ cls := .type "function", data := .func (PySem.W.kla_fn F.name F.qual F.params e F.scope F.cl pm (.ref F.c) ctv) } : Obj)).get? h'.objs.size = some ({ cls := .type "function", data := .func (PySem.W.kla_fn F.name F.qual F.params e F.scope F.cl pm (.ref F.c) ctv) } : Obj) := Heap.get?_push_size _ rfl
  exact I.laid (a := h'.objs.size) (o := LamO h'.objs.size F e) (t' := t') (fun _ _ z => Heap.get?_push_of_some _ z) (Nat.le_refl _) ⟨⟨_, _, pm, ctv, at_⟩, ⟨_, at_⟩, fun _ _ ⟨od, sl, p, t, z⟩ st => ⟨od, sl, p, t, st _ z⟩⟩
/-- its making: the code object is new, or found in the table -/
theorem lam_new {T : List (Addr × Str)} {c P : Addr} {params : Arguments} {body : Expr} {scope : Scope} {pos : Pos} {E : Value → Shared → Prop} {Q : Value → Shared → Prop} (I : Inv X pins σ H s) (TB : TabB X.base X.mg c P) (hcode : X.env.code = .ref c)
    (hm : (P, X.env.qual ++ "<lambda>") ∈ T) (hu : ∀ p ∈ T, p.1 = P → p.2 = X.env.qual ++ "<lambda>") (hT : Tabs T H) (hdef : defaultsOf params X.env = ([], [])) (hfree : ∀ y ∈ scope.names, y.2 = .free → ∃ c, X.env.cells.lookup y.1 = some c) (hcl : cloFrom X.env.cells scope.names [] = [])
    (h : ∀ (f c' : Addr) (H1 : Hp) (s' : Shared), Inv X pins σ H1 s' → ExtN H H1 → Tabs T H1 → H f = none → H1 f = some (LamO f ⟨"<lambda>", X.env.qual ++ "<lambda>", params, [], scope, [], c'⟩ body) → H1 c' = some (CodeO c' (X.env.qual ++ "<lambda>")) → Q (.ref f) s') :
    wpAny (model X.prog X.w) X.A (eval (.Lambda params body scope pos) X.env) Q E s := by
  obtain ⟨ps, hP, ht, ha⟩ := hT _ hm
  have bP := TB.bm.keeps I.bk
  have hP' : s.heap.get? P = some { cls := .none, data := .fields ps } := I.hok P _ hP
  have clo := closure_ok (env := X.env) hfree
  rw [hcl] at clo
  refine PySem.W.kla_eval hdef ?_
  cases hc : codeAmong pos ps.toList with
  | some cv =>
    obtain ⟨c', e, hco⟩ := ha pos cv hc
    subst e
    refine PySem.W.kla_makeFunctionHit (mg := X.mg) (c := c) (P := P) (ps := ps) clo I.ok.glob (I.mod.glob.keeps I.bk) hcode (TB.code.keeps I.bk) hP' ht hc bP fun ctv h' tk hx hsz => ?_
    have J : Inv X pins σ H { s with heap := h', toks := tk } := I.kept hx
    have nf := J.hok.fresh (Nat.le_refl h'.objs.size)
    exact h h'.objs.size c' _ _ (inv_lam (F := ⟨"<lambda>", X.env.qual ++ "<lambda>", params, [], scope, [], c'⟩) J) (fun b o e _ => (upd_ne (ne_of_none e nf)).trans e) (fun p hp => (hT p hp).ext fun b o e => (upd_ne (ne_of_none e nf)).trans e) nf upd_same ((upd_ne (ne_of_none hco nf)).trans hco)
  | none =>
    refine PySem.W.kla_makeFunction (mg := X.mg) (c := c) (P := P) (ps := ps) clo I.ok.glob (I.mod.glob.keeps I.bk) hcode (TB.code.keeps I.bk) hP' ht hc TB.gP bP fun c' ctv h' tk hx hge hlt hrec htb => ?_
    obtain ⟨c2, oc, vs, t, e2, hoc, hd, hv⟩ := hrec
    cases e2
    have nC : H c' = none := I.hok.fresh hge
    have J := inv_table (t' := tk) (more := #[rawInt pos.line, rawInt pos.col, .ref c']) (h' := h') I hP (fun b o hb e => hx b o hb e) htb hge ⟨oc, vs, t, hoc, hd, hv⟩
    have grow : ExtN H (upd (upd H P (.tbl (ps ++ #[rawInt pos.line, rawInt pos.col, .ref c']))) c' (CodeO c' (X.env.qual ++ "<lambda>"))) := fun b o e n => by
      rw [upd_ne (ne_of_none e nC), upd_ne fun z => n ps (Option.some.inj (e.symm.trans (by rw [z]; exact hP)))]
      exact e
    have eL : (ps ++ #[rawInt pos.line, rawInt pos.col, .ref c']).toList = ps.toList ++ [rawInt pos.line, rawInt pos.col, .ref c'] := by simp
    have T1 : Tabs T (upd (upd H P (.tbl (ps ++ #[rawInt pos.line, rawInt pos.col, .ref c']))) c' (CodeO c' (X.env.qual ++ "<lambda>"))) := fun p hp => by
      by_cases hb : p.1 = P
      · rw [hu p hp hb, hb]
        refine ⟨_, (upd_ne (ne_of_none hP nC)).trans upd_same, eL ▸ PySem.TriplesOk_snoc _ _ _ _ ht, fun p' cv hcv => ?_⟩
        rcases among_app _ ht (eL ▸ hcv) with z | z
        · obtain ⟨c0, e1, e2⟩ := ha p' cv z
          exact ⟨c0, e1, grow _ _ e2 codeO_ne⟩
        · exact ⟨c', z, upd_same⟩
      · obtain ⟨ps', a1, a2, a3⟩ := hT p hp
        refine ⟨ps', (upd_ne (ne_of_none a1 nC)).trans ((upd_ne hb).trans a1), a2, fun p' cv hcv => ?_⟩
        obtain ⟨c0, e1, e2⟩ := a3 p' cv hcv
        exact ⟨c0, e1, grow _ _ e2 codeO_ne⟩
    have nf := J.hok.fresh (Nat.le_refl h'.objs.size)
    refine h h'.objs.size c' _ _ (inv_lam (F := ⟨"<lambda>", X.env.qual ++ "<lambda>", params, [], scope, [], c'⟩) J) (fun b o e n => (upd_ne (ne_of_none (grow b o e n) nf)).trans (grow b o e n)) (fun p hp => (T1 p hp).ext fun b o e => (upd_ne (ne_of_none e nf)).trans e) ?_ upd_same
      ((upd_ne (Nat.ne_of_lt hlt)).trans upd_same)
    exact I.hok.fresh (Nat.le_trans hge (Nat.le_of_lt hlt))
end
def tLamV (T : List (Addr × Str)) (mk : Addr → NF) (e : Expr) : TE := fun σ H Q => Tabs T H ∧ ∀ (f c' : Addr) (H1 : Hp), ExtN H H1 → Tabs T H1 → H f = none → H1 f = some (LamO f (mk c') e) → H1 c' = some (CodeO c' (mk c').qual) → Q (.ref f) H1
theorem pe_lamV {X : Cx} {T : List (Addr × Str)} {c P : Addr} {params : Arguments} {body : Expr} {scope : Scope} {pos : Pos} (TB : TabB X.base X.mg c P) (hcode : X.env.code = .ref c) (hm : (P, X.env.qual ++ "<lambda>") ∈ T) (hu : ∀ p ∈ T, p.1 = P → p.2 = X.env.qual ++ "<lambda>")
    (hnf : ∀ y ∈ scope.names, y.2 ≠ .free) (hcl : cloFrom X.env.cells scope.names [] = []) (hdef : defaultsOf params X.env = ([], []) := by rfl) :
    PE X (.Lambda params body scope pos) (tLamV T (fun c' => ⟨"<lambda>", X.env.qual ++ "<lambda>", params, [], scope, [], c'⟩) body) :=
  ⟨fun pins s σ H Q I h => lam_new I TB hcode hm hu h.1 hdef (fun y hy e => (hnf y hy e).elim) hcl fun f c' H1 s' J eN T1 f0 f1 c1 => ⟨.ref f, H1, J, rfl, h.2 f c' H1 eN T1 f0 f1 c1⟩⟩
/-! ### its call -/
section
variable {X : Cx} {pins : List (Addr × Obj)} {σ : L2.St} {H : Hp} {s : Shared} {CX : CXT} {E : XK} {k : Nat} {x : Str} {F : NF} {body : Expr} {f : Addr} {Q : VK} {v : V} {u : Value} {tb : TE}
theorem run_lam (I : Inv X pins σ H s) (S : NScope [x] [x] [] F.scope) (hcl : F.cl = []) (hb : ∀ (pm ctv u : Value), bindArgs (PySem.W.kla_fn F.name F.qual F.params body F.scope F.cl pm (.ref F.c) ctv) ⟨[u], []⟩ = pure [(x, u)])
    (hf : H f = some (LamO f F body)) (hc : H F.c = some (CodeO F.c F.qual)) (hr : Room (k + 1) X.A) (hx : Passes CX X E) (r : RelV v u)
    (hbody : ∀ (A : Around) (outer : List Env) (s : Shared), PE (ncx CX X.prog X.w X.K X.mg X.base [x] F f A outer s H E) body tb) (q : tb [some v] H Q) :
    wpAny (model X.prog X.w) X.A (call (.ref f) [u]) (EP X pins σ Q) X.xe s := by
  obtain ⟨od, sl, pm, ctv, ho⟩ := lamO_at I.hok hf
  have cr := codeO_at I.hok hc
  have lim := I.nolimit
  have run : codeAny (model X.prog X.w) X.A (.call (.ref f) ⟨[u], []⟩) (CR CX X.stack X.prog X.w H s Q E) s := by
    refine PySem.W.kla_callFunE hr.depth ho rfl S.co S.gen rfl cr ?_
    rw [hb pm ctv u]
    refine wpAny_pure (wpAny_newFunctionEnv S.nocell (fun y hy => ?_) (fun h₁ hns hsb => ⟨lim.fresh _ hsb, ?_⟩) S.kind)
    · rcases List.mem_cons.mp hy with e | e
      · rw [e]
        exact S.par x List.mem_cons_self
      · cases e
    · show codeAny _ _ (.expr body (envF F f s.heap.objs.size)) _ _
      have kp : ∀ b o, s.heap.get? b = some o → h₁.get? b = some o := fun b o e => hsb.extBut b o (Nat.ne_of_lt (Heap.lt_size e)) (Heap.get?_push_of_some _ e)
      have C : CellsAt F.cl [] [] s.heap H := by
        rw [hcl]
        exact ⟨rfl, (fun _ _ e => nomatch e), (fun _ _ _ e => nomatch e), (fun _ _ e => nomatch e)⟩
      have J : Inv (ncx CX X.prog X.w X.K X.mg X.base [x] F f X.A X.stack s H E) [] (startF [x] [v] []) H { s with heap := h₁, toks := s.toks + 1 } := inv_startN (us := [u]) S hr.hd I.env0 rfl (.cons r .nil) C hns kp
      refine PySem.W.kla_codeExpr (wpAny_mono ((hbody X.A X.stack s).run [] _ (startF [x] [v] []) H Q J q) (fun w' s' hq => ?_) fun e s' hq => hq)
      obtain ⟨y, H', J', rv, q'⟩ := hq
      exact ⟨y, H', J'.os, J'.bare, J'.base, J'.hok, rv, q'⟩
  refine wpAny_call (codeAny_mono run fun r s' hq => ?_)
  cases r with
  | error e => exact hx pins σ H s e s' I hq
  | ok fl =>
    cases fl with
    | ret w' => exact I.after hq
    | next => exact False.elim hq
    | brk => exact False.elim hq
    | cont => exact False.elim hq
end
end EV
namespace EV
open PySem PySem.Spec PyProof.Rows L2 LamX NdefX
/-! ### the law's own call, with the surroundings told (nothing is being shown ahead of it) -/
/-- the abstract heap at the law's entry: the tables, and the script if the written part does not tell it -/
def entryH (cs : List (Addr × Addr)) (K : PySem.W.Frag) (a : Addr) (o : Obj) (xs : List V) : Hp := fun b =>
  if b ∈ cs.map (·.2) then some (.tbl #[]) else if b = a ∧ K.lookup a = none then some (.frz o (.lst xs)) else none
theorem entryH_cases {cs : List (Addr × Addr)} {K : PySem.W.Frag} {a : Addr} {o : Obj} {xs : List V} {b : Addr} {u : HO} (h : entryH cs K a o xs b = some u) : (b ∈ cs.map (·.2) ∧ u = .tbl #[]) ∨ (b ∉ cs.map (·.2) ∧ b = a ∧ K.lookup a = none ∧ u = .frz o (.lst xs)) := by
  unfold entryH at h
  by_cases h1 : b ∈ cs.map (·.2)
  · rw [if_pos h1] at h
    exact .inl ⟨h1, (Option.some.inj h).symm⟩
  · rw [if_neg h1] at h
    by_cases h2 : b = a ∧ K.lookup a = none
    · rw [if_pos h2] at h
      exact .inr ⟨h1, h2.1, h2.2, (Option.some.inj h).symm⟩
    · rw [if_neg h2] at h
      cases h
theorem law_callG {P : Program} {w : World} {K : PySem.W.Frag} {mg mb : Str → Option Value} {fa a : Addr} {cs : List (Addr × Addr)} {s₁ : Shared} {vs : List Value} {ns : List Int}
    (KX : K.In s₁.heap) (gl : s₁.heap.Ns mainGlobals mg) (bl : s₁.heap.Ns builtinsNs mb) (bb : ∀ x : Str, x ≠ "__name__" → mb x = bootBuiltins x) (lim : s₁.heap.NoLimit) (hg : s₁.gens = #[])
    (tb : ∀ p ∈ cs, s₁.heap.get? p.2 = some { cls := .none, data := .fields #[] }) (tk : ∀ p ∈ cs, K.lookup p.2 = none) (cd : ∀ p ∈ cs, PySem.W.CodeHd s₁.heap p.1 p.2)
    (bm : ∃ (bm : Addr) (ob : Obj), mg "__builtins__" = some (.ref bm) ∧ bm ≠ builtinsNs ∧ s₁.heap.get? bm = some ob ∧ ob.cls = .type "module" ∧ ob.dict = some builtinsNs ∧ ob.data = .plain)
    (ha : s₁.heap.get? a = some { cls := .type "list", data := .seq vs.toArray }) (hi : IntsAre vs ns) (hl : ns.length ≤ sizeLine)
    (F : ∀ (base : Heap) (H : Hp), K.In base → base.Ns mainGlobals mg → (∀ p ∈ cs, TabB base mg p.1 p.2) → (∀ p ∈ cs, H p.2 = some (.tbl #[])) → SqL K H a (ns.map V.int) → Env0 P w K mg base callerA [] s₁ H →
      codeAny (model P w) callerA (.call (.ref fa) ⟨[.ref a], []⟩) (CR CX0 [] P w H s₁ (fun v _ => v = .bl true) E0) s₁) :
    codeAny (model P w) callerA (.call (.ref fa) ⟨[.ref a], []⟩) (fun r s' => r = .ok (.ret (.bool true)) ∧ OldK s₁.heap s'.heap ∧ s'.os = s₁.os ∧ AllBare s'.gens) s₁ := by
  have rv := vals_ints hi
  have ln := hi.length
  have inT : ∀ {b : Addr}, b ∈ cs.map (·.2) → ∃ p ∈ cs, p.2 = b := fun hb => by
    obtain ⟨p, hp, e⟩ := List.mem_map.mp hb
    exact ⟨p, hp, e⟩
  have atT : ∀ {b : Addr}, b ∈ cs.map (·.2) → s₁.heap.get? b = some { cls := .none, data := .fields #[] } := fun hb => by
    obtain ⟨p, hp, rfl⟩ := inT hb
    exact tb p hp
  have aT : a ∉ cs.map (·.2) := fun z => by
    have q := ha.symm.trans (atT z)
    cases q
  generalize hH : entryH cs K a { cls := .type "list", data := .seq vs.toArray } (ns.map V.int) = H
  have split : ∀ {b : Addr} {u : HO}, H b = some u → (b ∈ cs.map (·.2) ∧ u = .tbl #[]) ∨ (b ∉ cs.map (·.2) ∧ b = a ∧ K.lookup a = none ∧ u = .frz { cls := .type "list", data := .seq vs.toArray } (.lst (ns.map V.int))) := fun e => entryH_cases (hH ▸ e)
  have tabs : ∀ p ∈ cs, H p.2 = some (.tbl #[]) := fun p hp => by
    rw [← hH]
    exact if_pos (List.mem_map.mpr ⟨p, hp, rfl⟩)
  -- what is no list and no empty table is not tracked
  have off : ∀ {b : Addr} {o : Obj}, s₁.heap.get? b = some o → (∀ us n, o.data ≠ .seq us n) → o.data ≠ .fields #[] → H b = none := fun {b o} e h1 h2 => by
    cases q : H b with
    | none => rfl
    | some u =>
      rcases split q with ⟨z, _⟩ | ⟨_, z, _, _⟩
      · have y := e.symm.trans (atT z)
        cases y
        exact (h2 rfl).elim
      · rw [z] at e
        have y := e.symm.trans ha
        cases y
        exact (h1 _ _ rfl).elim
  have kept : ∀ {b : Addr} {o : Obj}, s₁.heap.get? b = some o → H b = none → (hidT s₁.heap H).get? b = some o := fun e n => hidT_get e n
  have nss : ∀ {b : Addr} {m : Str → Option Value}, s₁.heap.Ns b m → (hidT s₁.heap H).Ns b m := fun ⟨o, es, ep, e, d, r⟩ => ⟨o, es, ep, kept e (off e (fun _ _ z => by rw [d] at z; cases z) fun z => by rw [d] at z; cases z), d, r⟩
  have kin : K.In (hidT s₁.heap H) := fun b o e => kept (KX b o e) (by
    cases q : H b with
    | none => rfl
    | some u =>
      rcases split q with ⟨z, _⟩ | ⟨_, z, n, _⟩
      · obtain ⟨p, hp, ep⟩ := inT z
        have y := tk p hp
        rw [ep, e] at y
        cases y
      · rw [← z, e] at n
        cases n)
  have tbs : ∀ p ∈ cs, TabB (hidT s₁.heap H) mg p.1 p.2 := fun p hp => by
    have t0 := tb p hp
    refine ⟨?_, ?_, fun z => ?_⟩
    · obtain ⟨o, us, file, tf, flags, tg, inF, text, tt, e1, r1, r2, r3, r⟩ := cd p hp
      refine ⟨o, us, file, tf, flags, tg, inF, text, tt, kept e1 (off e1 (fun _ _ z => by rw [r2] at z; cases z) fun z => ?_), r1, r2, r3, r⟩
      rw [r2] at z
      cases z
      simp at r3
    · obtain ⟨m, ob, b1, b2, b3, b4, b5, b6⟩ := bm
      refine ⟨m, ob, b1, b2, fun q => ?_, fun q => ?_, kept b3 (off b3 (fun _ _ z => by rw [b6] at z; cases z) fun z => by rw [b6] at z; cases z), b4, b5, b6⟩
      · obtain ⟨o, es, ep, e, hd, _⟩ := gl
        rw [q] at b3
        have y := b3.symm.trans e
        cases y
        rw [b6] at hd
        cases hd
      · rw [q] at b3
        have y := b3.symm.trans t0
        cases y
        cases b6
    · obtain ⟨o, es, ep, e, hd, _⟩ := gl
      rw [z] at e
      have y := t0.symm.trans e
      cases y
      cases hd
  have hok : HOk P w H s₁.heap := fun b u e => by
    rcases split e with ⟨z, rfl⟩ | ⟨_, rfl, _, rfl⟩
    · exact atT z
    · exact ⟨ha, (by rw [List.length_map]; exact hl), vs, _, rv, ha⟩
  have seq : SqL K H a (ns.map V.int) := by
    cases hk : K.lookup a with
    | none =>
      refine .inl (.inr ⟨{ cls := .type "list", data := .seq vs.toArray }, ?_⟩)
      rw [← hH]
      exact (if_neg aT).trans (if_pos ⟨rfl, hk⟩)
    | some o =>
      have y := (KX a o hk).symm.trans ha
      cases y
      exact .inr ⟨_, vs.toArray, _, hk, rfl, rfl, rfl, (by rw [List.size_toArray, ln]; exact hl), by simpa using rv⟩
  have e0 : Env0 P w K mg (hidT s₁.heap H) callerA [] s₁ H := ⟨rfl, ⟨kin, nss gl, ⟨mb, nss bl, bb⟩, let ⟨mc, h1, h2⟩ := lim; ⟨mc, nss h1, h2⟩⟩, fun b o e => of_hidT e, Nat.le_of_eq (hidT_size _ _), trivial, fun b hb => absurd (show b ∈ ([] : List Addr) from hb) (by simp), hok, .of_eq hg⟩
  refine codeAny_mono (F _ H kin (nss gl) tbs tabs seq e0) fun r s' h => ?_
  cases r with
  | error e => exact False.elim h
  | ok fl =>
    cases fl with
    | next => exact False.elim h
    | brk => exact False.elim h
    | cont => exact False.elim h
    | ret u =>
      obtain ⟨v, H', os, bare, un, ok2, rel, q⟩ := h
      have q' : v = .bl true := q
      subst q'
      obtain rfl : u = Value.bool true := rel
      have stays : ∀ b o, b ∉ cs.map (·.2) → s₁.heap.get? b = some o → s'.heap.get? b = some o := fun b o nb e => by
        cases q : H b with
        | none => exact un.keep b o e q (by intro z; exact absurd (show b ∈ ([] : List Addr) from z) (by simp)) (by simp)
        | some u =>
          rcases split q with ⟨z, _⟩ | ⟨_, z, _, rfl⟩
          · exact absurd z nb
          · obtain ⟨e1, _⟩ := ok2 b _ (un.frzs b _ _ q)
            rw [z] at e
            have y := e.symm.trans ha
            cases y
            exact e1
      have grown : ∀ {b : Addr}, b ∈ cs.map (·.2) → ∃ (p : Addr × Addr) (more : Array Value), p ∈ cs ∧ p.2 = b ∧ s'.heap.get? b = some { cls := .none, data := .fields more } := fun {b} hb => by
        obtain ⟨p, hp, rfl⟩ := inT hb
        obtain ⟨more, z⟩ := un.tbls p.2 #[] (tabs p hp)
        exact ⟨p, _, hp, rfl, ok2 p.2 _ z⟩
      refine ⟨rfl, ⟨fun b o e => ?_, fun b o e => ?_⟩, os, bare⟩
      · by_cases hb : b ∈ cs.map (·.2)
        · obtain ⟨p, more, hp, rfl, hm⟩ := grown hb
          have y := e.symm.trans (tb p hp)
          cases y
          exact .inr (.inl ⟨((cd p hp).tab (tb p hp)).isCodeTable, rfl, #[], more, rfl, by rw [Array.empty_append]; exact hm⟩)
        · exact .inl (stays b o hb e)
      · by_cases hb : b ∈ cs.map (·.2)
        · obtain ⟨p, more, hp, rfl, hm⟩ := grown hb
          exact ⟨_, hm⟩
        · exact ⟨o, stays b o hb e⟩
/-! ### a promise that wants to know that nothing is being shown -/
structure FnG (P : Program) (w : World) (K : PySem.W.Frag) (mg : Str → Option Value) (base : Heap) (k : Nat) (f : Addr) (fd : FuncData) (ps : List Str) (sp : Sp) : Prop where
  len : ∀ vs H Q E, sp vs H Q E → vs.length = ps.length
  run : ∀ (A : Around) (outer : List Env) (s : Shared) (H : Hp) (args : Args) (us : List Value) (vs : List V) (Q : VK) (E : XK), A.guards = some [] → Room k A → Env0 P w K mg base A outer s H → BindsTo s fd args (ps.zip us) → Vals vs us → sp vs H Q E →
    codeAny (model P w) A (.call (.ref f) args) (CR CX0 outer P w H s Q E) s
theorem fng_of {P : Program} {w : World} {K : PySem.W.Frag} {mg : Str → Option Value} {base : Heap} {k : Nat} {x qual : Str} {st : Stmt} {f : Addr} {fd : FuncData} {N ps : List Str} {sp : Sp} (F : Fun K x qual st f fd) (S : FnScope N ps (defScope st)) (len : ∀ vs H Q E, sp vs H Q E → vs.length = ps.length)
    (hbody : ∀ (cdv : Value) (A : Around) (outer : List Env) (s : Shared) (H : Hp) (vs : List V) (Q : VK) (E : XK), (A.deeper (envOfC qual (defScope st) s.heap.objs.size f cdv)).guards = some [] → Room k (A.deeper (envOfC qual (defScope st) s.heap.objs.size f cdv)) → sp vs H Q E →
      ∃ t, PSs (cxOf CX0 P w K mg base N qual (defScope st) f cdv A outer s H E).nox (defBody st) t ∧ t { nx := fun _ H' => Q .non H', rt := Q } (start N vs) H) : FnG P w K mg base (k + 1) f fd ps sp := by
  obtain ⟨oc, od, kV, doc, pm, an, cdv, ct, osl, rfl, lk, hcd⟩ := F.ex
  refine ⟨len, fun A outer s H args us vs Q E hg hr e0 hb r hsp => run_ofS lk hcd S hr e0 hb r (len _ _ _ _ hsp) fun hr' => ?_⟩
  obtain ⟨t, h1, h2⟩ := hbody cdv A outer s H vs Q E hg hr' hsp
  exact ⟨t, h1.nox, h2⟩
section
variable {X : Cx} {k : Nat} {f : Addr} {fd : FuncData} {ps : List Str} {sp : Sp} {x : Str} {p pos : Pos} {e : Expr} {es : List Expr} {t : TA}
theorem pe_callG (F : FnG X.prog X.w X.K X.mg X.base k f fd ps sp) (gd : X.A.guards = some []) (hr : Room k X.A) (hg : Gl X x) (hm : X.mg x = some (.ref f)) (hk : PySem.W.keepIn X.K (.ref f) = true) (hb : Binds X.K fd ps []) (ha : PA X (e :: es) t)
    (hdb : (x == ("__debug__" : Str)) = false := by decide) (he : starEach (e :: es) X.env = (false, eval e X.env) :: starEach es X.env := by rfl) (hpl : (backTo pos (starEach es X.env)).any (·.1) = false := by rfl) :
    PE X (.Call (.Name x p) (e :: es) [] pos) (tCall sp [] E0 t) := by
  refine ⟨fun pins s σ H Q I h => ?_⟩
  refine wpAny_Call_Name_kw (ld_glob I hg hm ?_ hdb)
  refine PySem.W.callWith_K (h₀ := X.base) I.ok.mod.kin hk (thn (ha.run pos pins s σ H _ I h) fun us s1 ⟨vs, H1, I1, r, q⟩ => ⟨I1.kIn, ?_⟩) he hpl
  have q : sp (vs ++ []) H1 Q E0 := q
  rw [List.append_nil] at q
  have hl : (us ++ []).length = ps.length := by rw [List.append_nil, ← r.length]; exact F.len _ _ _ _ q
  have b := hb s1 us I1.kIn hl
  rw [List.append_nil] at b
  refine wpAny_call (codeAny_mono (F.run X.A X.stack s1 H1 ⟨us, []⟩ us vs Q E0 gd hr I1.env0 b r q) fun z s' hq => ?_)
  cases z with
  | error e => exact False.elim hq
  | ok fl =>
    cases fl with
    | ret u => exact I1.after hq
    | next => exact False.elim hq
    | brk => exact False.elim hq
    | cont => exact False.elim hq
end
end EV
namespace K1
open PySem PySem.Spec PyProof.Rows L2 LamX NdefX EV
def top (i : Nat) : Stmt := PySem.Challenge.pw_lastopen_k01_errors_made.main.body.getD i (.Pass ⟨0, 0, 0, 0⟩)
abbrev sDraw : Stmt := top 24
abbrev sPick : Stmt := top 25
abbrev sSame : Stmt := top 26
abbrev sThing : Stmt := top 27
/-! ### the stream of draws: at S a list of the cells' list at L, the digits' cell, the number of draws, the mixed number -/
def StreamAt (H : Hp) (S L : Addr) (c : Nat) : Prop := ∃ (ns : List Int) (a m : Int), H S = some (.lst [.ref L, .int a, .int (c : Int), .int m]) ∧ H L = some (.lst (ns.map V.int)) ∧ 0 ≤ a ∧ 0 ≤ m ∧ m < 2147483647 ∧ ns.length ≤ 63
theorem StreamAt.ne {H : Hp} {S L : Addr} {c : Nat} (h : StreamAt H S L c) : S ≠ L := by
  obtain ⟨ns, a, m, h1, h2, _⟩ := h
  refine ne_of h1 h2 fun z => ?_
  cases ns with
  | nil => cases z
  | cons n r => cases z
/-- all but the two objects of the stream stay -/
def Kept (S L : Addr) (H H' : Hp) : Prop := ∀ b o, H b = some o → b ≠ S → b ≠ L → H' b = some o
theorem Kept.refl {S L : Addr} (H : Hp) : Kept S L H H := fun _ _ h _ _ => h
theorem Kept.trans {S L : Addr} {H H1 H2 : Hp} (a : Kept S L H H1) (b : Kept S L H1 H2) : Kept S L H H2 := fun x o h h1 h2 => b x o (a x o h h1 h2) h1 h2
/-- a draw: a number from 0 to many - 1 -/
def spDraw : Sp := fun vs H Q _ => ∃ (S L : Addr) (many : Int) (c : Nat), vs = [.ref S, .int many] ∧ 0 < many ∧ many ≤ 1000 ∧ c ≤ 100000 ∧ StreamAt H S L c ∧
  ∀ (r : Int) (H' : Hp), 0 ≤ r → r < many → StreamAt H' S L (c + 1) → Kept S L H H' → Q (.int r) H'
section
variable {P : Program} {w : World} {K : PySem.W.Frag} {mg : Str → Option Value} {base : Heap}
theorem scDraw : FnScope ["_law_stream", "_law_many", "_law_digit", "_law_mixed"] ["_law_stream", "_law_many"] (defScope sDraw) := ⟨rfl, rfl, rfl, by decide +kernel, rfl, by decide +kernel, by decide +kernel⟩
theorem dp_ints {H : Hp} : ∀ ns : List Int, DpAll K H (ns.map V.int) (ns.map PyData.int)
  | [] => .nil
  | n :: r => .cons (.int n) (dp_ints r)
theorem lay_ints : ∀ ns : List Int, PyData.canLayAll0 (ns.map PyData.int) = true ∧ PyData.depthAll (ns.map PyData.int) ≤ 2
  | [] => ⟨rfl, Nat.zero_le _⟩
  | n :: r => by
    obtain ⟨h1, h2⟩ := lay_ints r
    refine ⟨?_, ?_⟩
    · simp only [List.map_cons, PyData.canLayAll0, PyData.canLay0, h1, Bool.and_self]
    · simp only [List.map_cons, PyData.depthAll, PyData.depth]
      omega
theorem shaped_ints (ns : List Int) : SeqAt.shaped (.list (ns.map PyData.int)) = true := by
  obtain ⟨h1, h2⟩ := lay_ints ns
  refine Bool.and_eq_true_iff.mpr ⟨?_, decide_eq_true ?_⟩
  · simp only [PyData.canLay0, h1]
  · simp only [PyData.depth]
    omega
theorem eqv_nil : ∀ ns : List Int, PyData.eqv (.list (ns.map PyData.int)) (.list []) = decide (ns = [])
  | [] => rfl
  | n :: r => by simp [PyData.eqv, PyData.eqvAll]
theorem ok_draw {f : Addr} {fd : FuncData} (F : Fun K "_law_draw" "_law_draw" sDraw f fd) (mi : mg "int" = none) : FnOk P w K mg base CX0 1 f fd ["_law_stream", "_law_many"] spDraw := by
  refine F.ok scDraw (fun vs H Q E h => ?_) (fun cdv A outer s H vs Q E hr h => ?_)
  · obtain ⟨S, L, many, c, rfl, _⟩ := h
    rfl
  · obtain ⟨S, L, many, c, rfl, m0, m1, hc, ⟨ns, a, m, hS, hL, a0, h0, h1, hn⟩, k⟩ := h
    have hu := hu_of hr
    have nSL : S ≠ L := StreamAt.ne ⟨ns, a, m, hS, hL, a0, h0, h1, hn⟩
    -- what stands behind the first if
    obtain ⟨tt, htt, hrest⟩ : ∃ tt, PSs (cxOf CX0 P w K mg base ["_law_stream", "_law_many", "_law_digit", "_law_mixed"] "_law_draw" (defScope sDraw) f cdv A outer s H E).nox ((defBody sDraw).drop 2) tt ∧
        ∀ (ns : List Int) (a m : Int) (H1 : Hp), H1 S = some (.lst [.ref L, .int a, .int ((c : Int) + 1), .int m]) → H1 L = some (.lst (ns.map V.int)) → 0 ≤ a → 0 ≤ m → m < 2147483647 → ns.length ≤ 63 → Kept S L H H1 →
          tt { nx := fun _ H' => Q .non H', rt := Q } [some (.ref S), some (.int many), none, none] H1 := by
      refine ⟨_, pss_cons (ps_if (pt_cmpR op_gt (pe_ix ix_list (pv 0) pe_int (fun _ _ => rfl)) pe_int (nomark _))
        (pss_cons (ps_set (i := 2) scDraw.nd rfl (.inl rfl) (pe_op op_modN (pe_callTy call_int1 (by rfl) mi (by decide +kernel) (pa_cons (pe_ix ix_list (pv 0) pe_int (fun _ _ => rfl)) pa_nil)) (pv 1)))
        (pss_cons (ps_asg (pe_op op_fdivN (pe_ix ix_list (pv 0) pe_int (fun _ _ => rfl)) (pv 1)) (pg_sub (pv 0) pe_int set_list))
        (pss_one (ps_ret (pv 2))))) pss_nil)
        (pss_cons (ps_set (i := 3) scDraw.nd rfl (.inl rfl) (pe_op op_mod (pe_op op_pow (pe_op op_add (pe_op op_add (pe_ix ix_list (pv 0) pe_int (fun _ _ => rfl)) (pe_op op_mul pe_int (pe_ix ix_list (pv 0) pe_int (fun _ _ => rfl)))) pe_int) pe_int) pe_int))
        (pss_one (ps_ret (pe_op op_modN (pe_op op_mod (pe_op op_pow (pe_op op_add (pe_op op_add (pe_op op_mul (pv 3) pe_int) (pe_op op_mul (pe_op op_mul pe_int (pe_ix ix_list (pv 0) pe_int (fun _ _ => rfl))) (pe_ix ix_list (pv 0) pe_int (fun _ _ => rfl)))) pe_int) pe_int) pe_int) (pv 1))))), fun ns a m H1 hS hL a0 h0 h1 hn hk => ?_⟩
      refine ⟨_, rfl, S, _, 1, _, rfl, rfl, SqL.of hS, rfl, _, _, rfl, rfl, _, rfl, ?_⟩
      refine ite2 (fun hp => ?_) (fun hp => ?_)
      · have ha : 0 < a := by simpa using hp
        refine ⟨_, rfl, S, _, 1, _, rfl, rfl, SqL.of hS, rfl, .inl ⟨_, rfl, _, rfl, _, _, rfl, rfl, (by omega), ?_⟩⟩
        refine ⟨_, rfl, S, _, 1, _, rfl, rfl, SqL.of hS, rfl, _, rfl, _, _, rfl, rfl, ⟨(by omega), (by omega)⟩, _, rfl, S, _, 1, 1, rfl, rfl, hS, rfl, _, rfl, ?_⟩
        have r0 := Int.fmod_nonneg_of_pos a m0
        have r1 := Int.fmod_lt_of_pos a m0
        refine k _ _ r0 r1 ⟨ns, a.fdiv many, m, upd_same, (upd_ne nSL.symm).trans hL, Int.fdiv_nonneg a0 (by omega), h0, h1, hn⟩ fun b o e n1 n2 => (upd_ne n1).trans (hk b o e n1 n2)
      · refine ⟨_, rfl, S, _, 3, _, rfl, rfl, SqL.of hS, rfl, _, rfl, S, _, 2, _, rfl, rfl, SqL.of hS, rfl, _, _, rfl, rfl, .inl ⟨(by decide), (by decide)⟩, _, _, rfl, rfl, _, _, rfl, rfl, _, _, rfl, rfl, ⟨(by decide), (by decide), ?_⟩, _, _, rfl, rfl, (by show (0 : Int) < 2147483629; decide), ?_⟩
        · show (m + 104729 * ((c : Int) + 1) + 17).natAbs < 2 ^ 64
          omega
        have g0 := Int.emod_nonneg ((m + 104729 * ((c : Int) + 1) + 17) ^ (5 : Int).toNat) (show (2147483629 : Int) ≠ 0 by decide)
        have g1 := Int.emod_lt_of_pos ((m + 104729 * ((c : Int) + 1) + 17) ^ (5 : Int).toNat) (show (0 : Int) < 2147483629 by decide)
        have hcc : ((c : Int) + 1) * ((c : Int) + 1) ≤ 100001 * 100001 := Int.mul_le_mul (by omega) (by omega) (by omega) (by omega)
        have hc0 : 0 ≤ ((c : Int) + 1) * ((c : Int) + 1) := Int.mul_nonneg (by omega) (by omega)
        have hca : 40503 * ((c : Int) + 1) * ((c : Int) + 1) = 40503 * (((c : Int) + 1) * ((c : Int) + 1)) := Int.mul_assoc ..
        refine ⟨_, rfl, _, _, rfl, rfl, .inl ⟨(by omega), (by omega)⟩, _, rfl, S, _, 2, _, rfl, rfl, SqL.of hS, rfl, _, _, rfl, rfl, .inl ⟨(by decide), (by decide)⟩, _, rfl, S, _, 2, _, rfl, rfl, SqL.of hS, rfl, _, _, rfl, rfl, .inl ⟨(by show -(2 ^ 64) < 40503 * ((c : Int) + 1); omega), (by show 40503 * ((c : Int) + 1) < 2 ^ 64; omega)⟩,
          _, _, rfl, rfl, _, _, rfl, rfl, _, _, rfl, rfl, ⟨(by decide), (by decide), ?_⟩, _, _, rfl, rfl, (by show (0 : Int) < 1000000007; decide), _, rfl, _, _, rfl, rfl, (by omega), ?_⟩
        · show ((m + 104729 * ((c : Int) + 1) + 17) ^ (5 : Int).toNat % 2147483629 * 48271 + 40503 * ((c : Int) + 1) * ((c : Int) + 1) + 13).natAbs < 2 ^ 64
          rw [hca]
          generalize ((m + 104729 * ((c : Int) + 1) + 17) ^ (5 : Int).toNat) % 2147483629 = y at g0 g1 ⊢
          omega
        exact k _ _ (Int.fmod_nonneg_of_pos _ m0) (Int.fmod_lt_of_pos _ m0) ⟨ns, a, m, hS, hL, a0, h0, h1, hn⟩ hk
    refine ⟨_, pss_cons (ps_asg (pe_op op_add (pe_ix ix_list (pv 0) pe_int (fun _ _ => rfl)) pe_int) (pg_sub (pv 0) pe_int set_list))
      (pss_cons (ps_if (PW.pt (pw_and (pt_cmpR op_eq (pe_ix ix_list (pv 0) pe_int (fun _ _ => rfl)) pe_int (nomark _)) (pw_and1 (pt_cmpR (op_neD hr.units) (pe_ix ix_list (pv 0) pe_int (fun _ _ => rfl)) (pe_lst pa_nil) (nomark _)))))
        (pss_cons (ps_asg (pe_bm PySem.F.plainAttrs_list PySem.F.slot_list_pop PySem.F.type_list_pop mt_popAt (pe_ix ix_list (pv 0) pe_int (fun _ _ => rfl)) (pa_cons pe_int pa_nil)) (pg_sub (pv 0) pe_int set_list))
        (pss_one (ps_if (pt_cmpR op_lt (pe_ix ix_list (pv 0) pe_int (fun _ _ => rfl)) (pe_op op_pow pe_int pe_int) (nomark _))
          (pss_cons (ps_asg (pe_op op_mod (pe_callTy call_int1 (by rfl) mi (by decide +kernel) (pa_cons (pe_op op_add (pe_op op_add (pe_op op_mul (pe_ix ix_list (pv 0) pe_int (fun _ _ => rfl)) pe_int) (pe_ix ix_list (pv 0) pe_int (fun _ _ => rfl))) pe_int) pa_nil)) pe_int) (pg_sub (pv 0) pe_int set_list))
          (pss_one (ps_asg pe_int (pg_sub (pv 0) pe_int set_list)))) pss_nil))) pss_nil) htt), ?_⟩
    refine ⟨_, rfl, S, _, 2, _, rfl, rfl, SqL.of hS, rfl, _, _, rfl, rfl, _, rfl, S, _, 2, 2, rfl, rfl, hS, rfl, ?_⟩
    have hS1 : upd H S (.lst [.ref L, .int a, .int ((c : Int) + 1), .int m]) S = some (.lst [.ref L, .int a, .int ((c : Int) + 1), .int m]) := upd_same
    have hL1 : upd H S (.lst [.ref L, .int a, .int ((c : Int) + 1), .int m]) L = some (.lst (ns.map V.int)) := (upd_ne nSL.symm).trans hL
    have hK1 : Kept S L H (upd H S (.lst [.ref L, .int a, .int ((c : Int) + 1), .int m])) := fun b o e n1 n2 => (upd_ne n1).trans e
    refine ⟨_, rfl, S, _, 1, _, rfl, rfl, SqL.of hS1, rfl, rfl, _, rfl, ?_⟩
    refine ite2 (fun he => ?_) (fun _ => hrest ns a m _ hS1 hL1 a0 h0 h1 hn hK1)
    -- the second half of the test: is the cells' list empty
    refine ⟨_, rfl, S, _, 0, _, rfl, rfl, SqL.of hS1, rfl, (by show 0 ≤ sizeLine; exact Nat.zero_le _), fun p hp => ?_⟩
    have nSp : S ≠ p := ne_of_none hS1 hp
    have nLp : L ≠ p := ne_of_none hL1 hp
    refine ⟨_, _, .lst (SqL.of ((upd_ne nLp).trans hL1)) (dp_ints ns), .lst (SqL.of upd_same) .nil, shaped_ints ns, rfl, _, rfl, ?_⟩
    have hS2 := (upd_ne (H := upd H S (.lst [.ref L, .int a, .int ((c : Int) + 1), .int m])) (o := HO.lst []) nSp).trans hS1
    have hL2 := (upd_ne (H := upd H S (.lst [.ref L, .int a, .int ((c : Int) + 1), .int m])) (o := HO.lst []) nLp).trans hL1
    have hK2 : Kept S L H (upd (upd H S (.lst [.ref L, .int a, .int ((c : Int) + 1), .int m])) p (.lst [])) := fun b o e n1 n2 => (upd_ne (ne_of_none (hK1 b o e n1 n2) hp)).trans (hK1 b o e n1 n2)
    rw [eqv_nil]
    cases ns with
    | nil => exact iteF (hrest [] a m _ hS2 hL2 a0 h0 h1 hn hK2)
    | cons z zs =>
      refine iteT ?_
      have hz : zs.length ≤ 62 := by rw [List.length_cons] at hn; omega
      -- the first cell is taken out and looked at
      refine ⟨_, rfl, S, _, 0, _, rfl, rfl, SqL.of hS2, rfl, .inl ⟨rfl, _, SqL.of hL2⟩, L, _, 0, 0, _, rfl, rfl, hL2, (by decide), (by decide), (by rw [List.length_map, List.length_cons]; unfold seqIndex?; simp), rfl, _, rfl, S, _, 1, 1, rfl, rfl, (upd_ne nSL).trans hS2, rfl, ?_⟩
      have hS3 : ∀ (H9 : Hp) (o : HO), upd H9 S o S = some o := fun _ _ => upd_same
      have hL3 : ∀ (H9 : Hp) (o o' : HO), upd (upd H9 L o) S o' L = some o := fun _ _ _ => (upd_ne nSL.symm).trans upd_same
      have hK3 : ∀ (o o' : HO), Kept S L H (upd (upd (upd (upd H S (.lst [.ref L, .int a, .int ((c : Int) + 1), .int m])) p (.lst [])) L o) S o') := fun o o' b u e n1 n2 => (upd_ne n1).trans ((upd_ne n2).trans (hK2 b u e n1 n2))
      refine ⟨_, rfl, S, _, 1, _, rfl, rfl, SqL.of (hS3 _ _), rfl, _, _, rfl, rfl, ⟨(by decide), (by decide), (by decide)⟩, _, _, rfl, rfl, _, rfl, ?_⟩
      refine ite2 (fun hlt => ?_) (fun hge => ?_)
      · refine ⟨_, rfl, S, _, 3, _, rfl, rfl, SqL.of (hS3 _ _), rfl, _, _, rfl, rfl, .inl ⟨(by omega), (by omega)⟩, _, rfl, S, _, 1, _, rfl, rfl, SqL.of (hS3 _ _), rfl, _, _, rfl, rfl, _, _, rfl, rfl, .inl ⟨_, rfl, _, _, rfl, rfl, (by show (0 : Int) < 2147483647; decide), _, rfl, S, _, 3, 3, rfl, rfl, hS3 _ _, rfl, _, rfl, S, _, 1, 1, rfl, rfl, hS3 _ _, rfl, ?_⟩⟩
        exact hrest zs 0 ((m * 31 + z + 7) % 2147483647) _ upd_same ((upd_ne nSL.symm).trans ((upd_ne nSL.symm).trans (hL3 _ _ _))) (by decide) (Int.emod_nonneg _ (by decide)) (Int.emod_lt_of_pos _ (by decide)) (by omega) fun b u e n1 n2 => (upd_ne n1).trans ((upd_ne n1).trans (hK3 _ _ b u e n1 n2))
      · have h9 : (10 : Int) ^ (18 : Int).toNat ≤ z := Int.not_lt.mp fun q => hge (decide_eq_true q)
        have e9 : (10 : Int) ^ (18 : Int).toNat = 1000000000000000000 := by decide
        exact hrest zs z m _ upd_same (hL3 _ _ _) (by omega) h0 h1 (by omega) (hK3 _ _)
end
end K1
namespace K1
open PySem PySem.Spec PyProof.Rows L2 LamX NdefX EV
/-! ### picks -/
def spPickL (K : PySem.W.Frag) : Sp := fun vs H Q _ => ∃ (S L T : Addr) (xs : List V) (c : Nat), vs = [.ref S, .ref T] ∧ SqL K H T xs ∧ (∀ H', Kept S L H H' → SqL K H' T xs) ∧ 0 < xs.length ∧ xs.length ≤ 1000 ∧ c ≤ 100000 ∧ StreamAt H S L c ∧
  ∀ (i : Nat) (v : V) (H' : Hp), xs[i]? = some v → StreamAt H' S L (c + 1) → Kept S L H H' → Q v H'
def spPickS : Sp := fun vs H Q _ => ∃ (S L : Addr) (z : Str) (c : Nat), vs = [.ref S, .str z] ∧ 0 < z.length ∧ z.length ≤ 1000 ∧ c ≤ 100000 ∧ StreamAt H S L c ∧
  ∀ (i : Nat) (ch : Nat) (H' : Hp), z.cps.toList[i]? = some ch → StreamAt H' S L (c + 1) → Kept S L H H' → Q (.str ⟨#[ch]⟩) H'
section
variable {P : Program} {w : World} {K : PySem.W.Frag} {mg : Str → Option Value} {base : Heap}
theorem scPick : FnScope ["_law_stream", "_law_things"] ["_law_stream", "_law_things"] (defScope sPick) := ⟨rfl, rfl, rfl, by decide +kernel, rfl, by decide +kernel, by decide +kernel⟩
theorem at_in {α : Type} {xs : List α} {r : Int} (h0 : 0 ≤ r) (h1 : r < xs.length) : ∃ v, xs[r.toNat]? = some v ∧ atI xs r = some v := by
  have hl : r.toNat < xs.length := by omega
  refine ⟨xs[r.toNat], List.getElem?_eq_getElem hl, ?_⟩
  have z := atI_nat (List.getElem?_eq_getElem hl)
  rwa [Int.toNat_of_nonneg h0] at z
variable {f fD : Addr} {fd fdD : FuncData}
theorem ok_pickL (F : Fun K "_law_pick" "_law_pick" sPick f fd) (GD : FnOk P w K mg base CX0 1 fD fdD ["_law_stream", "_law_many"] spDraw) (mD : mg "_law_draw" = some (.ref fD)) (kD : PySem.W.keepIn K (.ref fD) = true) (bD : L2.Binds K fdD ["_law_stream", "_law_many"] []) (ml : mg "len" = none) :
    FnOk P w K mg base CX0 2 f fd ["_law_stream", "_law_things"] (spPickL K) := by
  refine F.ok scPick (fun vs H Q E h => ?_) (fun cdv A outer s H vs Q E hr h => ?_)
  · obtain ⟨S, L, T, xs, c, rfl, _⟩ := h
    rfl
  · obtain ⟨S, L, T, xs, c, rfl, hT, hT', x0, x1, hc, hS, k⟩ := h
    refine ⟨_, pss_one (ps_ret (pe_ix ix_seq (pv 1) (pe_call GD hr (by rfl) mD kD bD .nil pass0 (pa_cons (pv 0) (pa_cons (pe_callB call_len (by rfl) ml PySem.boot_len (pa_cons (pv 1) pa_nil)) pa_nil))) (fun _ _ => rfl))), ?_⟩
    refine ⟨_, rfl, _, rfl, _, rfl, _, xs.length, rfl, .inl ⟨xs, hT, rfl⟩, S, L, _, c, rfl, by omega, by omega, hc, hS, fun r H' r0 r1 hS' hk => ?_⟩
    obtain ⟨v, e1, e2⟩ := at_in r0 r1
    exact .inl ⟨T, xs, r, v, rfl, rfl, hT' H' hk, e2, k _ v H' e1 hS' hk⟩
theorem ok_pickS (F : Fun K "_law_pick" "_law_pick" sPick f fd) (GD : FnOk P w K mg base CX0 1 fD fdD ["_law_stream", "_law_many"] spDraw) (mD : mg "_law_draw" = some (.ref fD)) (kD : PySem.W.keepIn K (.ref fD) = true) (bD : L2.Binds K fdD ["_law_stream", "_law_many"] []) (ml : mg "len" = none) :
    FnOk P w K mg base CX0 2 f fd ["_law_stream", "_law_things"] spPickS := by
  refine F.ok scPick (fun vs H Q E h => ?_) (fun cdv A outer s H vs Q E hr h => ?_)
  · obtain ⟨S, L, z, c, rfl, _⟩ := h
    rfl
  · obtain ⟨S, L, z, c, rfl, x0, x1, hc, hS, k⟩ := h
    refine ⟨_, pss_one (ps_ret (pe_ix ix_seq (pv 1) (pe_call GD hr (by rfl) mD kD bD .nil pass0 (pa_cons (pv 0) (pa_cons (pe_callB call_len (by rfl) ml PySem.boot_len (pa_cons (pv 1) pa_nil)) pa_nil))) (fun _ _ => rfl))), ?_⟩
    have hz : z.length ≤ sizeLine := by rw [sizeLine_eq]; omega
    refine ⟨_, rfl, _, rfl, _, rfl, _, z.length, rfl, ⟨hz, rfl⟩, S, L, _, c, rfl, by omega, by omega, hc, hS, fun r H' r0 r1 hS' hk => ?_⟩
    obtain ⟨ch, e1, e2⟩ := at_in (xs := z.cps.toList) r0 (by rw [Array.length_toList]; exact r1)
    exact .inr (.inr ⟨z, r, ch, rfl, rfl, hz, e2, k _ ch H' e1 hS' hk⟩)
/-! ### the same shown text -/
def spSame (K : PySem.W.Frag) : Sp := fun vs H Q _ => ∃ (x y : V) (d : PyData), vs = [x, y] ∧ Dq K H x d ∧ Dq K H y d ∧ d.showable = true ∧ d.shown.length ≤ sizeLine ∧ d.depth ≤ 60 ∧ Q (.bl true) H
theorem scSame : FnScope ["_law_found", "_law_due"] ["_law_found", "_law_due"] (defScope sSame) := ⟨rfl, rfl, rfl, by decide +kernel, rfl, by decide +kernel, by decide +kernel⟩
theorem ok_same (F : Fun K "_law_same" "_law_same" sSame f fd) (mr : mg "repr" = none) : FnG P w K mg base 1 f fd ["_law_found", "_law_due"] (spSame K) := by
  refine fng_of F scSame (fun vs H Q E h => ?_) (fun cdv A outer s H vs Q E hg hr h => ?_)
  · obtain ⟨x, y, d, rfl, _⟩ := h
    rfl
  · obtain ⟨x, y, d, rfl, hx, hy, h1, h2, h3, k⟩ := h
    refine ⟨_, pss_one (ps_ret (pe_cmpR op_eq (pe_callB (call_reprD hg hr.units) (by rfl) mr (by decide +kernel) (pa_cons (pv 0) pa_nil)) (pe_callB (call_reprD hg hr.units) (by rfl) mr (by decide +kernel) (pa_cons (pv 1) pa_nil)) (nomark _))), ?_⟩
    refine ⟨_, rfl, _, d, rfl, hx, h1, h2, h3, _, rfl, _, d, rfl, hy, h1, h2, h3, rfl, ?_⟩
    show Q (.bl (decide (V.str d.shown = V.str d.shown))) H
    rw [decide_eq_true rfl]
    exact k
end
end K1
namespace K1
open PySem PySem.Spec PyProof.Rows L2 LamX NdefX EV
/-- the heap without the stream's two objects -/
def cut (S L : Addr) (H : Hp) : Hp := fun b => if b = S ∨ b = L then none else H b
theorem cut_at {S L b : Addr} {H : Hp} (h1 : b ≠ S) (h2 : b ≠ L) : cut S L H b = H b := if_neg fun z => z.elim h1 h2
theorem cut_sub {S L : Addr} {H : Hp} : ∀ b o, cut S L H b = some o → H b = some o := fun b o h => by
  unfold cut at h
  split at h
  · cases h
  · exact h
theorem cut_kept {S L : Addr} {H H' : Hp} (k : Kept S L H H') : ∀ b o, cut S L H b = some o → cut S L H' b = some o := fun b o h => by
  unfold cut at h ⊢
  by_cases z : b = S ∨ b = L
  · rw [if_pos z] at h
    cases h
  · rw [if_neg z] at h ⊢
    exact k b o h (fun q => z (.inl q)) fun q => z (.inr q)
/-- an object of any kind, as the law draws it -/
structure Th (K : PySem.W.Frag) (H : Hp) (v : V) (d : PyData) : Prop where
  dq : Dq K H v d
  ls : d.leavesShort 40 = true
  bk : d.bulk ≤ 10
  sh : d.showable = true
  dp : d.depth ≤ 2
theorem Th.same {K : PySem.W.Frag} {H H' : Hp} {v : V} {d : PyData} (t : Th K H v d) (k : ∀ b o, H b = some o → H' b = some o) : Th K H' v d := ⟨t.dq.same k, t.ls, t.bk, t.sh, t.dp⟩
theorem Th.fits {K : PySem.W.Frag} {H : Hp} {v : V} {d : PyData} (t : Th K H v d) : d.shown.length ≤ sizeLine := by
  have z := PyData.shown_le_bulk 40 (by decide) d t.ls
  have b := t.bk
  rw [sizeLine_eq]
  omega
def spThing (K : PySem.W.Frag) : Sp := fun vs H Q _ => ∃ (S L : Addr) (c : Nat), vs = [.ref S] ∧ c ≤ 90000 ∧ StreamAt H S L c ∧
  ∀ (v : V) (d : PyData) (c' : Nat) (H' : Hp), c' ≤ c + 6 → StreamAt H' S L c' → Kept S L H H' → Th K (cut S L H') v d → Q v H'
theorem same_new {H : Hp} {p : Addr} {o : HO} (h : H p = none) : Same H (upd H p o) := fun _ _ e => (upd_ne (ne_of_none e h)).trans e
/-! ### the text of five signs -/
theorem join_nil : ∀ l : List Nat, TL.joinL [] (l.map fun c => [c]) = l
  | [] => rfl
  | [_] => rfl
  | a :: b :: r => by
    have z := join_nil (b :: r)
    show [a] ++ ([] ++ TL.joinL [] ((b :: r).map fun c => [c])) = a :: b :: r
    rw [z]
    rfl
def signs (l : List Nat) : List Str := l.map fun c => ⟨#[c]⟩
theorem len_signs : ∀ l : List Nat, ((signs l).map (·.length)).sum = l.length
  | [] => rfl
  | a :: r => by
    have z := len_signs r
    show 1 + ((signs r).map (·.length)).sum = r.length + 1
    rw [z]
    omega
theorem join_signs (l : List Nat) : (Txt.join (Str.ofString "") (signs l)).cps.toList = l := by
  rw [TL.join_eq]
  have z := TL.tl_join (Str.ofString "") (signs l)
  have e : (signs l).map TL.tl = l.map fun c => [c] := by
    unfold signs
    rw [List.map_map]
    rfl
  rw [e] at z
  exact z.trans (join_nil l)
section
variable {P : Program} {w : World} {K : PySem.W.Frag} {mg : Str → Option Value} {base : Heap} {f fD fP : Addr} {fd fdD fdP : FuncData}
theorem scThing : FnScope ["_law_stream", "_law_way", "_law_k"] ["_law_stream"] (defScope sThing) := ⟨rfl, rfl, rfl, by decide +kernel, rfl, by decide +kernel, by decide +kernel⟩
theorem ok_thing (F : Fun K "_law_thing" "_law_thing" sThing f fd) (GD : FnOk P w K mg base CX0 1 fD fdD ["_law_stream", "_law_many"] spDraw) (mD : mg "_law_draw" = some (.ref fD)) (kD : PySem.W.keepIn K (.ref fD) = true) (bD : L2.Binds K fdD ["_law_stream", "_law_many"] [])
    (GL : FnOk P w K mg base CX0 2 fP fdP ["_law_stream", "_law_things"] (spPickL K)) (GS : FnOk P w K mg base CX0 2 fP fdP ["_law_stream", "_law_things"] spPickS) (mP : mg "_law_pick" = some (.ref fP)) (kP : PySem.W.keepIn K (.ref fP) = true) (bP : L2.Binds K fdP ["_law_stream", "_law_things"] []) (mr : mg "range" = none) :
    FnOk P w K mg base CX0 3 f fd ["_law_stream"] (spThing K) := by
  refine F.ok scThing (fun vs H Q E h => ?_) (fun cdv A outer s H vs Q E hr h => ?_)
  · obtain ⟨S, L, c, rfl, _⟩ := h
    rfl
  · obtain ⟨S, L, c, rfl, hc, hS, k⟩ := h
    have hr1 : Room 1 _ := hr.mono (by decide)
    refine ⟨_, pss_cons (ps_set (i := 1) scThing.nd rfl (.inl rfl) (pe_call GD hr1 (by rfl) mD kD bD .nil pass0 (pa_cons (pv 0) (pa_cons pe_int pa_nil))))
      (pss_cons (ps_if (pt_cmpR op_eq (pv 1) pe_int (nomark _)) (pss_one (ps_ret (pe_call GL hr (by rfl) mP kP bP .nil pass0 (pa_cons (pv 0) (pa_cons (pe_lst (pa_cons pe_int (pa_cons (pe_un un_neg pe_int) (pa_cons pe_int (pa_cons (pe_op op_pow pe_int pe_int) (pa_cons pe_bl pa_nil)))))) pa_nil))))) pss_nil)
      (pss_one (ps_ret (pe_ix ix_list (pe_lst (pa_cons (pe_join pe_str (pe_lc (own := [("_law_k", 2)]) (g := gName 2) (tt := tYes) rfl scThing.nd (pi_range1 (by rfl) mr (pa_cons pe_int pa_nil)) (blkOk_by (N := ["_law_stream", "_law_way", "_law_k"]) (sc := defScope sThing) (by decide +kernel))
          (fun _ _ _ _ _ => pg_name (i := 2) scThing.nd rfl (.inl rfl)) (fun _ _ _ _ _ => pts_nil) (fun _ _ _ _ _ => pe_call GS hr (by rfl) mP kP bP .nil pass0 (pa_cons (pv 0) (pa_cons pe_str pa_nil)))))
        (pa_cons pe_non (pa_cons (pe_tup (pa_cons pe_int (pa_cons pe_str pa_nil))) (pa_cons (pe_lstB (pa_cons pe_str (pa_cons (pe_tup pa_nil) pa_nil))) (pa_cons (pe_disp (pps_cons pe_str pe_non pps_nil) (by rfl) (by rfl) (fun z => by cases z) (by decide)) pa_nil))))))
        (pe_op op_sub (pv 1) pe_int) (fun _ _ => rfl))))), ?_⟩
    refine ⟨_, rfl, S, L, 6, c, rfl, by decide, by decide, by omega, hS, fun way H1 w0 w1 hS1 hk1 => ?_⟩
    refine ⟨_, rfl, rfl, _, rfl, ?_⟩
    refine ite2 (fun hw => ?_) (fun hw => ?_)
    · -- a number or a truth value
      refine ⟨_, rfl, _, rfl, _, _, rfl, rfl, ⟨by decide, by decide, by decide⟩, (by show 5 ≤ sizeLine; decide), fun T hT => ?_⟩
      have hS2 : StreamAt (upd H1 T (.lst [.int 0, .int (-1), .int 9, .int (10 ^ (29 : Int).toNat), .bl true])) S L (c + 1) := by
        obtain ⟨ns, a, m, e1, e2, r⟩ := hS1
        exact ⟨ns, a, m, (upd_ne (ne_of_none e1 hT)).trans e1, (upd_ne (ne_of_none e2 hT)).trans e2, r⟩
      obtain ⟨ns, a, m, e1, e2, _⟩ := hS1
      have nTS : T ≠ S := (ne_of_none e1 hT).symm
      have nTL : T ≠ L := (ne_of_none e2 hT).symm
      refine ⟨S, L, T, [.int 0, .int (-1), .int 9, .int (10 ^ (29 : Int).toNat), .bl true], c + 1, rfl, SqL.of upd_same, fun H' hk => SqL.of (hk _ _ upd_same nTS nTL), by decide, by decide, by omega, hS2, fun i v H' hi hS3 hk3 => ?_⟩
      have hkk : Kept S L H H' := hk1.trans fun b o e n1 n2 => hk3 b o ((upd_ne (ne_of_none e hT)).trans e) n1 n2
      have fin : ∀ (v : V) (d : PyData), Dq K (cut S L H') v d → d.leavesShort 40 = true → d.bulk = 0 → d.showable = true → d.depth = 0 → Q v H' := fun v d h1 h2 h3 h4 h5 => k v d _ H' (by omega) hS3 hkk ⟨h1, h2, by omega, h4, by omega⟩
      match i, hi with
      | 0, hi => cases hi; exact fin _ _ (.int 0) (by decide +kernel) rfl (by decide +kernel) rfl
      | 1, hi => cases hi; exact fin _ _ (.int (-1)) (by decide +kernel) rfl (by decide +kernel) rfl
      | 2, hi => cases hi; exact fin _ _ (.int 9) (by decide +kernel) rfl (by decide +kernel) rfl
      | 3, hi => cases hi; exact fin _ _ (.int _) (by decide +kernel) rfl (by decide +kernel) rfl
      | 4, hi => cases hi; exact fin _ _ (.bl true) rfl rfl rfl rfl
      | n + 5, hi => simp at hi
    · -- one of five made things
      have hw0 : way ≠ 0 := fun e => hw (by rw [e]; exact decide_eq_true rfl)
      obtain ⟨ns1, a1, m1, eS, eL, _⟩ := id hS1
      refine ⟨⟨_, rfl⟩, _, rfl, (by decide), (by decide), fun D hD => lc_range (lo := 0) (n := 5) (fun i H2 => ∃ l : List Nat, l.length = i ∧ (∀ ch ∈ l, ch < 16 ^ 8) ∧ H2 D = some (.lst ((signs l).map V.str)) ∧ StreamAt H2 S L (c + 1 + i) ∧ Kept S L H1 H2)
        ⟨[], rfl, fun _ h => (nomatch h), upd_same, ?_, fun b o e _ _ => (upd_ne (ne_of_none e hD)).trans e⟩ ?_ ?_⟩
      · obtain ⟨ns, a, m, e1, e2, r⟩ := hS1
        exact ⟨ns, a, m, (upd_ne (ne_of_none e1 hD)).trans e1, (upd_ne (ne_of_none e2 hD)).trans e2, r⟩
      · -- a further sign
        rintro i H2 hi ⟨l, hl, hch, hD2, hS2, hk2⟩
        refine ⟨rfl, _, rfl, S, L, _, c + 1 + i, rfl, (by decide), (by decide), by omega, hS2, fun j ch H3 hj hS3 hk3 => ?_⟩
        have nDS : D ≠ S := (ne_of_none eS hD).symm
        have nDL : D ≠ L := (ne_of_none eL hD).symm
        have hD3 := hk3 _ _ hD2 nDS nDL
        refine ⟨_, hD3, ?_, l ++ [ch], ?_, ?_, ?_, ?_, ?_⟩
        · rw [List.length_map]
          unfold signs
          rw [List.length_map, sizeLine_eq]
          omega
        · rw [List.length_append, hl]
          rfl
        · intro x hx
          rcases List.mem_append.mp hx with z | z
          · exact hch x z
          · rw [List.mem_singleton.mp z]
            have all : ∀ x ∈ (Str.ofString "abz Z0-").cps.toList, x < 16 ^ 8 := by decide +kernel
            exact all ch (List.mem_of_getElem? hj)
        · rw [upd_same]
          unfold signs
          rw [List.map_append, List.map_append]
          rfl
        · obtain ⟨ns, a, m, e1, e2, r⟩ := hS3
          exact ⟨ns, a, m, (upd_ne nDS.symm).trans e1, (upd_ne nDL.symm).trans e2, r⟩
        · intro b o e n1 n2
          exact (upd_ne (ne_of_none e hD)).trans (hk3 b o (hk2 b o e n1 n2) n1 n2)
      · -- the list of five, and the item that is taken
        rintro H2 ⟨l, hl, hch, hD2, hS2, hk2⟩
        have hkk : Kept S L H H2 := hk1.trans hk2
        refine ⟨_, D, signs l, rfl, rfl, .inl (SqL.of hD2), ?_, ?_⟩
        · rw [len_signs, hl]
          show 5 + (signs l).length * 0 ≤ 16777216
          omega
        refine ⟨(by show 2 ≤ sizeLine; decide), fun t ht => ⟨(by show 0 ≤ sizeLine; exact Nat.zero_le _), fun t2 ht2 => ⟨(by show 2 ≤ sizeLine; decide), fun p hp hsm => fun q hq => ⟨upd_same, [((Sum.inr (Str.ofString "a") : Key), V.non)], rfl, (by decide), (by show 5 ≤ sizeLine; decide), fun O hO => ?_⟩⟩⟩⟩
        have sA := same_new (o := .tup [.int 1, .str (Str.ofString "a")]) ht
        have oA : upd H2 t (.tup [.int 1, .str (Str.ofString "a")]) t = some (.tup [.int 1, .str (Str.ofString "a")]) := upd_same
        have sB := same_new (o := .tup []) ht2
        have oB : upd (upd H2 t (.tup [.int 1, .str (Str.ofString "a")])) t2 (.tup []) t2 = some (.tup []) := upd_same
        have sC := same_new (o := .lst [.str (Str.ofString "x"), .ref t2]) hp
        have oC : upd (upd (upd H2 t (.tup [.int 1, .str (Str.ofString "a")])) t2 (.tup [])) p (.lst [.str (Str.ofString "x"), .ref t2]) p = some (.lst [.str (Str.ofString "x"), .ref t2]) := upd_same
        have sD := (same_new (o := .dK []) hq)
        have sE : ∀ H9 : Hp, H9 q = none → Same H9 (upd (upd H9 q (.dK [])) q (.dK [((Sum.inr (Str.ofString "a") : Key), V.non)])) := fun H9 h9 b o e => (upd_ne (ne_of_none e h9)).trans ((upd_ne (ne_of_none e h9)).trans e)
        have oE : ∀ H9 : Hp, upd H9 q (.dK [((Sum.inr (Str.ofString "a") : Key), V.non)]) q = some (.dK [((Sum.inr (Str.ofString "a") : Key), V.non)]) := fun _ => upd_same
        have sF := same_new (o := .lst [.str (Txt.join (Str.ofString "") (signs l)), .non, .ref t, .ref p, .ref q]) hO
        have all : Same H2 _ := ((sA.trans sB).trans sC).trans ((sE _ hq).trans sF)
        obtain ⟨ns2, a2, m2, e1, e2, r2⟩ := id hS2
        have off : ∀ {H9 : Hp} {x : Addr}, Same H2 H9 → H9 x = none → x ≠ S ∧ x ≠ L := fun {H9 x} k9 h9 => ⟨(ne_of_none (k9 _ _ e1) h9).symm, (ne_of_none (k9 _ _ e2) h9).symm⟩
        have nt := off (Same.refl H2) ht
        have nt2 := off sA ht2
        have np := off (sA.trans sB) hp
        have nq := off ((sA.trans sB).trans sC) hq
        have hSZ : StreamAt _ S L (c + 1 + 5) := ⟨ns2, a2, m2, all _ _ e1, all _ _ e2, r2⟩
        have hkZ : Kept S L H _ := hkk.trans fun b o e _ _ => all b o e
        have fin : ∀ (v : V) (d : PyData), Dq K (cut S L _) v d → d.leavesShort 40 = true → d.bulk ≤ 10 → d.showable = true → d.depth ≤ 2 → Q v _ := fun v d h1 h2 h3 h4 h5 => k v d _ _ (by omega) hSZ hkZ ⟨h1, h2, h3, h4, h5⟩
        have hway : way = 1 ∨ way = 2 ∨ way = 3 ∨ way = 4 ∨ way = 5 := by omega
        rcases hway with rfl | rfl | rfl | rfl | rfl
        · refine ⟨_, rfl, _, _, rfl, rfl, O, _, _, _, rfl, rfl, SqL.of upd_same, rfl, fin _ _ (.str _) ?_ ?_ rfl (Nat.zero_le _)⟩
          · show (Txt.join (Str.ofString "") (signs l)).cps.toList.all (fun c => decide (c < 16 ^ 8)) = true
            rw [join_signs]
            exact List.all_eq_true.mpr fun x hx => decide_eq_true (hch x hx)
          · show (Txt.join (Str.ofString "") (signs l)).cps.size ≤ 10
            rw [← Array.length_toList, join_signs, hl]
            decide
        · exact ⟨_, rfl, _, _, rfl, rfl, O, _, _, _, rfl, rfl, SqL.of upd_same, rfl, fin _ _ .non rfl (by decide) rfl (by decide)⟩
        · exact ⟨_, rfl, _, _, rfl, rfl, O, _, _, _, rfl, rfl, SqL.of upd_same, rfl, fin _ (.tuple [.int 1, .str (Str.ofString "a")]) (.tup (SqT.of ((cut_at nt.1 nt.2).trans (sF _ _ (sE _ hq _ _ (sC _ _ (sB _ _ oA)))))) (.cons (.int 1) (.cons (.str _) .nil))) (by decide +kernel) (by decide +kernel) (by decide +kernel) (by decide +kernel)⟩
        · exact ⟨_, rfl, _, _, rfl, rfl, O, _, _, _, rfl, rfl, SqL.of upd_same, rfl, fin _ (.list [.str (Str.ofString "x"), .tuple []]) (.lst (SqL.of ((cut_at np.1 np.2).trans (sF _ _ (sE _ hq _ _ oC)))) hsm (.cons (.str _) (.cons (.tup (SqT.of ((cut_at nt2.1 nt2.2).trans (sF _ _ (sE _ hq _ _ (sC _ _ oB))))) .nil) .nil))) (by decide +kernel) (by decide +kernel) (by decide +kernel) (by decide +kernel)⟩
        · exact ⟨_, rfl, _, _, rfl, rfl, O, _, _, _, rfl, rfl, SqL.of upd_same, rfl, fin _ (.dict [(.str (Str.ofString "a"), .none)]) (.dct (kvs := [((Sum.inr (Str.ofString "a") : Key), V.non)]) (ds := [.none]) ((cut_at nq.1 nq.2).trans (sF _ _ (oE _))) (.cons .non .nil)) (by decide +kernel) (by decide +kernel) (by decide +kernel) (by decide +kernel)⟩
end
end K1
namespace K1
open PySem PySem.Spec PyProof.Rows L2 LamX NdefX EV
/-! ### the errors' own __init__ -/
/-- what the text says of OpenError, at O -/
structure OT (K : PySem.W.Frag) (mg : Str → Option Value) (O : Addr) : Prop where
  r : ClX.CRead K O (.type "type")
  v : PySem.W.findCls K (.ref O) (.type "type") "__init__" = some (.val (.builtin "ValueError.__init__"))
  g : mg "OpenError" = some (.ref O)
def spI0 (K : PySem.W.Frag) : Sp := fun vs H Q _ => ∃ a C : Addr, vs = [.ref a] ∧ OexC K C ∧ H a = some (exo a C none) ∧ Q .non H
def spI1 (K : PySem.W.Frag) (f : Str) : Sp := fun vs H Q _ => ∃ (a C : Addr) (x : V), vs = [.ref a, x] ∧ OexC K C ∧ PySem.W.findIn K (.ref C) f = some none ∧ H a = some (exo a C none) ∧
  ∀ dx, H dx = none → dx ≠ a → Q .non (upd (upd H dx (exd dx [(f, x)])) a (exo a C (some dx)))
def spI2 (K : PySem.W.Frag) : Sp := fun vs H Q _ => ∃ (a C : Addr) (x y : V), vs = [.ref a, x, y] ∧ OexC K C ∧ PySem.W.findIn K (.ref C) "setting" = some none ∧ PySem.W.findIn K (.ref C) "literal" = some none ∧ H a = some (exo a C none) ∧
  ∀ dx, H dx = none → dx ≠ a → Q .non (upd (upd (upd H dx (exd dx [("setting", x)])) a (exo a C (some dx))) dx (exd dx [("literal", y), ("setting", x)]))
section
variable {P : Program} {w : World} {K : PySem.W.Frag} {mg : Str → Option Value} {base : Heap} {O : Addr}
abbrev sI0 : Stmt := inClass (top 2) 0
theorem scI0 : FnScope ["self", "index"] ["self", "index"] (defScope sI0) := ⟨rfl, rfl, rfl, by decide +kernel, rfl, by decide +kernel, by decide +kernel⟩
theorem ok_i0 {f : Addr} {fd : FuncData} (F : Fun K "__init__" "BadNames.__init__" sI0 f fd) (T : OT K mg O) : FnOk P w K mg base CX0 1 f fd ["self", "index"] (spI1 K "index") := by
  refine F.ok scI0 (fun vs H Q E h => ?_) (fun cdv A outer s H vs Q E hr h => ?_)
  · obtain ⟨a, C, x, rfl, _⟩ := h
    rfl
  · obtain ⟨a, C, x, rfl, X0, n1, ha, k⟩ := h
    refine ⟨_, pss_cons (ps_expr (pe_binit T.r T.v (by rfl) T.g (pa_cons (pv 0) (pa_cons pe_str pa_nil)))) (pss_one (ps_ost (pv 0) (pv 1))), _, rfl, a, C, _, rfl, (by show 1 ≤ 1000; decide), X0, ha, ?_⟩
    exact ⟨_, rfl, _, rfl, a, C, rfl, X0, n1, .inl ⟨ha, k⟩⟩
abbrev sI1 : Stmt := inClass (top 3) 0
theorem scI1 : FnScope ["self", "n"] ["self", "n"] (defScope sI1) := ⟨rfl, rfl, rfl, by decide +kernel, rfl, by decide +kernel, by decide +kernel⟩
theorem ok_i1 {f : Addr} {fd : FuncData} (F : Fun K "__init__" "TooMany.__init__" sI1 f fd) (T : OT K mg O) : FnOk P w K mg base CX0 1 f fd ["self", "n"] (spI1 K "n") := by
  refine F.ok scI1 (fun vs H Q E h => ?_) (fun cdv A outer s H vs Q E hr h => ?_)
  · obtain ⟨a, C, x, rfl, _⟩ := h
    rfl
  · obtain ⟨a, C, x, rfl, X0, n1, ha, k⟩ := h
    refine ⟨_, pss_cons (ps_expr (pe_binit T.r T.v (by rfl) T.g (pa_cons (pv 0) (pa_cons pe_str pa_nil)))) (pss_one (ps_ost (pv 0) (pv 1))), _, rfl, a, C, _, rfl, (by show 1 ≤ 1000; decide), X0, ha, ?_⟩
    exact ⟨_, rfl, _, rfl, a, C, rfl, X0, n1, .inl ⟨ha, k⟩⟩
abbrev sI2 : Stmt := inClass (top 4) 0
theorem scI2 : FnScope ["self", "index"] ["self", "index"] (defScope sI2) := ⟨rfl, rfl, rfl, by decide +kernel, rfl, by decide +kernel, by decide +kernel⟩
theorem ok_i2 {f : Addr} {fd : FuncData} (F : Fun K "__init__" "BadSetting.__init__" sI2 f fd) (T : OT K mg O) : FnOk P w K mg base CX0 1 f fd ["self", "index"] (spI1 K "index") := by
  refine F.ok scI2 (fun vs H Q E h => ?_) (fun cdv A outer s H vs Q E hr h => ?_)
  · obtain ⟨a, C, x, rfl, _⟩ := h
    rfl
  · obtain ⟨a, C, x, rfl, X0, n1, ha, k⟩ := h
    refine ⟨_, pss_cons (ps_expr (pe_binit T.r T.v (by rfl) T.g (pa_cons (pv 0) (pa_cons pe_str pa_nil)))) (pss_one (ps_ost (pv 0) (pv 1))), _, rfl, a, C, _, rfl, (by show 1 ≤ 1000; decide), X0, ha, ?_⟩
    exact ⟨_, rfl, _, rfl, a, C, rfl, X0, n1, .inl ⟨ha, k⟩⟩
abbrev sI3 : Stmt := inClass (top 5) 0
theorem scI3 : FnScope ["self", "name"] ["self", "name"] (defScope sI3) := ⟨rfl, rfl, rfl, by decide +kernel, rfl, by decide +kernel, by decide +kernel⟩
theorem ok_i3 {f : Addr} {fd : FuncData} (F : Fun K "__init__" "NoSign.__init__" sI3 f fd) (T : OT K mg O) : FnOk P w K mg base CX0 1 f fd ["self", "name"] (spI1 K "name") := by
  refine F.ok scI3 (fun vs H Q E h => ?_) (fun cdv A outer s H vs Q E hr h => ?_)
  · obtain ⟨a, C, x, rfl, _⟩ := h
    rfl
  · obtain ⟨a, C, x, rfl, X0, n1, ha, k⟩ := h
    refine ⟨_, pss_cons (ps_expr (pe_binit T.r T.v (by rfl) T.g (pa_cons (pv 0) (pa_cons pe_str pa_nil)))) (pss_one (ps_ost (pv 0) (pv 1))), _, rfl, a, C, _, rfl, (by show 1 ≤ 1000; decide), X0, ha, ?_⟩
    exact ⟨_, rfl, _, rfl, a, C, rfl, X0, n1, .inl ⟨ha, k⟩⟩
abbrev sI4 : Stmt := inClass (top 6) 0
theorem scI4 : FnScope ["self", "index"] ["self", "index"] (defScope sI4) := ⟨rfl, rfl, rfl, by decide +kernel, rfl, by decide +kernel, by decide +kernel⟩
theorem ok_i4 {f : Addr} {fd : FuncData} (F : Fun K "__init__" "BadClause.__init__" sI4 f fd) (T : OT K mg O) : FnOk P w K mg base CX0 1 f fd ["self", "index"] (spI1 K "index") := by
  refine F.ok scI4 (fun vs H Q E h => ?_) (fun cdv A outer s H vs Q E hr h => ?_)
  · obtain ⟨a, C, x, rfl, _⟩ := h
    rfl
  · obtain ⟨a, C, x, rfl, X0, n1, ha, k⟩ := h
    refine ⟨_, pss_cons (ps_expr (pe_binit T.r T.v (by rfl) T.g (pa_cons (pv 0) (pa_cons pe_str pa_nil)))) (pss_one (ps_ost (pv 0) (pv 1))), _, rfl, a, C, _, rfl, (by show 1 ≤ 1000; decide), X0, ha, ?_⟩
    exact ⟨_, rfl, _, rfl, a, C, rfl, X0, n1, .inl ⟨ha, k⟩⟩
abbrev sI5 : Stmt := inClass (top 7) 0
theorem scI5 : FnScope ["self", "index"] ["self", "index"] (defScope sI5) := ⟨rfl, rfl, rfl, by decide +kernel, rfl, by decide +kernel, by decide +kernel⟩
theorem ok_i5 {f : Addr} {fd : FuncData} (F : Fun K "__init__" "NoClause.__init__" sI5 f fd) (T : OT K mg O) : FnOk P w K mg base CX0 1 f fd ["self", "index"] (spI1 K "index") := by
  refine F.ok scI5 (fun vs H Q E h => ?_) (fun cdv A outer s H vs Q E hr h => ?_)
  · obtain ⟨a, C, x, rfl, _⟩ := h
    rfl
  · obtain ⟨a, C, x, rfl, X0, n1, ha, k⟩ := h
    refine ⟨_, pss_cons (ps_expr (pe_binit T.r T.v (by rfl) T.g (pa_cons (pv 0) (pa_cons pe_str pa_nil)))) (pss_one (ps_ost (pv 0) (pv 1))), _, rfl, a, C, _, rfl, (by show 1 ≤ 1000; decide), X0, ha, ?_⟩
    exact ⟨_, rfl, _, rfl, a, C, rfl, X0, n1, .inl ⟨ha, k⟩⟩
abbrev sI6 : Stmt := inClass (top 8) 0
theorem scI6 : FnScope ["self", "name"] ["self", "name"] (defScope sI6) := ⟨rfl, rfl, rfl, by decide +kernel, rfl, by decide +kernel, by decide +kernel⟩
theorem ok_i6 {f : Addr} {fd : FuncData} (F : Fun K "__init__" "Clash.__init__" sI6 f fd) (T : OT K mg O) : FnOk P w K mg base CX0 1 f fd ["self", "name"] (spI1 K "name") := by
  refine F.ok scI6 (fun vs H Q E h => ?_) (fun cdv A outer s H vs Q E hr h => ?_)
  · obtain ⟨a, C, x, rfl, _⟩ := h
    rfl
  · obtain ⟨a, C, x, rfl, X0, n1, ha, k⟩ := h
    refine ⟨_, pss_cons (ps_expr (pe_binit T.r T.v (by rfl) T.g (pa_cons (pv 0) (pa_cons pe_str pa_nil)))) (pss_one (ps_ost (pv 0) (pv 1))), _, rfl, a, C, _, rfl, (by show 1 ≤ 1000; decide), X0, ha, ?_⟩
    exact ⟨_, rfl, _, rfl, a, C, rfl, X0, n1, .inl ⟨ha, k⟩⟩
abbrev sI7 : Stmt := inClass (top 9) 0
theorem scI7 : FnScope ["self", "n"] ["self", "n"] (defScope sI7) := ⟨rfl, rfl, rfl, by decide +kernel, rfl, by decide +kernel, by decide +kernel⟩
theorem ok_i7 {f : Addr} {fd : FuncData} (F : Fun K "__init__" "BadCount.__init__" sI7 f fd) (T : OT K mg O) : FnOk P w K mg base CX0 1 f fd ["self", "n"] (spI1 K "n") := by
  refine F.ok scI7 (fun vs H Q E h => ?_) (fun cdv A outer s H vs Q E hr h => ?_)
  · obtain ⟨a, C, x, rfl, _⟩ := h
    rfl
  · obtain ⟨a, C, x, rfl, X0, n1, ha, k⟩ := h
    refine ⟨_, pss_cons (ps_expr (pe_binit T.r T.v (by rfl) T.g (pa_cons (pv 0) (pa_cons pe_str pa_nil)))) (pss_one (ps_ost (pv 0) (pv 1))), _, rfl, a, C, _, rfl, (by show 1 ≤ 1000; decide), X0, ha, ?_⟩
    exact ⟨_, rfl, _, rfl, a, C, rfl, X0, n1, .inl ⟨ha, k⟩⟩
abbrev sI8 : Stmt := inClass (top 10) 0
theorem scI8 : FnScope ["self", "level"] ["self", "level"] (defScope sI8) := ⟨rfl, rfl, rfl, by decide +kernel, rfl, by decide +kernel, by decide +kernel⟩
theorem ok_i8 {f : Addr} {fd : FuncData} (F : Fun K "__init__" "BadLevel.__init__" sI8 f fd) (T : OT K mg O) : FnOk P w K mg base CX0 1 f fd ["self", "level"] (spI1 K "level") := by
  refine F.ok scI8 (fun vs H Q E h => ?_) (fun cdv A outer s H vs Q E hr h => ?_)
  · obtain ⟨a, C, x, rfl, _⟩ := h
    rfl
  · obtain ⟨a, C, x, rfl, X0, n1, ha, k⟩ := h
    refine ⟨_, pss_cons (ps_expr (pe_binit T.r T.v (by rfl) T.g (pa_cons (pv 0) (pa_cons pe_str pa_nil)))) (pss_one (ps_ost (pv 0) (pv 1))), _, rfl, a, C, _, rfl, (by show 1 ≤ 1000; decide), X0, ha, ?_⟩
    exact ⟨_, rfl, _, rfl, a, C, rfl, X0, n1, .inl ⟨ha, k⟩⟩
abbrev sI9 : Stmt := inClass (top 11) 0
theorem scI9 : FnScope ["self", "setting", "literal"] ["self", "setting", "literal"] (defScope sI9) := ⟨rfl, rfl, rfl, by decide +kernel, rfl, by decide +kernel, by decide +kernel⟩
theorem ok_i9 {f : Addr} {fd : FuncData} (F : Fun K "__init__" "Blind.__init__" sI9 f fd) (T : OT K mg O) : FnOk P w K mg base CX0 1 f fd ["self", "setting", "literal"] (spI2 K) := by
  refine F.ok scI9 (fun vs H Q E h => ?_) (fun cdv A outer s H vs Q E hr h => ?_)
  · obtain ⟨a, C, x, y, rfl, _⟩ := h
    rfl
  · obtain ⟨a, C, x, y, rfl, X0, n1, n2, ha, k⟩ := h
    refine ⟨_, pss_cons (ps_expr (pe_binit T.r T.v (by rfl) T.g (pa_cons (pv 0) (pa_cons pe_str pa_nil)))) (pss_cons (ps_ost (pv 0) (pv 1)) (pss_one (ps_ost (pv 0) (pv 2)))), _, rfl, a, C, _, rfl, (by show 1 ≤ 1000; decide), X0, ha, ?_⟩
    refine ⟨_, rfl, _, rfl, a, C, rfl, X0, n1, .inl ⟨ha, fun dx nd ne => ?_⟩⟩
    exact ⟨_, rfl, _, rfl, a, C, rfl, X0, n2, .inr ⟨dx, _, upd_same, (upd_ne ne).trans upd_same, by show 1 ≤ 900; decide, k dx nd ne⟩⟩
abbrev sI10 : Stmt := inClass (top 12) 0
theorem scI10 : FnScope ["self"] ["self"] (defScope sI10) := ⟨rfl, rfl, rfl, by decide +kernel, rfl, by decide +kernel, by decide +kernel⟩
theorem ok_i10 {f : Addr} {fd : FuncData} (F : Fun K "__init__" "UnlikeSigns.__init__" sI10 f fd) (T : OT K mg O) : FnOk P w K mg base CX0 1 f fd ["self"] (spI0 K) := by
  refine F.ok scI10 (fun vs H Q E h => ?_) (fun cdv A outer s H vs Q E hr h => ?_)
  · obtain ⟨a, C, rfl, _⟩ := h
    rfl
  · obtain ⟨a, C, rfl, X0, ha, k⟩ := h
    exact ⟨_, pss_one (ps_expr (pe_binit T.r T.v (by rfl) T.g (pa_cons (pv 0) (pa_cons pe_str pa_nil)))), _, rfl, a, C, _, rfl, (by show 1 ≤ 1000; decide), X0, ha, k⟩
abbrev sI11 : Stmt := inClass (top 13) 0
theorem scI11 : FnScope ["self", "name"] ["self", "name"] (defScope sI11) := ⟨rfl, rfl, rfl, by decide +kernel, rfl, by decide +kernel, by decide +kernel⟩
theorem ok_i11 {f : Addr} {fd : FuncData} (F : Fun K "__init__" "NoHelper.__init__" sI11 f fd) (T : OT K mg O) : FnOk P w K mg base CX0 1 f fd ["self", "name"] (spI1 K "name") := by
  refine F.ok scI11 (fun vs H Q E h => ?_) (fun cdv A outer s H vs Q E hr h => ?_)
  · obtain ⟨a, C, x, rfl, _⟩ := h
    rfl
  · obtain ⟨a, C, x, rfl, X0, n1, ha, k⟩ := h
    refine ⟨_, pss_cons (ps_expr (pe_binit T.r T.v (by rfl) T.g (pa_cons (pv 0) (pa_cons pe_str pa_nil)))) (pss_one (ps_ost (pv 0) (pv 1))), _, rfl, a, C, _, rfl, (by show 1 ≤ 1000; decide), X0, ha, ?_⟩
    exact ⟨_, rfl, _, rfl, a, C, rfl, X0, n1, .inl ⟨ha, k⟩⟩
abbrev sI12 : Stmt := inClass (top 14) 0
theorem scI12 : FnScope ["self", "literal"] ["self", "literal"] (defScope sI12) := ⟨rfl, rfl, rfl, by decide +kernel, rfl, by decide +kernel, by decide +kernel⟩
theorem ok_i12 {f : Addr} {fd : FuncData} (F : Fun K "__init__" "BadLiteral.__init__" sI12 f fd) (T : OT K mg O) : FnOk P w K mg base CX0 1 f fd ["self", "literal"] (spI1 K "literal") := by
  refine F.ok scI12 (fun vs H Q E h => ?_) (fun cdv A outer s H vs Q E hr h => ?_)
  · obtain ⟨a, C, x, rfl, _⟩ := h
    rfl
  · obtain ⟨a, C, x, rfl, X0, n1, ha, k⟩ := h
    refine ⟨_, pss_cons (ps_expr (pe_binit T.r T.v (by rfl) T.g (pa_cons (pv 0) (pa_cons pe_str pa_nil)))) (pss_one (ps_ost (pv 0) (pv 1))), _, rfl, a, C, _, rfl, (by show 1 ≤ 1000; decide), X0, ha, ?_⟩
    exact ⟨_, rfl, _, rfl, a, C, rfl, X0, n1, .inl ⟨ha, k⟩⟩
abbrev sI13 : Stmt := inClass (top 15) 0
theorem scI13 : FnScope ["self", "index"] ["self", "index"] (defScope sI13) := ⟨rfl, rfl, rfl, by decide +kernel, rfl, by decide +kernel, by decide +kernel⟩
theorem ok_i13 {f : Addr} {fd : FuncData} (F : Fun K "__init__" "BadCode.__init__" sI13 f fd) (T : OT K mg O) : FnOk P w K mg base CX0 1 f fd ["self", "index"] (spI1 K "index") := by
  refine F.ok scI13 (fun vs H Q E h => ?_) (fun cdv A outer s H vs Q E hr h => ?_)
  · obtain ⟨a, C, x, rfl, _⟩ := h
    rfl
  · obtain ⟨a, C, x, rfl, X0, n1, ha, k⟩ := h
    refine ⟨_, pss_cons (ps_expr (pe_binit T.r T.v (by rfl) T.g (pa_cons (pv 0) (pa_cons pe_str pa_nil)))) (pss_one (ps_ost (pv 0) (pv 1))), _, rfl, a, C, _, rfl, (by show 1 ≤ 1000; decide), X0, ha, ?_⟩
    exact ⟨_, rfl, _, rfl, a, C, rfl, X0, n1, .inl ⟨ha, k⟩⟩
abbrev sI14 : Stmt := inClass (top 16) 0
theorem scI14 : FnScope ["self", "index"] ["self", "index"] (defScope sI14) := ⟨rfl, rfl, rfl, by decide +kernel, rfl, by decide +kernel, by decide +kernel⟩
theorem ok_i14 {f : Addr} {fd : FuncData} (F : Fun K "__init__" "NotTree.__init__" sI14 f fd) (T : OT K mg O) : FnOk P w K mg base CX0 1 f fd ["self", "index"] (spI1 K "index") := by
  refine F.ok scI14 (fun vs H Q E h => ?_) (fun cdv A outer s H vs Q E hr h => ?_)
  · obtain ⟨a, C, x, rfl, _⟩ := h
    rfl
  · obtain ⟨a, C, x, rfl, X0, n1, ha, k⟩ := h
    refine ⟨_, pss_cons (ps_expr (pe_binit T.r T.v (by rfl) T.g (pa_cons (pv 0) (pa_cons pe_str pa_nil)))) (pss_one (ps_ost (pv 0) (pv 1))), _, rfl, a, C, _, rfl, (by show 1 ≤ 1000; decide), X0, ha, ?_⟩
    exact ⟨_, rfl, _, rfl, a, C, rfl, X0, n1, .inl ⟨ha, k⟩⟩
abbrev sI15 : Stmt := inClass (top 17) 0
theorem scI15 : FnScope ["self"] ["self"] (defScope sI15) := ⟨rfl, rfl, rfl, by decide +kernel, rfl, by decide +kernel, by decide +kernel⟩
theorem ok_i15 {f : Addr} {fd : FuncData} (F : Fun K "__init__" "Dead.__init__" sI15 f fd) (T : OT K mg O) : FnOk P w K mg base CX0 1 f fd ["self"] (spI0 K) := by
  refine F.ok scI15 (fun vs H Q E h => ?_) (fun cdv A outer s H vs Q E hr h => ?_)
  · obtain ⟨a, C, rfl, _⟩ := h
    rfl
  · obtain ⟨a, C, rfl, X0, ha, k⟩ := h
    exact ⟨_, pss_one (ps_expr (pe_binit T.r T.v (by rfl) T.g (pa_cons (pv 0) (pa_cons pe_str pa_nil)))), _, rfl, a, C, _, rfl, (by show 1 ≤ 1000; decide), X0, ha, k⟩
abbrev sI16 : Stmt := inClass (top 18) 0
theorem scI16 : FnScope ["self", "name"] ["self", "name"] (defScope sI16) := ⟨rfl, rfl, rfl, by decide +kernel, rfl, by decide +kernel, by decide +kernel⟩
theorem ok_i16 {f : Addr} {fd : FuncData} (F : Fun K "__init__" "IsSet.__init__" sI16 f fd) (T : OT K mg O) : FnOk P w K mg base CX0 1 f fd ["self", "name"] (spI1 K "name") := by
  refine F.ok scI16 (fun vs H Q E h => ?_) (fun cdv A outer s H vs Q E hr h => ?_)
  · obtain ⟨a, C, x, rfl, _⟩ := h
    rfl
  · obtain ⟨a, C, x, rfl, X0, n1, ha, k⟩ := h
    refine ⟨_, pss_cons (ps_expr (pe_binit T.r T.v (by rfl) T.g (pa_cons (pv 0) (pa_cons pe_str pa_nil)))) (pss_one (ps_ost (pv 0) (pv 1))), _, rfl, a, C, _, rfl, (by show 1 ≤ 1000; decide), X0, ha, ?_⟩
    exact ⟨_, rfl, _, rfl, a, C, rfl, X0, n1, .inl ⟨ha, k⟩⟩
abbrev sI17 : Stmt := inClass (top 19) 0
theorem scI17 : FnScope ["self"] ["self"] (defScope sI17) := ⟨rfl, rfl, rfl, by decide +kernel, rfl, by decide +kernel, by decide +kernel⟩
theorem ok_i17 {f : Addr} {fd : FuncData} (F : Fun K "__init__" "NothingToUndo.__init__" sI17 f fd) (T : OT K mg O) : FnOk P w K mg base CX0 1 f fd ["self"] (spI0 K) := by
  refine F.ok scI17 (fun vs H Q E h => ?_) (fun cdv A outer s H vs Q E hr h => ?_)
  · obtain ⟨a, C, rfl, _⟩ := h
    rfl
  · obtain ⟨a, C, rfl, X0, ha, k⟩ := h
    exact ⟨_, pss_one (ps_expr (pe_binit T.r T.v (by rfl) T.g (pa_cons (pv 0) (pa_cons pe_str pa_nil)))), _, rfl, a, C, _, rfl, (by show 1 ≤ 1000; decide), X0, ha, k⟩
abbrev sI18 : Stmt := inClass (top 20) 0
theorem scI18 : FnScope ["self", "literal"] ["self", "literal"] (defScope sI18) := ⟨rfl, rfl, rfl, by decide +kernel, rfl, by decide +kernel, by decide +kernel⟩
theorem ok_i18 {f : Addr} {fd : FuncData} (F : Fun K "__init__" "NotDrawn.__init__" sI18 f fd) (T : OT K mg O) : FnOk P w K mg base CX0 1 f fd ["self", "literal"] (spI1 K "literal") := by
  refine F.ok scI18 (fun vs H Q E h => ?_) (fun cdv A outer s H vs Q E hr h => ?_)
  · obtain ⟨a, C, x, rfl, _⟩ := h
    rfl
  · obtain ⟨a, C, x, rfl, X0, n1, ha, k⟩ := h
    refine ⟨_, pss_cons (ps_expr (pe_binit T.r T.v (by rfl) T.g (pa_cons (pv 0) (pa_cons pe_str pa_nil)))) (pss_one (ps_ost (pv 0) (pv 1))), _, rfl, a, C, _, rfl, (by show 1 ≤ 1000; decide), X0, ha, ?_⟩
    exact ⟨_, rfl, _, rfl, a, C, rfl, X0, n1, .inl ⟨ha, k⟩⟩
abbrev sI19 : Stmt := inClass (top 21) 0
theorem scI19 : FnScope ["self"] ["self"] (defScope sI19) := ⟨rfl, rfl, rfl, by decide +kernel, rfl, by decide +kernel, by decide +kernel⟩
theorem ok_i19 {f : Addr} {fd : FuncData} (F : Fun K "__init__" "NotDead.__init__" sI19 f fd) (T : OT K mg O) : FnOk P w K mg base CX0 1 f fd ["self"] (spI0 K) := by
  refine F.ok scI19 (fun vs H Q E h => ?_) (fun cdv A outer s H vs Q E hr h => ?_)
  · obtain ⟨a, C, rfl, _⟩ := h
    rfl
  · obtain ⟨a, C, rfl, X0, ha, k⟩ := h
    exact ⟨_, pss_one (ps_expr (pe_binit T.r T.v (by rfl) T.g (pa_cons (pv 0) (pa_cons pe_str pa_nil)))), _, rfl, a, C, _, rfl, (by show 1 ≤ 1000; decide), X0, ha, k⟩
abbrev sI20 : Stmt := inClass (top 22) 0
theorem scI20 : FnScope ["self", "index"] ["self", "index"] (defScope sI20) := ⟨rfl, rfl, rfl, by decide +kernel, rfl, by decide +kernel, by decide +kernel⟩
theorem ok_i20 {f : Addr} {fd : FuncData} (F : Fun K "__init__" "BadLine.__init__" sI20 f fd) (T : OT K mg O) : FnOk P w K mg base CX0 1 f fd ["self", "index"] (spI1 K "index") := by
  refine F.ok scI20 (fun vs H Q E h => ?_) (fun cdv A outer s H vs Q E hr h => ?_)
  · obtain ⟨a, C, x, rfl, _⟩ := h
    rfl
  · obtain ⟨a, C, x, rfl, X0, n1, ha, k⟩ := h
    refine ⟨_, pss_cons (ps_expr (pe_binit T.r T.v (by rfl) T.g (pa_cons (pv 0) (pa_cons pe_str pa_nil)))) (pss_one (ps_ost (pv 0) (pv 1))), _, rfl, a, C, _, rfl, (by show 1 ≤ 1000; decide), X0, ha, ?_⟩
    exact ⟨_, rfl, _, rfl, a, C, rfl, X0, n1, .inl ⟨ha, k⟩⟩
end
end K1
namespace K1
open PySem PySem.Spec PyProof.Rows L2 LamX NdefX EV
abbrev sClasses : Stmt := top 28
abbrev sAlone : Stmt := top 29
/-- the errors' names, in the law's order -/
def nm (i : Nat) : Str := (["BadNames", "TooMany", "BadSetting", "NoSign", "BadClause", "NoClause", "Clash", "BadCount", "BadLevel", "Blind", "UnlikeSigns", "NoHelper", "BadLiteral", "BadCode", "NotTree", "Dead", "IsSet", "NothingToUndo", "NotDrawn", "NotDead", "BadLine"] : List Str).getD i ""
/-- which class of the package an error of the class at D is -/
def KitAll (K : PySem.W.Frag) (ca : Nat → Addr) (D : Addr) (bs : Nat → Bool) : Prop := ∀ i, i < 21 → PySem.W.kitOne K (.ref D) (.ref (ca i)) = some (bs i)
def answers (bs : Nat → Bool) : List Bool := (List.range 21).map bs
def spClasses (K : PySem.W.Frag) (ca : Nat → Addr) : Sp := fun vs H Q _ => ∃ (e D : Addr) (fs : List (Str × V)) (bs : Nat → Bool), vs = [.ref e] ∧ ErrAt H e D fs ∧ ExcC K D ∧ KitAll K ca D bs ∧
  ∀ (p : Addr) (H' : Hp), Same H H' → H' p = some (.lst ((answers bs).map V.bl)) → Q (.ref p) H'
structure Tg (mg : Str → Option Value) (ca : Nat → Addr) : Prop where
  g : ∀ i, i < 21 → mg (nm i) = some (.ref (ca i))
  isi : mg "isinstance" = none
section
variable {P : Program} {w : World} {K : PySem.W.Frag} {mg : Str → Option Value} {base : Heap} {O : Addr} {ca : Nat → Addr} {f : Addr} {fd : FuncData}
theorem _root_.EV.ErrAt.on {H H' : Hp} {a C : Addr} {fs : List (Str × V)} (e : ErrAt H a C fs) (k : Same H H') : ErrAt H' a C fs := e.of_same k
theorem scClasses : FnScope ["_law_e", "_law_found"] ["_law_e"] (defScope sClasses) := ⟨rfl, rfl, rfl, by decide +kernel, rfl, by decide +kernel, by decide +kernel⟩
/-- found grows, the rest stays -/
def Grown (H : Hp) (p : Addr) (xs : List V) (H' : Hp) : Prop := H p = none ∧ Same H H' ∧ H' p = some (.lst xs)
theorem Grown.ext {H H' : Hp} {p b : Addr} {xs ys : List V} (g : Grown H p xs H') (hb : H' b = none) : Grown H p (xs ++ ys) (upd (upd H' b (.lst ys)) p (.lst (xs ++ ys))) :=
  ⟨g.1, fun c o e => (upd_ne (ne_of_none e g.1)).trans ((upd_ne (ne_of_none (g.2.1 c o e) hb)).trans (g.2.1 c o e)), upd_same⟩
theorem ok_classes (F : Fun K "_law_classes" "_law_classes" sClasses f fd) (T : Tg mg ca) : FnOk P w K mg base CX0 1 f fd ["_law_e"] (spClasses K ca) := by
  refine F.ok scClasses (fun vs H Q E h => ?_) (fun cdv A outer s H vs Q E hr h => ?_)
  · obtain ⟨e, D, fs, bs, rfl, _⟩ := h
    rfl
  · obtain ⟨e, D, fs, bs, rfl, he, hc, hk, k⟩ := h
    refine ⟨_, pss_cons (ps_set (i := 1) scClasses.nd rfl (.inl rfl) (pe_lst pa_nil))
      (pss_cons (ps_expr (pe_bm PySem.F.plainAttrs_list PySem.F.slot_list_extend PySem.F.type_list_extend mt_extend (pv 1) (pa_cons (pe_lst (pa_cons (pe_callB call_isX (by rfl) T.isi (by decide +kernel) (pa_cons (pv 0) (pa_cons (pe_glob (v := .ref (ca 0)) (by rfl) (T.g 0 (by decide)) rfl) pa_nil))) (pa_cons (pe_callB call_isX (by rfl) T.isi (by decide +kernel) (pa_cons (pv 0) (pa_cons (pe_glob (v := .ref (ca 1)) (by rfl) (T.g 1 (by decide)) rfl) pa_nil))) (pa_cons (pe_callB call_isX (by rfl) T.isi (by decide +kernel) (pa_cons (pv 0) (pa_cons (pe_glob (v := .ref (ca 2)) (by rfl) (T.g 2 (by decide)) rfl) pa_nil))) (pa_cons (pe_callB call_isX (by rfl) T.isi (by decide +kernel) (pa_cons (pv 0) (pa_cons (pe_glob (v := .ref (ca 3)) (by rfl) (T.g 3 (by decide)) rfl) pa_nil))) pa_nil))))) pa_nil)))
      (pss_cons (ps_expr (pe_bm PySem.F.plainAttrs_list PySem.F.slot_list_extend PySem.F.type_list_extend mt_extend (pv 1) (pa_cons (pe_lst (pa_cons (pe_callB call_isX (by rfl) T.isi (by decide +kernel) (pa_cons (pv 0) (pa_cons (pe_glob (v := .ref (ca 4)) (by rfl) (T.g 4 (by decide)) rfl) pa_nil))) (pa_cons (pe_callB call_isX (by rfl) T.isi (by decide +kernel) (pa_cons (pv 0) (pa_cons (pe_glob (v := .ref (ca 5)) (by rfl) (T.g 5 (by decide)) rfl) pa_nil))) (pa_cons (pe_callB call_isX (by rfl) T.isi (by decide +kernel) (pa_cons (pv 0) (pa_cons (pe_glob (v := .ref (ca 6)) (by rfl) (T.g 6 (by decide)) rfl) pa_nil))) (pa_cons (pe_callB call_isX (by rfl) T.isi (by decide +kernel) (pa_cons (pv 0) (pa_cons (pe_glob (v := .ref (ca 7)) (by rfl) (T.g 7 (by decide)) rfl) pa_nil))) pa_nil))))) pa_nil)))
      (pss_cons (ps_expr (pe_bm PySem.F.plainAttrs_list PySem.F.slot_list_extend PySem.F.type_list_extend mt_extend (pv 1) (pa_cons (pe_lst (pa_cons (pe_callB call_isX (by rfl) T.isi (by decide +kernel) (pa_cons (pv 0) (pa_cons (pe_glob (v := .ref (ca 8)) (by rfl) (T.g 8 (by decide)) rfl) pa_nil))) (pa_cons (pe_callB call_isX (by rfl) T.isi (by decide +kernel) (pa_cons (pv 0) (pa_cons (pe_glob (v := .ref (ca 9)) (by rfl) (T.g 9 (by decide)) rfl) pa_nil))) (pa_cons (pe_callB call_isX (by rfl) T.isi (by decide +kernel) (pa_cons (pv 0) (pa_cons (pe_glob (v := .ref (ca 10)) (by rfl) (T.g 10 (by decide)) rfl) pa_nil))) (pa_cons (pe_callB call_isX (by rfl) T.isi (by decide +kernel) (pa_cons (pv 0) (pa_cons (pe_glob (v := .ref (ca 11)) (by rfl) (T.g 11 (by decide)) rfl) pa_nil))) pa_nil))))) pa_nil)))
      (pss_cons (ps_expr (pe_bm PySem.F.plainAttrs_list PySem.F.slot_list_extend PySem.F.type_list_extend mt_extend (pv 1) (pa_cons (pe_lst (pa_cons (pe_callB call_isX (by rfl) T.isi (by decide +kernel) (pa_cons (pv 0) (pa_cons (pe_glob (v := .ref (ca 12)) (by rfl) (T.g 12 (by decide)) rfl) pa_nil))) (pa_cons (pe_callB call_isX (by rfl) T.isi (by decide +kernel) (pa_cons (pv 0) (pa_cons (pe_glob (v := .ref (ca 13)) (by rfl) (T.g 13 (by decide)) rfl) pa_nil))) (pa_cons (pe_callB call_isX (by rfl) T.isi (by decide +kernel) (pa_cons (pv 0) (pa_cons (pe_glob (v := .ref (ca 14)) (by rfl) (T.g 14 (by decide)) rfl) pa_nil))) (pa_cons (pe_callB call_isX (by rfl) T.isi (by decide +kernel) (pa_cons (pv 0) (pa_cons (pe_glob (v := .ref (ca 15)) (by rfl) (T.g 15 (by decide)) rfl) pa_nil))) pa_nil))))) pa_nil)))
      (pss_cons (ps_expr (pe_bm PySem.F.plainAttrs_list PySem.F.slot_list_extend PySem.F.type_list_extend mt_extend (pv 1) (pa_cons (pe_lst (pa_cons (pe_callB call_isX (by rfl) T.isi (by decide +kernel) (pa_cons (pv 0) (pa_cons (pe_glob (v := .ref (ca 16)) (by rfl) (T.g 16 (by decide)) rfl) pa_nil))) (pa_cons (pe_callB call_isX (by rfl) T.isi (by decide +kernel) (pa_cons (pv 0) (pa_cons (pe_glob (v := .ref (ca 17)) (by rfl) (T.g 17 (by decide)) rfl) pa_nil))) (pa_cons (pe_callB call_isX (by rfl) T.isi (by decide +kernel) (pa_cons (pv 0) (pa_cons (pe_glob (v := .ref (ca 18)) (by rfl) (T.g 18 (by decide)) rfl) pa_nil))) (pa_cons (pe_callB call_isX (by rfl) T.isi (by decide +kernel) (pa_cons (pv 0) (pa_cons (pe_glob (v := .ref (ca 19)) (by rfl) (T.g 19 (by decide)) rfl) pa_nil))) pa_nil))))) pa_nil)))
      (pss_cons (ps_expr (pe_bm PySem.F.plainAttrs_list PySem.F.slot_list_extend PySem.F.type_list_extend mt_extend (pv 1) (pa_cons (pe_lst (pa_cons (pe_callB call_isX (by rfl) T.isi (by decide +kernel) (pa_cons (pv 0) (pa_cons (pe_glob (v := .ref (ca 20)) (by rfl) (T.g 20 (by decide)) rfl) pa_nil))) pa_nil)) pa_nil)))
      (pss_one (ps_ret (pv 1))))))))), ?_⟩
    refine ⟨(by show 0 ≤ sizeLine; exact Nat.zero_le _), fun p hp => ?_⟩
    have g0 : Grown H p [] (upd H p (.lst [])) := ⟨hp, same_new hp, upd_same⟩
    refine ⟨_, rfl, .inl ⟨rfl, _, SqL.of g0.2.2⟩, ?_⟩
    refine ⟨_, rfl, e, D, fs, _, _, _, rfl, EV.ErrAt.on he g0.2.1, .own _, hc, hk 0 (by decide), ?_⟩
    refine ⟨_, rfl, e, D, fs, _, _, _, rfl, EV.ErrAt.on he g0.2.1, .own _, hc, hk 1 (by decide), ?_⟩
    refine ⟨_, rfl, e, D, fs, _, _, _, rfl, EV.ErrAt.on he g0.2.1, .own _, hc, hk 2 (by decide), ?_⟩
    refine ⟨_, rfl, e, D, fs, _, _, _, rfl, EV.ErrAt.on he g0.2.1, .own _, hc, hk 3 (by decide), ?_⟩
    refine ⟨(by show 4 ≤ sizeLine; decide), fun b0 hb0 => ⟨p, b0, _, _, rfl, rfl, (upd_ne (ne_of_none g0.2.2 hb0)).trans g0.2.2, upd_same, (show 0 + 4 ≤ sizeLine by decide), ?_⟩⟩
    have g1 := g0.ext (ys := [.bl (bs 0), .bl (bs 1), .bl (bs 2), .bl (bs 3)]) hb0
    refine ⟨_, rfl, .inl ⟨rfl, _, SqL.of g1.2.2⟩, ?_⟩
    refine ⟨_, rfl, e, D, fs, _, _, _, rfl, EV.ErrAt.on he g1.2.1, .own _, hc, hk 4 (by decide), ?_⟩
    refine ⟨_, rfl, e, D, fs, _, _, _, rfl, EV.ErrAt.on he g1.2.1, .own _, hc, hk 5 (by decide), ?_⟩
    refine ⟨_, rfl, e, D, fs, _, _, _, rfl, EV.ErrAt.on he g1.2.1, .own _, hc, hk 6 (by decide), ?_⟩
    refine ⟨_, rfl, e, D, fs, _, _, _, rfl, EV.ErrAt.on he g1.2.1, .own _, hc, hk 7 (by decide), ?_⟩
    refine ⟨(by show 4 ≤ sizeLine; decide), fun b1 hb1 => ⟨p, b1, _, _, rfl, rfl, (upd_ne (ne_of_none g1.2.2 hb1)).trans g1.2.2, upd_same, (show 4 + 4 ≤ sizeLine by decide), ?_⟩⟩
    have g2 := g1.ext (ys := [.bl (bs 4), .bl (bs 5), .bl (bs 6), .bl (bs 7)]) hb1
    refine ⟨_, rfl, .inl ⟨rfl, _, SqL.of g2.2.2⟩, ?_⟩
    refine ⟨_, rfl, e, D, fs, _, _, _, rfl, EV.ErrAt.on he g2.2.1, .own _, hc, hk 8 (by decide), ?_⟩
    refine ⟨_, rfl, e, D, fs, _, _, _, rfl, EV.ErrAt.on he g2.2.1, .own _, hc, hk 9 (by decide), ?_⟩
    refine ⟨_, rfl, e, D, fs, _, _, _, rfl, EV.ErrAt.on he g2.2.1, .own _, hc, hk 10 (by decide), ?_⟩
    refine ⟨_, rfl, e, D, fs, _, _, _, rfl, EV.ErrAt.on he g2.2.1, .own _, hc, hk 11 (by decide), ?_⟩
    refine ⟨(by show 4 ≤ sizeLine; decide), fun b2 hb2 => ⟨p, b2, _, _, rfl, rfl, (upd_ne (ne_of_none g2.2.2 hb2)).trans g2.2.2, upd_same, (show 8 + 4 ≤ sizeLine by decide), ?_⟩⟩
    have g3 := g2.ext (ys := [.bl (bs 8), .bl (bs 9), .bl (bs 10), .bl (bs 11)]) hb2
    refine ⟨_, rfl, .inl ⟨rfl, _, SqL.of g3.2.2⟩, ?_⟩
    refine ⟨_, rfl, e, D, fs, _, _, _, rfl, EV.ErrAt.on he g3.2.1, .own _, hc, hk 12 (by decide), ?_⟩
    refine ⟨_, rfl, e, D, fs, _, _, _, rfl, EV.ErrAt.on he g3.2.1, .own _, hc, hk 13 (by decide), ?_⟩
    refine ⟨_, rfl, e, D, fs, _, _, _, rfl, EV.ErrAt.on he g3.2.1, .own _, hc, hk 14 (by decide), ?_⟩
    refine ⟨_, rfl, e, D, fs, _, _, _, rfl, EV.ErrAt.on he g3.2.1, .own _, hc, hk 15 (by decide), ?_⟩
    refine ⟨(by show 4 ≤ sizeLine; decide), fun b3 hb3 => ⟨p, b3, _, _, rfl, rfl, (upd_ne (ne_of_none g3.2.2 hb3)).trans g3.2.2, upd_same, (show 12 + 4 ≤ sizeLine by decide), ?_⟩⟩
    have g4 := g3.ext (ys := [.bl (bs 12), .bl (bs 13), .bl (bs 14), .bl (bs 15)]) hb3
    refine ⟨_, rfl, .inl ⟨rfl, _, SqL.of g4.2.2⟩, ?_⟩
    refine ⟨_, rfl, e, D, fs, _, _, _, rfl, EV.ErrAt.on he g4.2.1, .own _, hc, hk 16 (by decide), ?_⟩
    refine ⟨_, rfl, e, D, fs, _, _, _, rfl, EV.ErrAt.on he g4.2.1, .own _, hc, hk 17 (by decide), ?_⟩
    refine ⟨_, rfl, e, D, fs, _, _, _, rfl, EV.ErrAt.on he g4.2.1, .own _, hc, hk 18 (by decide), ?_⟩
    refine ⟨_, rfl, e, D, fs, _, _, _, rfl, EV.ErrAt.on he g4.2.1, .own _, hc, hk 19 (by decide), ?_⟩
    refine ⟨(by show 4 ≤ sizeLine; decide), fun b4 hb4 => ⟨p, b4, _, _, rfl, rfl, (upd_ne (ne_of_none g4.2.2 hb4)).trans g4.2.2, upd_same, (show 16 + 4 ≤ sizeLine by decide), ?_⟩⟩
    have g5 := g4.ext (ys := [.bl (bs 16), .bl (bs 17), .bl (bs 18), .bl (bs 19)]) hb4
    refine ⟨_, rfl, .inl ⟨rfl, _, SqL.of g5.2.2⟩, ?_⟩
    refine ⟨_, rfl, e, D, fs, _, _, _, rfl, EV.ErrAt.on he g5.2.1, .own _, hc, hk 20 (by decide), ?_⟩
    refine ⟨(by show 1 ≤ sizeLine; decide), fun b5 hb5 => ⟨p, b5, _, _, rfl, rfl, (upd_ne (ne_of_none g5.2.2 hb5)).trans g5.2.2, upd_same, (show 20 + 1 ≤ sizeLine by decide), ?_⟩⟩
    have g6 := g5.ext (ys := [.bl (bs 20)]) hb5
    exact ⟨_, rfl, k p _ g6.2.1 g6.2.2⟩
/-! ### an error of just one class -/
def spAlone (K : PySem.W.Frag) (ca : Nat → Addr) (O : Addr) : Sp := fun vs H Q _ => ∃ (e D : Addr) (fs : List (Str × V)) (i : Nat), vs = [.ref e, .int (i : Int)] ∧ i < 21 ∧ ErrAt H e D fs ∧ ExcC K D ∧ KitAll K ca D (fun j => decide (j = i)) ∧
  PySem.W.kitOne K (.ref D) (.ref O) = some true ∧ PySem.W.kitOne K (.ref D) (.type "ValueError") = some true ∧ ∀ H' : Hp, Same H H' → Q (.bl true) H'
theorem scAlone : FnScope ["_law_e", "_law_place", "_law_found"] ["_law_e", "_law_place"] (defScope sAlone) := ⟨rfl, rfl, rfl, by decide +kernel, rfl, by decide +kernel, by decide +kernel⟩
theorem one_true : ∀ i, i < 21 → (answers fun j => decide (j = i)).countP id = 1 := by decide +kernel
theorem at_true : ∀ i, i < 21 → (answers fun j => decide (j = i))[i]? = some true := by decide +kernel
variable {fC : Addr} {fdC : FuncData}
theorem ok_alone (F : Fun K "_law_is_alone" "_law_is_alone" sAlone f fd) (T : Tg mg ca) (oO : mg "OpenError" = some (.ref O)) (mV : mg "ValueError" = none) (GC : FnOk P w K mg base CX0 1 fC fdC ["_law_e"] (spClasses K ca)) (mC : mg "_law_classes" = some (.ref fC)) (kC : PySem.W.keepIn K (.ref fC) = true) (bC : L2.Binds K fdC ["_law_e"] []) :
    FnOk P w K mg base CX0 2 f fd ["_law_e", "_law_place"] (spAlone K ca O) := by
  refine F.ok scAlone (fun vs H Q E h => ?_) (fun cdv A outer s H vs Q E hr h => ?_)
  · obtain ⟨e, D, fs, i, rfl, _⟩ := h
    rfl
  · obtain ⟨e, D, fs, i, rfl, hi, he, hc, hk, kO, kV, k⟩ := h
    refine ⟨_, pss_cons (ps_set (i := 2) scAlone.nd rfl (.inl rfl) (pe_call GC hr (by rfl) mC kC bC .nil pass0 (pa_cons (pv 0) pa_nil)))
      (pss_one (ps_ret (pe_and (pe_callB call_isX (by rfl) T.isi (by decide +kernel) (pa_cons (pv 0) (pa_cons (pe_glob (v := .ref O) (by rfl) oO rfl) pa_nil)))
        (pe_and (pe_callB call_isX (by rfl) T.isi (by decide +kernel) (pa_cons (pv 0) (pa_cons (pe_bltn (v := .ty "ValueError") (by rfl) mV (by decide +kernel) rfl) pa_nil)))
        (pe_and (pe_cmpR op_eq (pe_bm PySem.F.plainAttrs_list PySem.F.slot_list_count PySem.F.type_list_count mt_countT (pv 2) (pa_cons pe_bl pa_nil)) pe_int (nomark _)) (pe_one (pe_ix ix_list (pv 2) (pv 1) (fun _ _ => rfl)))))))), ?_⟩
    refine ⟨_, rfl, e, D, fs, _, rfl, he, hc, hk, fun p H' sm hp => ?_⟩
    refine ⟨_, rfl, e, D, fs, _, _, _, rfl, EV.ErrAt.on he sm, .own _, hc, kO, _, rfl, ?_⟩
    refine iteT ⟨_, rfl, e, D, fs, _, _, _, rfl, EV.ErrAt.on he sm, .ty _, hc, kV, _, rfl, ?_⟩
    refine iteT ⟨_, rfl, .inl ⟨rfl, _, SqL.of hp⟩, p, _, rfl, rfl, SqL.of hp, rfl, _, rfl, ?_⟩
    rw [one_true i hi]
    refine iteT ?_
    exact ⟨_, rfl, _, rfl, p, _, _, _, rfl, rfl, SqL.of hp, atI_nat (by rw [List.getElem?_map, at_true i hi]; rfl), k H' sm⟩

end
end K1
namespace K1
open PySem PySem.Spec PyProof.Rows L2 LamX NdefX EV
abbrev sOnes : Stmt := top 30
/-- a lambda of the law: the field n of an error -/
def qL : Str := (("_law_ones" : Str) ++ ".<locals>.") ++ "<lambda>"
def aL (pa : Pos) : Arguments := { posonlyargs := [], args := [{ arg := "_law_e", annotation := none, pos := pa }], vararg := none, kwonlyargs := [], kw_defaults := [], kwarg := none, defaults := [] }
def scE : Scope := { kind := .function, names := [(PySem.Str.ofString "_law_e", .local)], isGenerator := false, isCoroutine := false, more := [] }
def nfL (pa : Pos) (c : Addr) : NF := ⟨"<lambda>", qL, aL pa, [], scE, [], c⟩
def FieldLam (H : Hp) (f : Addr) (n : Str) : Prop := ∃ (c : Addr) (pa p1 p2 : Pos), H f = some (LamO f (nfL pa c) (.Attribute (.Name "_law_e" p1) n p2)) ∧ H c = some (CodeO c qL)
/-- an error of the i-th class, its one field x -/
def OneErr (ca : Nat → Addr) (H : Hp) (e : Addr) (i : Nat) (n : Str) (x : V) : Prop := ∃ dx, H e = some (exo e (ca i) (some dx)) ∧ H dx = some (exd dx [(n, x)])
/-- a row of what _law_ones hands back -/
def OneRow (K : PySem.W.Frag) (ca : Nat → Addr) (H : Hp) (x : V) (t : Addr) : Prop := ∃ (i : Nat) (n : Str) (l f e1 e2 : Addr), i < 21 ∧ PySem.W.findIn K (.ref (ca i)) n = some none ∧ H t = some (.tup [.int (i : Int), .ref l, .ref f]) ∧ H l = some (.lst [.ref e1, .ref e2]) ∧
  FieldLam H f n ∧ OneErr ca H e1 i n x ∧ OneErr ca H e2 i n x
theorem lst_ne {xs : List V} (ps : Array Value) : HO.lst xs ≠ .tbl ps := fun z => by cases z
theorem tup_ne {xs : List V} (ps : Array Value) : HO.tup xs ≠ .tbl ps := fun z => by cases z
theorem exo_ne {e C : Addr} {d : Option Addr} (ps : Array Value) : exo e C d ≠ .tbl ps := fun z => by
  unfold exo at z
  cases z
theorem exd_ne {e : Addr} {fs : List (Str × V)} (ps : Array Value) : exd e fs ≠ .tbl ps := fun z => by
  unfold exd at z
  cases z
theorem FieldLam.on {H H' : Hp} {f : Addr} {n : Str} (h : FieldLam H f n) (k : ExtN H H') : FieldLam H' f n := by
  obtain ⟨c, pa, p1, p2, h1, h2⟩ := h
  exact ⟨c, pa, p1, p2, k _ _ h1 lamO_ne, k _ _ h2 codeO_ne⟩
theorem OneErr.on {ca : Nat → Addr} {H H' : Hp} {e : Addr} {i : Nat} {n : Str} {x : V} (h : OneErr ca H e i n x) (k : ExtN H H') : OneErr ca H' e i n x := by
  obtain ⟨dx, h1, h2⟩ := h
  exact ⟨dx, k _ _ h1 exo_ne, k _ _ h2 exd_ne⟩
theorem OneRow.on {K : PySem.W.Frag} {ca : Nat → Addr} {H H' : Hp} {x : V} {t : Addr} (h : OneRow K ca H x t) (k : ExtN H H') : OneRow K ca H' x t := by
  obtain ⟨i, n, l, f, e1, e2, hi, hn, h1, h2, h3, h4, h5⟩ := h
  exact ⟨i, n, l, f, e1, e2, hi, hn, k _ _ h1 tup_ne, k _ _ h2 lst_ne, h3.on k, h4.on k, h5.on k⟩
/-- the heap with a made error -/
def mkH (C : Addr) (n : Str) (x : V) (a d : Addr) (H : Hp) : Hp := upd (upd (upd H a (exo a C none)) d (exd d [(n, x)])) a (exo a C (some d))
theorem mk_same {C : Addr} {n : Str} {x : V} {a d : Addr} {H : Hp} (h1 : H a = none) (h2 : upd H a (exo a C none) d = none) (ne : d ≠ a) : Same H (mkH C n x a d H) := fun b o e => by
  have nd : H d = none := (upd_ne ne).symm.trans h2
  exact (upd_ne (ne_of_none e h1)).trans ((upd_ne (ne_of_none e nd)).trans ((upd_ne (ne_of_none e h1)).trans e))
theorem mk_at {C : Addr} {n : Str} {x : V} {a d : Addr} {H : Hp} (ne : d ≠ a) : mkH C n x a d H a = some (exo a C (some d)) ∧ mkH C n x a d H d = some (exd d [(n, x)]) := ⟨upd_same, (upd_ne ne).trans upd_same⟩
theorem extN_of {H H' : Hp} (k : Same H H') : ExtN H H' := fun b o e _ => k b o e
/-- _law_ones so far: p the list, ts its rows -/
structure Made (K : PySem.W.Frag) (ca : Nat → Addr) (T : List (Addr × Str)) (H0 : Hp) (p : Addr) (x : V) (ts : List Addr) (H : Hp) : Prop where
  new : H0 p = none
  ext : ExtN H0 H
  tab : Tabs T H
  at_ : H p = some (.lst (ts.map V.ref))
  row : ∀ t ∈ ts, OneRow K ca (cut p p H) x t
theorem tabs_on {T : List (Addr × Str)} {H H' : Hp} {p : Addr} {xs : List V} (t : Tabs T H) (hp : H p = some (.lst xs)) (k : ∀ b o, b ≠ p → H b = some o → H' b = some o) : Tabs T H' := fun q hq => by
  obtain ⟨ps, h1, h2, h3⟩ := t q hq
  refine ⟨ps, k _ _ (fun z => ?_) h1, h2, fun pos cv hc => ?_⟩
  · rw [z, hp] at h1
    cases h1
  · obtain ⟨c, e1, e2⟩ := h3 pos cv hc
    refine ⟨c, e1, k _ _ (fun z => ?_) e2⟩
    rw [z, hp] at e2
    unfold CodeO at e2
    cases e2
theorem made_step {K : PySem.W.Frag} {ca : Nat → Addr} {T : List (Addr × Str)} {H0 H H9 : Hp} {p : Addr} {x : V} {ts : List Addr} {i : Nat} {n : Str} {a1 d1 a2 d2 l f c t : Addr} {pa p1 p2 : Pos} (M : Made K ca T H0 p x ts H) (hi : i < 21) (hn : PySem.W.findIn K (.ref (ca i)) n = some none)
    (h1 : H a1 = none) (h2 : upd H a1 (exo a1 (ca i) none) d1 = none) (n1 : d1 ≠ a1) (h3 : mkH (ca i) n x a1 d1 H a2 = none) (h4 : upd (mkH (ca i) n x a1 d1 H) a2 (exo a2 (ca i) none) d2 = none) (n2 : d2 ≠ a2)
    (h5 : mkH (ca i) n x a2 d2 (mkH (ca i) n x a1 d1 H) l = none) (eN : ExtN (upd (mkH (ca i) n x a2 d2 (mkH (ca i) n x a1 d1 H)) l (.lst [.ref a1, .ref a2])) H9) (T9 : Tabs T H9)
    (f1 : H9 f = some (LamO f (nfL pa c) (.Attribute (.Name "_law_e" p1) n p2))) (c1 : H9 c = some (CodeO c qL)) (h6 : H9 t = none) :
    Made K ca T H0 p x (ts ++ [t]) (upd (upd H9 t (.tup [.int (i : Int), .ref l, .ref f])) p (.lst (ts.map V.ref ++ [.ref t]))) := by
  have s1 := mk_same (n := n) (x := x) h1 h2 n1
  have s2 := mk_same (n := n) (x := x) h3 h4 n2
  have s3 := same_new (o := .lst [.ref a1, .ref a2]) h5
  have q1 : H9 p = some (.lst (ts.map V.ref)) := eN _ _ (s3 _ _ (s2 _ _ (s1 _ _ M.at_))) lst_ne
  have npt : p ≠ t := ne_of_none q1 h6
  have old : ExtN H H9 := fun b o e k => eN _ _ (s3 _ _ (s2 _ _ (s1 _ _ e))) k
  have np : ∀ {b : Addr} {o : HO}, H9 b = some o → o ≠ .lst (ts.map V.ref) → b ≠ p := fun {b o} e k z => by
    rw [z, q1] at e
    exact k (Option.some.inj e).symm
  have fin : ∀ {b : Addr} {o : HO}, b ≠ p → H9 b = some o → cut p p (upd (upd H9 t (.tup [.int (i : Int), .ref l, .ref f])) p (.lst (ts.map V.ref ++ [.ref t]))) b = some o := fun {b o} nb e =>
    (cut_at nb nb).trans ((upd_ne nb).trans ((upd_ne (ne_of_none e h6)).trans e))
  have e1 := mk_at (C := ca i) (n := n) (x := x) (H := H) n1
  have e2 := mk_at (C := ca i) (n := n) (x := x) (H := mkH (ca i) n x a1 d1 H) n2
  have r1 : H9 a1 = some (exo a1 (ca i) (some d1)) := eN _ _ (s3 _ _ (s2 _ _ e1.1)) exo_ne
  have r2 : H9 d1 = some (exd d1 [(n, x)]) := eN _ _ (s3 _ _ (s2 _ _ e1.2)) exd_ne
  have r3 : H9 a2 = some (exo a2 (ca i) (some d2)) := eN _ _ (s3 _ _ e2.1) exo_ne
  have r4 : H9 d2 = some (exd d2 [(n, x)]) := eN _ _ (s3 _ _ e2.2) exd_ne
  have r5 : H9 l = some (.lst [.ref a1, .ref a2]) := eN _ _ upd_same lst_ne
  have nl : l ≠ p := (ne_of_none (s2 _ _ (s1 _ _ M.at_)) h5).symm
  have oE : ∀ {e C : Addr} {d : Option Addr} {xs : List V}, exo e C d ≠ .lst xs := fun z => by
    unfold exo at z
    cases z
  have dE : ∀ {e : Addr} {fs : List (Str × V)} {xs : List V}, exd e fs ≠ .lst xs := fun z => by
    unfold exd at z
    cases z
  have lE : ∀ {f : Addr} {F : NF} {e : Expr} {xs : List V}, LamO f F e ≠ .lst xs := fun z => by
    unfold LamO at z
    cases z
  have cE : ∀ {c : Addr} {q : Str} {xs : List V}, CodeO c q ≠ .lst xs := fun z => by
    unfold CodeO at z
    cases z
  refine ⟨M.new, fun b o e k => ?_, tabs_on T9 q1 fun b o nb e => (upd_ne nb).trans ((upd_ne (ne_of_none e h6)).trans e), ?_, fun u hu => ?_⟩
  · have b0 := old _ _ (M.ext b o e k) k
    exact (upd_ne (ne_of_none e M.new)).trans ((upd_ne (ne_of_none b0 h6)).trans b0)
  · rw [upd_same, List.map_append]
    rfl
  · rcases List.mem_append.mp hu with z | z
    · refine (M.row u z).on fun b o e k => ?_
      have nb : b ≠ p := fun y => by
        rw [y] at e
        unfold cut at e
        rw [if_pos (.inl rfl)] at e
        cases e
      exact fin nb (old _ _ (cut_sub _ _ e) k)
    · rw [List.mem_singleton.mp z]
      refine ⟨i, n, l, f, a1, a2, hi, hn, ?_, fin nl r5, ⟨c, pa, p1, p2, fin (np f1 lE) f1, fin (np c1 cE) c1⟩, ⟨d1, fin (np r1 oE) r1, fin (np r2 dE) r2⟩, ⟨d2, fin (np r3 oE) r3, fin (np r4 dE) r4⟩⟩
      exact (cut_at npt.symm npt.symm).trans ((upd_ne npt.symm).trans upd_same)
def spOnes (K : PySem.W.Frag) (ca : Nat → Addr) (T : List (Addr × Str)) : Sp := fun vs H Q _ => ∃ x : V, vs = [x] ∧ Tabs T H ∧
  ∀ (p : Addr) (ts : List Addr) (H' : Hp), ts.length ≤ 16 → ExtN H H' → Tabs T H' → H' p = some (.lst (ts.map V.ref)) → (∀ t ∈ ts, OneRow K ca H' x t) → Q (.ref p) H'
/-- what is known of an error class with one field -/
structure Cl1 (P : Program) (w : World) (K : PySem.W.Frag) (mg : Str → Option Value) (base : Heap) (C : Addr) (n : Str) : Prop where
  ox : OexC K C
  no : PySem.W.findIn K (.ref C) n = some none
  fn : ∃ (f : Addr) (fd : FuncData), PySem.W.findIn K (.ref C) "__init__" = some (some (.ref f)) ∧ PySem.W.typeIn K (.ref f) = some (.type "function") ∧ FnOk P w K mg base CX0 1 f fd ["self", n] (spI1 K n) ∧ L2.Binds K fd ["self", n] [] ∧
    ∀ (s : Shared) (self v : Value), BindsTo s fd ⟨[self], [(n, v)]⟩ [("self", self), (n, v)]
section
variable {P : Program} {w : World} {K : PySem.W.Frag} {mg : Str → Option Value} {base : Heap} {ca : Nat → Addr} {f c Pt : Addr} {X : Cx} {CXp : CXT}
theorem pe_new1 {C : Addr} {n x : Str} {e : Expr} {te : TE} {p pos : Pos} (Z : Cl1 X.prog X.w X.K X.mg X.base C n) (hr : Room 2 X.A) (hg : Gl X x) (hm : X.mg x = some (.ref C)) (he : PE X e te)
    (hdb : (x == ("__debug__" : Str)) = false := by decide) (hs : starEach (e :: []) X.env = (false, eval e X.env) :: starEach [] X.env := by rfl) (hpl : (backTo pos (starEach [] X.env)).any (·.1) = false := by rfl) :
    PE X (.Call (.Name x p) [e] [] pos) (tMkE C (spI1 X.K n) E0 (tCons te tNil)) := by
  obtain ⟨f, fd, h1, h2, h3, h4, h5⟩ := Z.fn
  exact pe_mkE Z.ox h1 h2 h3 hr h4 pass0 hg hm (pa_cons he pa_nil hs) hdb hs hpl
theorem pe_new1k {C : Addr} {n x : Str} {e : Expr} {te : TE} {p pos kp : Pos} (Z : Cl1 X.prog X.w X.K X.mg X.base C n) (hr : Room 2 X.A) (hg : Gl X x) (hm : X.mg x = some (.ref C)) (he : PE X e te)
    (hdb : (x == ("__debug__" : Str)) = false := by decide) :
    PE X (.Call (.Name x p) [] [⟨some n, e, kp⟩] pos) (tMkEk C 1 (spI1 X.K n) E0 id (tCons te tNil)) := by
  obtain ⟨f, fd, h1, h2, h3, h4, h5⟩ := Z.fn
  exact pe_mkEk (ks := [n]) (g := id) (gV := id) Z.ox h1 h2 h3 hr pass0 (fun s self ws hl => match ws, hl with | [v], _ => h5 s self v) (fun r _ => r) hg hm (pk_cons he pk_nil) rfl rfl hdb rfl
theorem scOnes : FnScope ["_law_one", "_law_found"] ["_law_one"] (defScope sOnes) := ⟨rfl, rfl, rfl, by decide +kernel, rfl, by decide +kernel, by decide +kernel⟩
theorem ok_ones {oc kV doc pm ct : Value} {od an : Option Addr} {osl : Array (Option Value)} (lk : K.lookup f = some ⟨oc, od, .func (PySem.W.fnOf "_law_ones" "_law_ones" (defArgs sOnes) (defBody sOnes) (defScope sOnes) .none kV doc pm an (.ref c) ct), osl⟩)
    (hcd : PySem.W.codeIn K (.ref c) "_law_ones" = true) (TB : TabB base mg c Pt) (T : Tg mg ca)
    (z0 : Cl1 P w K mg base (ca 0) "index")
    (z1 : Cl1 P w K mg base (ca 1) "n")
    (z2 : Cl1 P w K mg base (ca 2) "index")
    (z3 : Cl1 P w K mg base (ca 3) "name")
    (z4 : Cl1 P w K mg base (ca 4) "index")
    (z5 : Cl1 P w K mg base (ca 5) "index")
    (z6 : Cl1 P w K mg base (ca 6) "name")
    (z7 : Cl1 P w K mg base (ca 7) "n")
    (z8 : Cl1 P w K mg base (ca 8) "level")
    (z11 : Cl1 P w K mg base (ca 11) "name")
    (z12 : Cl1 P w K mg base (ca 12) "literal")
    (z13 : Cl1 P w K mg base (ca 13) "index")
    (z14 : Cl1 P w K mg base (ca 14) "index")
    (z16 : Cl1 P w K mg base (ca 16) "name")
    (z18 : Cl1 P w K mg base (ca 18) "literal")
    (z20 : Cl1 P w K mg base (ca 20) "index") :
    FnOk P w K mg base CX0 3 f (PySem.W.fnOf "_law_ones" "_law_ones" (defArgs sOnes) (defBody sOnes) (defScope sOnes) .none kV doc pm an (.ref c) ct) ["_law_one"] (spOnes K ca [(Pt, qL)]) := by
  refine fn_of lk hcd scOnes (fun vs H Q E h => ?_) (fun A outer s H vs Q E hr h => ?_)
  · obtain ⟨x, rfl, _⟩ := h
    rfl
  · obtain ⟨x, rfl, hT, k⟩ := h
    have mT : (Pt, qL) ∈ [(Pt, qL)] := List.mem_cons_self
    have uT : ∀ q ∈ [(Pt, qL)], q.1 = Pt → q.2 = qL := fun q hq _ => by
      rw [List.mem_singleton.mp hq]
    have nfE : ∀ y ∈ scE.names, y.2 ≠ NameKind.free := by decide +kernel
    obtain ⟨t16, ht16, hq16⟩ : ∃ tt, PSs (cxOf CX0 P w K mg base ["_law_one", "_law_found"] "_law_ones" (defScope sOnes) f (.ref c) A outer s H E).nox ((defBody sOnes).drop 17) tt ∧
        ∀ (p : Addr) (ts : List Addr) (H1 : Hp), ts.length ≤ 16 → Made K ca [(Pt, qL)] H p x ts H1 → tt { nx := fun _ H' => Q .non H', rt := Q } [some x, some (.ref p)] H1 :=
      ⟨_, pss_one (ps_ret (pv 1)), fun p ts H1 hl M => ⟨_, rfl, k p ts H1 hl M.ext M.tab M.at_ fun t ht => (M.row t ht).on (extN_of cut_sub)⟩⟩
    obtain ⟨t15, ht15, hq15⟩ : ∃ tt, PSs (cxOf CX0 P w K mg base ["_law_one", "_law_found"] "_law_ones" (defScope sOnes) f (.ref c) A outer s H E).nox ((defBody sOnes).drop 16) tt ∧
        ∀ (p : Addr) (ts : List Addr) (H1 : Hp), ts.length ≤ 15 → Made K ca [(Pt, qL)] H p x ts H1 → tt { nx := fun _ H' => Q .non H', rt := Q } [some x, some (.ref p)] H1 := by
      refine ⟨_, pss_cons (ps_expr (pe_bm PySem.F.plainAttrs_list PySem.F.slot_list_append PySem.F.type_list_append mt_append (pv 1) (pa_cons (pe_tup (pa_cons pe_int (pa_cons (pe_lst (pa_cons (pe_new1 z20 hr (by rfl) (T.g 20 (by decide)) (pv 0)) (pa_cons (pe_new1k z20 hr (by rfl) (T.g 20 (by decide)) (pv 0)) pa_nil)))
        (pa_cons (pe_lamV TB rfl mT uT nfE rfl) pa_nil)))) pa_nil))) ht16, fun p ts H1 hl M => ?_⟩
      refine ⟨_, rfl, .inl ⟨rfl, _, SqL.of M.at_⟩, _, rfl, (by show 1 ≤ 1000; decide), fun a1 h1 => ⟨a1, ca 20, x, rfl, z20.ox, z20.no, upd_same, fun d1 h2 n1 => ⟨rfl, _, rfl, rfl, fun a2 h3 => ⟨a2, ca 20, x, rfl, z20.ox, z20.no, upd_same, fun d2 h4 n2 => ⟨rfl, (by show 2 ≤ sizeLine; decide), fun l h5 => ?_⟩⟩⟩⟩⟩
      have b1 := (mk_same (C := ca 20) (n := "index") (x := x) h1 h2 n1).trans ((mk_same (C := ca 20) (n := "index") (x := x) h3 h4 n2).trans (same_new (o := .lst [.ref a1, .ref a2]) h5))
      refine ⟨tabs_on M.tab M.at_ fun b o _ e => b1 b o e, fun fl c' H9 eN T9 f0 f1 c1 => ⟨(by show 3 ≤ sizeLine; decide), fun t h6 => ?_⟩⟩
      have M2 := made_step M (i := 20) (n := "index") (by decide) z20.no h1 h2 n1 h3 h4 n2 h5 eN T9 f1 c1 h6
      have q9 := eN _ _ (b1 _ _ M.at_) lst_ne
      refine ⟨p, _, _, rfl, rfl, (upd_ne (ne_of_none q9 h6)).trans q9, ?_, hq16 p _ _ ?_ M2⟩
      · rw [List.length_map, sizeLine_eq]
        omega
      · rw [List.length_append]
        show ts.length + 1 ≤ 16
        omega
    obtain ⟨t14, ht14, hq14⟩ : ∃ tt, PSs (cxOf CX0 P w K mg base ["_law_one", "_law_found"] "_law_ones" (defScope sOnes) f (.ref c) A outer s H E).nox ((defBody sOnes).drop 15) tt ∧
        ∀ (p : Addr) (ts : List Addr) (H1 : Hp), ts.length ≤ 14 → Made K ca [(Pt, qL)] H p x ts H1 → tt { nx := fun _ H' => Q .non H', rt := Q } [some x, some (.ref p)] H1 := by
      refine ⟨_, pss_cons (ps_expr (pe_bm PySem.F.plainAttrs_list PySem.F.slot_list_append PySem.F.type_list_append mt_append (pv 1) (pa_cons (pe_tup (pa_cons pe_int (pa_cons (pe_lst (pa_cons (pe_new1 z18 hr (by rfl) (T.g 18 (by decide)) (pv 0)) (pa_cons (pe_new1k z18 hr (by rfl) (T.g 18 (by decide)) (pv 0)) pa_nil)))
        (pa_cons (pe_lamV TB rfl mT uT nfE rfl) pa_nil)))) pa_nil))) ht15, fun p ts H1 hl M => ?_⟩
      refine ⟨_, rfl, .inl ⟨rfl, _, SqL.of M.at_⟩, _, rfl, (by show 1 ≤ 1000; decide), fun a1 h1 => ⟨a1, ca 18, x, rfl, z18.ox, z18.no, upd_same, fun d1 h2 n1 => ⟨rfl, _, rfl, rfl, fun a2 h3 => ⟨a2, ca 18, x, rfl, z18.ox, z18.no, upd_same, fun d2 h4 n2 => ⟨rfl, (by show 2 ≤ sizeLine; decide), fun l h5 => ?_⟩⟩⟩⟩⟩
      have b1 := (mk_same (C := ca 18) (n := "literal") (x := x) h1 h2 n1).trans ((mk_same (C := ca 18) (n := "literal") (x := x) h3 h4 n2).trans (same_new (o := .lst [.ref a1, .ref a2]) h5))
      refine ⟨tabs_on M.tab M.at_ fun b o _ e => b1 b o e, fun fl c' H9 eN T9 f0 f1 c1 => ⟨(by show 3 ≤ sizeLine; decide), fun t h6 => ?_⟩⟩
      have M2 := made_step M (i := 18) (n := "literal") (by decide) z18.no h1 h2 n1 h3 h4 n2 h5 eN T9 f1 c1 h6
      have q9 := eN _ _ (b1 _ _ M.at_) lst_ne
      refine ⟨p, _, _, rfl, rfl, (upd_ne (ne_of_none q9 h6)).trans q9, ?_, hq15 p _ _ ?_ M2⟩
      · rw [List.length_map, sizeLine_eq]
        omega
      · rw [List.length_append]
        show ts.length + 1 ≤ 15
        omega
    obtain ⟨t13, ht13, hq13⟩ : ∃ tt, PSs (cxOf CX0 P w K mg base ["_law_one", "_law_found"] "_law_ones" (defScope sOnes) f (.ref c) A outer s H E).nox ((defBody sOnes).drop 14) tt ∧
        ∀ (p : Addr) (ts : List Addr) (H1 : Hp), ts.length ≤ 13 → Made K ca [(Pt, qL)] H p x ts H1 → tt { nx := fun _ H' => Q .non H', rt := Q } [some x, some (.ref p)] H1 := by
      refine ⟨_, pss_cons (ps_expr (pe_bm PySem.F.plainAttrs_list PySem.F.slot_list_append PySem.F.type_list_append mt_append (pv 1) (pa_cons (pe_tup (pa_cons pe_int (pa_cons (pe_lst (pa_cons (pe_new1 z16 hr (by rfl) (T.g 16 (by decide)) (pv 0)) (pa_cons (pe_new1k z16 hr (by rfl) (T.g 16 (by decide)) (pv 0)) pa_nil)))
        (pa_cons (pe_lamV TB rfl mT uT nfE rfl) pa_nil)))) pa_nil))) ht14, fun p ts H1 hl M => ?_⟩
      refine ⟨_, rfl, .inl ⟨rfl, _, SqL.of M.at_⟩, _, rfl, (by show 1 ≤ 1000; decide), fun a1 h1 => ⟨a1, ca 16, x, rfl, z16.ox, z16.no, upd_same, fun d1 h2 n1 => ⟨rfl, _, rfl, rfl, fun a2 h3 => ⟨a2, ca 16, x, rfl, z16.ox, z16.no, upd_same, fun d2 h4 n2 => ⟨rfl, (by show 2 ≤ sizeLine; decide), fun l h5 => ?_⟩⟩⟩⟩⟩
      have b1 := (mk_same (C := ca 16) (n := "name") (x := x) h1 h2 n1).trans ((mk_same (C := ca 16) (n := "name") (x := x) h3 h4 n2).trans (same_new (o := .lst [.ref a1, .ref a2]) h5))
      refine ⟨tabs_on M.tab M.at_ fun b o _ e => b1 b o e, fun fl c' H9 eN T9 f0 f1 c1 => ⟨(by show 3 ≤ sizeLine; decide), fun t h6 => ?_⟩⟩
      have M2 := made_step M (i := 16) (n := "name") (by decide) z16.no h1 h2 n1 h3 h4 n2 h5 eN T9 f1 c1 h6
      have q9 := eN _ _ (b1 _ _ M.at_) lst_ne
      refine ⟨p, _, _, rfl, rfl, (upd_ne (ne_of_none q9 h6)).trans q9, ?_, hq14 p _ _ ?_ M2⟩
      · rw [List.length_map, sizeLine_eq]
        omega
      · rw [List.length_append]
        show ts.length + 1 ≤ 14
        omega
    obtain ⟨t12, ht12, hq12⟩ : ∃ tt, PSs (cxOf CX0 P w K mg base ["_law_one", "_law_found"] "_law_ones" (defScope sOnes) f (.ref c) A outer s H E).nox ((defBody sOnes).drop 13) tt ∧
        ∀ (p : Addr) (ts : List Addr) (H1 : Hp), ts.length ≤ 12 → Made K ca [(Pt, qL)] H p x ts H1 → tt { nx := fun _ H' => Q .non H', rt := Q } [some x, some (.ref p)] H1 := by
      refine ⟨_, pss_cons (ps_expr (pe_bm PySem.F.plainAttrs_list PySem.F.slot_list_append PySem.F.type_list_append mt_append (pv 1) (pa_cons (pe_tup (pa_cons pe_int (pa_cons (pe_lst (pa_cons (pe_new1 z14 hr (by rfl) (T.g 14 (by decide)) (pv 0)) (pa_cons (pe_new1k z14 hr (by rfl) (T.g 14 (by decide)) (pv 0)) pa_nil)))
        (pa_cons (pe_lamV TB rfl mT uT nfE rfl) pa_nil)))) pa_nil))) ht13, fun p ts H1 hl M => ?_⟩
      refine ⟨_, rfl, .inl ⟨rfl, _, SqL.of M.at_⟩, _, rfl, (by show 1 ≤ 1000; decide), fun a1 h1 => ⟨a1, ca 14, x, rfl, z14.ox, z14.no, upd_same, fun d1 h2 n1 => ⟨rfl, _, rfl, rfl, fun a2 h3 => ⟨a2, ca 14, x, rfl, z14.ox, z14.no, upd_same, fun d2 h4 n2 => ⟨rfl, (by show 2 ≤ sizeLine; decide), fun l h5 => ?_⟩⟩⟩⟩⟩
      have b1 := (mk_same (C := ca 14) (n := "index") (x := x) h1 h2 n1).trans ((mk_same (C := ca 14) (n := "index") (x := x) h3 h4 n2).trans (same_new (o := .lst [.ref a1, .ref a2]) h5))
      refine ⟨tabs_on M.tab M.at_ fun b o _ e => b1 b o e, fun fl c' H9 eN T9 f0 f1 c1 => ⟨(by show 3 ≤ sizeLine; decide), fun t h6 => ?_⟩⟩
      have M2 := made_step M (i := 14) (n := "index") (by decide) z14.no h1 h2 n1 h3 h4 n2 h5 eN T9 f1 c1 h6
      have q9 := eN _ _ (b1 _ _ M.at_) lst_ne
      refine ⟨p, _, _, rfl, rfl, (upd_ne (ne_of_none q9 h6)).trans q9, ?_, hq13 p _ _ ?_ M2⟩
      · rw [List.length_map, sizeLine_eq]
        omega
      · rw [List.length_append]
        show ts.length + 1 ≤ 13
        omega
    obtain ⟨t11, ht11, hq11⟩ : ∃ tt, PSs (cxOf CX0 P w K mg base ["_law_one", "_law_found"] "_law_ones" (defScope sOnes) f (.ref c) A outer s H E).nox ((defBody sOnes).drop 12) tt ∧
        ∀ (p : Addr) (ts : List Addr) (H1 : Hp), ts.length ≤ 11 → Made K ca [(Pt, qL)] H p x ts H1 → tt { nx := fun _ H' => Q .non H', rt := Q } [some x, some (.ref p)] H1 := by
      refine ⟨_, pss_cons (ps_expr (pe_bm PySem.F.plainAttrs_list PySem.F.slot_list_append PySem.F.type_list_append mt_append (pv 1) (pa_cons (pe_tup (pa_cons pe_int (pa_cons (pe_lst (pa_cons (pe_new1 z13 hr (by rfl) (T.g 13 (by decide)) (pv 0)) (pa_cons (pe_new1k z13 hr (by rfl) (T.g 13 (by decide)) (pv 0)) pa_nil)))
        (pa_cons (pe_lamV TB rfl mT uT nfE rfl) pa_nil)))) pa_nil))) ht12, fun p ts H1 hl M => ?_⟩
      refine ⟨_, rfl, .inl ⟨rfl, _, SqL.of M.at_⟩, _, rfl, (by show 1 ≤ 1000; decide), fun a1 h1 => ⟨a1, ca 13, x, rfl, z13.ox, z13.no, upd_same, fun d1 h2 n1 => ⟨rfl, _, rfl, rfl, fun a2 h3 => ⟨a2, ca 13, x, rfl, z13.ox, z13.no, upd_same, fun d2 h4 n2 => ⟨rfl, (by show 2 ≤ sizeLine; decide), fun l h5 => ?_⟩⟩⟩⟩⟩
      have b1 := (mk_same (C := ca 13) (n := "index") (x := x) h1 h2 n1).trans ((mk_same (C := ca 13) (n := "index") (x := x) h3 h4 n2).trans (same_new (o := .lst [.ref a1, .ref a2]) h5))
      refine ⟨tabs_on M.tab M.at_ fun b o _ e => b1 b o e, fun fl c' H9 eN T9 f0 f1 c1 => ⟨(by show 3 ≤ sizeLine; decide), fun t h6 => ?_⟩⟩
      have M2 := made_step M (i := 13) (n := "index") (by decide) z13.no h1 h2 n1 h3 h4 n2 h5 eN T9 f1 c1 h6
      have q9 := eN _ _ (b1 _ _ M.at_) lst_ne
      refine ⟨p, _, _, rfl, rfl, (upd_ne (ne_of_none q9 h6)).trans q9, ?_, hq12 p _ _ ?_ M2⟩
      · rw [List.length_map, sizeLine_eq]
        omega
      · rw [List.length_append]
        show ts.length + 1 ≤ 12
        omega
    obtain ⟨t10, ht10, hq10⟩ : ∃ tt, PSs (cxOf CX0 P w K mg base ["_law_one", "_law_found"] "_law_ones" (defScope sOnes) f (.ref c) A outer s H E).nox ((defBody sOnes).drop 11) tt ∧
        ∀ (p : Addr) (ts : List Addr) (H1 : Hp), ts.length ≤ 10 → Made K ca [(Pt, qL)] H p x ts H1 → tt { nx := fun _ H' => Q .non H', rt := Q } [some x, some (.ref p)] H1 := by
      refine ⟨_, pss_cons (ps_expr (pe_bm PySem.F.plainAttrs_list PySem.F.slot_list_append PySem.F.type_list_append mt_append (pv 1) (pa_cons (pe_tup (pa_cons pe_int (pa_cons (pe_lst (pa_cons (pe_new1 z12 hr (by rfl) (T.g 12 (by decide)) (pv 0)) (pa_cons (pe_new1k z12 hr (by rfl) (T.g 12 (by decide)) (pv 0)) pa_nil)))
        (pa_cons (pe_lamV TB rfl mT uT nfE rfl) pa_nil)))) pa_nil))) ht11, fun p ts H1 hl M => ?_⟩
      refine ⟨_, rfl, .inl ⟨rfl, _, SqL.of M.at_⟩, _, rfl, (by show 1 ≤ 1000; decide), fun a1 h1 => ⟨a1, ca 12, x, rfl, z12.ox, z12.no, upd_same, fun d1 h2 n1 => ⟨rfl, _, rfl, rfl, fun a2 h3 => ⟨a2, ca 12, x, rfl, z12.ox, z12.no, upd_same, fun d2 h4 n2 => ⟨rfl, (by show 2 ≤ sizeLine; decide), fun l h5 => ?_⟩⟩⟩⟩⟩
      have b1 := (mk_same (C := ca 12) (n := "literal") (x := x) h1 h2 n1).trans ((mk_same (C := ca 12) (n := "literal") (x := x) h3 h4 n2).trans (same_new (o := .lst [.ref a1, .ref a2]) h5))
      refine ⟨tabs_on M.tab M.at_ fun b o _ e => b1 b o e, fun fl c' H9 eN T9 f0 f1 c1 => ⟨(by show 3 ≤ sizeLine; decide), fun t h6 => ?_⟩⟩
      have M2 := made_step M (i := 12) (n := "literal") (by decide) z12.no h1 h2 n1 h3 h4 n2 h5 eN T9 f1 c1 h6
      have q9 := eN _ _ (b1 _ _ M.at_) lst_ne
      refine ⟨p, _, _, rfl, rfl, (upd_ne (ne_of_none q9 h6)).trans q9, ?_, hq11 p _ _ ?_ M2⟩
      · rw [List.length_map, sizeLine_eq]
        omega
      · rw [List.length_append]
        show ts.length + 1 ≤ 11
        omega
    obtain ⟨t9, ht9, hq9⟩ : ∃ tt, PSs (cxOf CX0 P w K mg base ["_law_one", "_law_found"] "_law_ones" (defScope sOnes) f (.ref c) A outer s H E).nox ((defBody sOnes).drop 10) tt ∧
        ∀ (p : Addr) (ts : List Addr) (H1 : Hp), ts.length ≤ 9 → Made K ca [(Pt, qL)] H p x ts H1 → tt { nx := fun _ H' => Q .non H', rt := Q } [some x, some (.ref p)] H1 := by
      refine ⟨_, pss_cons (ps_expr (pe_bm PySem.F.plainAttrs_list PySem.F.slot_list_append PySem.F.type_list_append mt_append (pv 1) (pa_cons (pe_tup (pa_cons pe_int (pa_cons (pe_lst (pa_cons (pe_new1 z11 hr (by rfl) (T.g 11 (by decide)) (pv 0)) (pa_cons (pe_new1k z11 hr (by rfl) (T.g 11 (by decide)) (pv 0)) pa_nil)))
        (pa_cons (pe_lamV TB rfl mT uT nfE rfl) pa_nil)))) pa_nil))) ht10, fun p ts H1 hl M => ?_⟩
      refine ⟨_, rfl, .inl ⟨rfl, _, SqL.of M.at_⟩, _, rfl, (by show 1 ≤ 1000; decide), fun a1 h1 => ⟨a1, ca 11, x, rfl, z11.ox, z11.no, upd_same, fun d1 h2 n1 => ⟨rfl, _, rfl, rfl, fun a2 h3 => ⟨a2, ca 11, x, rfl, z11.ox, z11.no, upd_same, fun d2 h4 n2 => ⟨rfl, (by show 2 ≤ sizeLine; decide), fun l h5 => ?_⟩⟩⟩⟩⟩
      have b1 := (mk_same (C := ca 11) (n := "name") (x := x) h1 h2 n1).trans ((mk_same (C := ca 11) (n := "name") (x := x) h3 h4 n2).trans (same_new (o := .lst [.ref a1, .ref a2]) h5))
      refine ⟨tabs_on M.tab M.at_ fun b o _ e => b1 b o e, fun fl c' H9 eN T9 f0 f1 c1 => ⟨(by show 3 ≤ sizeLine; decide), fun t h6 => ?_⟩⟩
      have M2 := made_step M (i := 11) (n := "name") (by decide) z11.no h1 h2 n1 h3 h4 n2 h5 eN T9 f1 c1 h6
      have q9 := eN _ _ (b1 _ _ M.at_) lst_ne
      refine ⟨p, _, _, rfl, rfl, (upd_ne (ne_of_none q9 h6)).trans q9, ?_, hq10 p _ _ ?_ M2⟩
      · rw [List.length_map, sizeLine_eq]
        omega
      · rw [List.length_append]
        show ts.length + 1 ≤ 10
        omega
    obtain ⟨t8, ht8, hq8⟩ : ∃ tt, PSs (cxOf CX0 P w K mg base ["_law_one", "_law_found"] "_law_ones" (defScope sOnes) f (.ref c) A outer s H E).nox ((defBody sOnes).drop 9) tt ∧
        ∀ (p : Addr) (ts : List Addr) (H1 : Hp), ts.length ≤ 8 → Made K ca [(Pt, qL)] H p x ts H1 → tt { nx := fun _ H' => Q .non H', rt := Q } [some x, some (.ref p)] H1 := by
      refine ⟨_, pss_cons (ps_expr (pe_bm PySem.F.plainAttrs_list PySem.F.slot_list_append PySem.F.type_list_append mt_append (pv 1) (pa_cons (pe_tup (pa_cons pe_int (pa_cons (pe_lst (pa_cons (pe_new1 z8 hr (by rfl) (T.g 8 (by decide)) (pv 0)) (pa_cons (pe_new1k z8 hr (by rfl) (T.g 8 (by decide)) (pv 0)) pa_nil)))
        (pa_cons (pe_lamV TB rfl mT uT nfE rfl) pa_nil)))) pa_nil))) ht9, fun p ts H1 hl M => ?_⟩
      refine ⟨_, rfl, .inl ⟨rfl, _, SqL.of M.at_⟩, _, rfl, (by show 1 ≤ 1000; decide), fun a1 h1 => ⟨a1, ca 8, x, rfl, z8.ox, z8.no, upd_same, fun d1 h2 n1 => ⟨rfl, _, rfl, rfl, fun a2 h3 => ⟨a2, ca 8, x, rfl, z8.ox, z8.no, upd_same, fun d2 h4 n2 => ⟨rfl, (by show 2 ≤ sizeLine; decide), fun l h5 => ?_⟩⟩⟩⟩⟩
      have b1 := (mk_same (C := ca 8) (n := "level") (x := x) h1 h2 n1).trans ((mk_same (C := ca 8) (n := "level") (x := x) h3 h4 n2).trans (same_new (o := .lst [.ref a1, .ref a2]) h5))
      refine ⟨tabs_on M.tab M.at_ fun b o _ e => b1 b o e, fun fl c' H9 eN T9 f0 f1 c1 => ⟨(by show 3 ≤ sizeLine; decide), fun t h6 => ?_⟩⟩
      have M2 := made_step M (i := 8) (n := "level") (by decide) z8.no h1 h2 n1 h3 h4 n2 h5 eN T9 f1 c1 h6
      have q9 := eN _ _ (b1 _ _ M.at_) lst_ne
      refine ⟨p, _, _, rfl, rfl, (upd_ne (ne_of_none q9 h6)).trans q9, ?_, hq9 p _ _ ?_ M2⟩
      · rw [List.length_map, sizeLine_eq]
        omega
      · rw [List.length_append]
        show ts.length + 1 ≤ 9
        omega
    obtain ⟨t7, ht7, hq7⟩ : ∃ tt, PSs (cxOf CX0 P w K mg base ["_law_one", "_law_found"] "_law_ones" (defScope sOnes) f (.ref c) A outer s H E).nox ((defBody sOnes).drop 8) tt ∧
        ∀ (p : Addr) (ts : List Addr) (H1 : Hp), ts.length ≤ 7 → Made K ca [(Pt, qL)] H p x ts H1 → tt { nx := fun _ H' => Q .non H', rt := Q } [some x, some (.ref p)] H1 := by
      refine ⟨_, pss_cons (ps_expr (pe_bm PySem.F.plainAttrs_list PySem.F.slot_list_append PySem.F.type_list_append mt_append (pv 1) (pa_cons (pe_tup (pa_cons pe_int (pa_cons (pe_lst (pa_cons (pe_new1 z7 hr (by rfl) (T.g 7 (by decide)) (pv 0)) (pa_cons (pe_new1k z7 hr (by rfl) (T.g 7 (by decide)) (pv 0)) pa_nil)))
        (pa_cons (pe_lamV TB rfl mT uT nfE rfl) pa_nil)))) pa_nil))) ht8, fun p ts H1 hl M => ?_⟩
      refine ⟨_, rfl, .inl ⟨rfl, _, SqL.of M.at_⟩, _, rfl, (by show 1 ≤ 1000; decide), fun a1 h1 => ⟨a1, ca 7, x, rfl, z7.ox, z7.no, upd_same, fun d1 h2 n1 => ⟨rfl, _, rfl, rfl, fun a2 h3 => ⟨a2, ca 7, x, rfl, z7.ox, z7.no, upd_same, fun d2 h4 n2 => ⟨rfl, (by show 2 ≤ sizeLine; decide), fun l h5 => ?_⟩⟩⟩⟩⟩
      have b1 := (mk_same (C := ca 7) (n := "n") (x := x) h1 h2 n1).trans ((mk_same (C := ca 7) (n := "n") (x := x) h3 h4 n2).trans (same_new (o := .lst [.ref a1, .ref a2]) h5))
      refine ⟨tabs_on M.tab M.at_ fun b o _ e => b1 b o e, fun fl c' H9 eN T9 f0 f1 c1 => ⟨(by show 3 ≤ sizeLine; decide), fun t h6 => ?_⟩⟩
      have M2 := made_step M (i := 7) (n := "n") (by decide) z7.no h1 h2 n1 h3 h4 n2 h5 eN T9 f1 c1 h6
      have q9 := eN _ _ (b1 _ _ M.at_) lst_ne
      refine ⟨p, _, _, rfl, rfl, (upd_ne (ne_of_none q9 h6)).trans q9, ?_, hq8 p _ _ ?_ M2⟩
      · rw [List.length_map, sizeLine_eq]
        omega
      · rw [List.length_append]
        show ts.length + 1 ≤ 8
        omega
    obtain ⟨t6, ht6, hq6⟩ : ∃ tt, PSs (cxOf CX0 P w K mg base ["_law_one", "_law_found"] "_law_ones" (defScope sOnes) f (.ref c) A outer s H E).nox ((defBody sOnes).drop 7) tt ∧
        ∀ (p : Addr) (ts : List Addr) (H1 : Hp), ts.length ≤ 6 → Made K ca [(Pt, qL)] H p x ts H1 → tt { nx := fun _ H' => Q .non H', rt := Q } [some x, some (.ref p)] H1 := by
      refine ⟨_, pss_cons (ps_expr (pe_bm PySem.F.plainAttrs_list PySem.F.slot_list_append PySem.F.type_list_append mt_append (pv 1) (pa_cons (pe_tup (pa_cons pe_int (pa_cons (pe_lst (pa_cons (pe_new1 z6 hr (by rfl) (T.g 6 (by decide)) (pv 0)) (pa_cons (pe_new1k z6 hr (by rfl) (T.g 6 (by decide)) (pv 0)) pa_nil)))
        (pa_cons (pe_lamV TB rfl mT uT nfE rfl) pa_nil)))) pa_nil))) ht7, fun p ts H1 hl M => ?_⟩
      refine ⟨_, rfl, .inl ⟨rfl, _, SqL.of M.at_⟩, _, rfl, (by show 1 ≤ 1000; decide), fun a1 h1 => ⟨a1, ca 6, x, rfl, z6.ox, z6.no, upd_same, fun d1 h2 n1 => ⟨rfl, _, rfl, rfl, fun a2 h3 => ⟨a2, ca 6, x, rfl, z6.ox, z6.no, upd_same, fun d2 h4 n2 => ⟨rfl, (by show 2 ≤ sizeLine; decide), fun l h5 => ?_⟩⟩⟩⟩⟩
      have b1 := (mk_same (C := ca 6) (n := "name") (x := x) h1 h2 n1).trans ((mk_same (C := ca 6) (n := "name") (x := x) h3 h4 n2).trans (same_new (o := .lst [.ref a1, .ref a2]) h5))
      refine ⟨tabs_on M.tab M.at_ fun b o _ e => b1 b o e, fun fl c' H9 eN T9 f0 f1 c1 => ⟨(by show 3 ≤ sizeLine; decide), fun t h6 => ?_⟩⟩
      have M2 := made_step M (i := 6) (n := "name") (by decide) z6.no h1 h2 n1 h3 h4 n2 h5 eN T9 f1 c1 h6
      have q9 := eN _ _ (b1 _ _ M.at_) lst_ne
      refine ⟨p, _, _, rfl, rfl, (upd_ne (ne_of_none q9 h6)).trans q9, ?_, hq7 p _ _ ?_ M2⟩
      · rw [List.length_map, sizeLine_eq]
        omega
      · rw [List.length_append]
        show ts.length + 1 ≤ 7
        omega
    obtain ⟨t5, ht5, hq5⟩ : ∃ tt, PSs (cxOf CX0 P w K mg base ["_law_one", "_law_found"] "_law_ones" (defScope sOnes) f (.ref c) A outer s H E).nox ((defBody sOnes).drop 6) tt ∧
        ∀ (p : Addr) (ts : List Addr) (H1 : Hp), ts.length ≤ 5 → Made K ca [(Pt, qL)] H p x ts H1 → tt { nx := fun _ H' => Q .non H', rt := Q } [some x, some (.ref p)] H1 := by
      refine ⟨_, pss_cons (ps_expr (pe_bm PySem.F.plainAttrs_list PySem.F.slot_list_append PySem.F.type_list_append mt_append (pv 1) (pa_cons (pe_tup (pa_cons pe_int (pa_cons (pe_lst (pa_cons (pe_new1 z5 hr (by rfl) (T.g 5 (by decide)) (pv 0)) (pa_cons (pe_new1k z5 hr (by rfl) (T.g 5 (by decide)) (pv 0)) pa_nil)))
        (pa_cons (pe_lamV TB rfl mT uT nfE rfl) pa_nil)))) pa_nil))) ht6, fun p ts H1 hl M => ?_⟩
      refine ⟨_, rfl, .inl ⟨rfl, _, SqL.of M.at_⟩, _, rfl, (by show 1 ≤ 1000; decide), fun a1 h1 => ⟨a1, ca 5, x, rfl, z5.ox, z5.no, upd_same, fun d1 h2 n1 => ⟨rfl, _, rfl, rfl, fun a2 h3 => ⟨a2, ca 5, x, rfl, z5.ox, z5.no, upd_same, fun d2 h4 n2 => ⟨rfl, (by show 2 ≤ sizeLine; decide), fun l h5 => ?_⟩⟩⟩⟩⟩
      have b1 := (mk_same (C := ca 5) (n := "index") (x := x) h1 h2 n1).trans ((mk_same (C := ca 5) (n := "index") (x := x) h3 h4 n2).trans (same_new (o := .lst [.ref a1, .ref a2]) h5))
      refine ⟨tabs_on M.tab M.at_ fun b o _ e => b1 b o e, fun fl c' H9 eN T9 f0 f1 c1 => ⟨(by show 3 ≤ sizeLine; decide), fun t h6 => ?_⟩⟩
      have M2 := made_step M (i := 5) (n := "index") (by decide) z5.no h1 h2 n1 h3 h4 n2 h5 eN T9 f1 c1 h6
      have q9 := eN _ _ (b1 _ _ M.at_) lst_ne
      refine ⟨p, _, _, rfl, rfl, (upd_ne (ne_of_none q9 h6)).trans q9, ?_, hq6 p _ _ ?_ M2⟩
      · rw [List.length_map, sizeLine_eq]
        omega
      · rw [List.length_append]
        show ts.length + 1 ≤ 6
        omega
    obtain ⟨t4, ht4, hq4⟩ : ∃ tt, PSs (cxOf CX0 P w K mg base ["_law_one", "_law_found"] "_law_ones" (defScope sOnes) f (.ref c) A outer s H E).nox ((defBody sOnes).drop 5) tt ∧
        ∀ (p : Addr) (ts : List Addr) (H1 : Hp), ts.length ≤ 4 → Made K ca [(Pt, qL)] H p x ts H1 → tt { nx := fun _ H' => Q .non H', rt := Q } [some x, some (.ref p)] H1 := by
      refine ⟨_, pss_cons (ps_expr (pe_bm PySem.F.plainAttrs_list PySem.F.slot_list_append PySem.F.type_list_append mt_append (pv 1) (pa_cons (pe_tup (pa_cons pe_int (pa_cons (pe_lst (pa_cons (pe_new1 z4 hr (by rfl) (T.g 4 (by decide)) (pv 0)) (pa_cons (pe_new1k z4 hr (by rfl) (T.g 4 (by decide)) (pv 0)) pa_nil)))
        (pa_cons (pe_lamV TB rfl mT uT nfE rfl) pa_nil)))) pa_nil))) ht5, fun p ts H1 hl M => ?_⟩
      refine ⟨_, rfl, .inl ⟨rfl, _, SqL.of M.at_⟩, _, rfl, (by show 1 ≤ 1000; decide), fun a1 h1 => ⟨a1, ca 4, x, rfl, z4.ox, z4.no, upd_same, fun d1 h2 n1 => ⟨rfl, _, rfl, rfl, fun a2 h3 => ⟨a2, ca 4, x, rfl, z4.ox, z4.no, upd_same, fun d2 h4 n2 => ⟨rfl, (by show 2 ≤ sizeLine; decide), fun l h5 => ?_⟩⟩⟩⟩⟩
      have b1 := (mk_same (C := ca 4) (n := "index") (x := x) h1 h2 n1).trans ((mk_same (C := ca 4) (n := "index") (x := x) h3 h4 n2).trans (same_new (o := .lst [.ref a1, .ref a2]) h5))
      refine ⟨tabs_on M.tab M.at_ fun b o _ e => b1 b o e, fun fl c' H9 eN T9 f0 f1 c1 => ⟨(by show 3 ≤ sizeLine; decide), fun t h6 => ?_⟩⟩
      have M2 := made_step M (i := 4) (n := "index") (by decide) z4.no h1 h2 n1 h3 h4 n2 h5 eN T9 f1 c1 h6
      have q9 := eN _ _ (b1 _ _ M.at_) lst_ne
      refine ⟨p, _, _, rfl, rfl, (upd_ne (ne_of_none q9 h6)).trans q9, ?_, hq5 p _ _ ?_ M2⟩
      · rw [List.length_map, sizeLine_eq]
        omega
      · rw [List.length_append]
        show ts.length + 1 ≤ 5
        omega
    obtain ⟨t3, ht3, hq3⟩ : ∃ tt, PSs (cxOf CX0 P w K mg base ["_law_one", "_law_found"] "_law_ones" (defScope sOnes) f (.ref c) A outer s H E).nox ((defBody sOnes).drop 4) tt ∧
        ∀ (p : Addr) (ts : List Addr) (H1 : Hp), ts.length ≤ 3 → Made K ca [(Pt, qL)] H p x ts H1 → tt { nx := fun _ H' => Q .non H', rt := Q } [some x, some (.ref p)] H1 := by
      refine ⟨_, pss_cons (ps_expr (pe_bm PySem.F.plainAttrs_list PySem.F.slot_list_append PySem.F.type_list_append mt_append (pv 1) (pa_cons (pe_tup (pa_cons pe_int (pa_cons (pe_lst (pa_cons (pe_new1 z3 hr (by rfl) (T.g 3 (by decide)) (pv 0)) (pa_cons (pe_new1k z3 hr (by rfl) (T.g 3 (by decide)) (pv 0)) pa_nil)))
        (pa_cons (pe_lamV TB rfl mT uT nfE rfl) pa_nil)))) pa_nil))) ht4, fun p ts H1 hl M => ?_⟩
      refine ⟨_, rfl, .inl ⟨rfl, _, SqL.of M.at_⟩, _, rfl, (by show 1 ≤ 1000; decide), fun a1 h1 => ⟨a1, ca 3, x, rfl, z3.ox, z3.no, upd_same, fun d1 h2 n1 => ⟨rfl, _, rfl, rfl, fun a2 h3 => ⟨a2, ca 3, x, rfl, z3.ox, z3.no, upd_same, fun d2 h4 n2 => ⟨rfl, (by show 2 ≤ sizeLine; decide), fun l h5 => ?_⟩⟩⟩⟩⟩
      have b1 := (mk_same (C := ca 3) (n := "name") (x := x) h1 h2 n1).trans ((mk_same (C := ca 3) (n := "name") (x := x) h3 h4 n2).trans (same_new (o := .lst [.ref a1, .ref a2]) h5))
      refine ⟨tabs_on M.tab M.at_ fun b o _ e => b1 b o e, fun fl c' H9 eN T9 f0 f1 c1 => ⟨(by show 3 ≤ sizeLine; decide), fun t h6 => ?_⟩⟩
      have M2 := made_step M (i := 3) (n := "name") (by decide) z3.no h1 h2 n1 h3 h4 n2 h5 eN T9 f1 c1 h6
      have q9 := eN _ _ (b1 _ _ M.at_) lst_ne
      refine ⟨p, _, _, rfl, rfl, (upd_ne (ne_of_none q9 h6)).trans q9, ?_, hq4 p _ _ ?_ M2⟩
      · rw [List.length_map, sizeLine_eq]
        omega
      · rw [List.length_append]
        show ts.length + 1 ≤ 4
        omega
    obtain ⟨t2, ht2, hq2⟩ : ∃ tt, PSs (cxOf CX0 P w K mg base ["_law_one", "_law_found"] "_law_ones" (defScope sOnes) f (.ref c) A outer s H E).nox ((defBody sOnes).drop 3) tt ∧
        ∀ (p : Addr) (ts : List Addr) (H1 : Hp), ts.length ≤ 2 → Made K ca [(Pt, qL)] H p x ts H1 → tt { nx := fun _ H' => Q .non H', rt := Q } [some x, some (.ref p)] H1 := by
      refine ⟨_, pss_cons (ps_expr (pe_bm PySem.F.plainAttrs_list PySem.F.slot_list_append PySem.F.type_list_append mt_append (pv 1) (pa_cons (pe_tup (pa_cons pe_int (pa_cons (pe_lst (pa_cons (pe_new1 z2 hr (by rfl) (T.g 2 (by decide)) (pv 0)) (pa_cons (pe_new1k z2 hr (by rfl) (T.g 2 (by decide)) (pv 0)) pa_nil)))
        (pa_cons (pe_lamV TB rfl mT uT nfE rfl) pa_nil)))) pa_nil))) ht3, fun p ts H1 hl M => ?_⟩
      refine ⟨_, rfl, .inl ⟨rfl, _, SqL.of M.at_⟩, _, rfl, (by show 1 ≤ 1000; decide), fun a1 h1 => ⟨a1, ca 2, x, rfl, z2.ox, z2.no, upd_same, fun d1 h2 n1 => ⟨rfl, _, rfl, rfl, fun a2 h3 => ⟨a2, ca 2, x, rfl, z2.ox, z2.no, upd_same, fun d2 h4 n2 => ⟨rfl, (by show 2 ≤ sizeLine; decide), fun l h5 => ?_⟩⟩⟩⟩⟩
      have b1 := (mk_same (C := ca 2) (n := "index") (x := x) h1 h2 n1).trans ((mk_same (C := ca 2) (n := "index") (x := x) h3 h4 n2).trans (same_new (o := .lst [.ref a1, .ref a2]) h5))
      refine ⟨tabs_on M.tab M.at_ fun b o _ e => b1 b o e, fun fl c' H9 eN T9 f0 f1 c1 => ⟨(by show 3 ≤ sizeLine; decide), fun t h6 => ?_⟩⟩
      have M2 := made_step M (i := 2) (n := "index") (by decide) z2.no h1 h2 n1 h3 h4 n2 h5 eN T9 f1 c1 h6
      have q9 := eN _ _ (b1 _ _ M.at_) lst_ne
      refine ⟨p, _, _, rfl, rfl, (upd_ne (ne_of_none q9 h6)).trans q9, ?_, hq3 p _ _ ?_ M2⟩
      · rw [List.length_map, sizeLine_eq]
        omega
      · rw [List.length_append]
        show ts.length + 1 ≤ 3
        omega
    obtain ⟨t1, ht1, hq1⟩ : ∃ tt, PSs (cxOf CX0 P w K mg base ["_law_one", "_law_found"] "_law_ones" (defScope sOnes) f (.ref c) A outer s H E).nox ((defBody sOnes).drop 2) tt ∧
        ∀ (p : Addr) (ts : List Addr) (H1 : Hp), ts.length ≤ 1 → Made K ca [(Pt, qL)] H p x ts H1 → tt { nx := fun _ H' => Q .non H', rt := Q } [some x, some (.ref p)] H1 := by
      refine ⟨_, pss_cons (ps_expr (pe_bm PySem.F.plainAttrs_list PySem.F.slot_list_append PySem.F.type_list_append mt_append (pv 1) (pa_cons (pe_tup (pa_cons pe_int (pa_cons (pe_lst (pa_cons (pe_new1 z1 hr (by rfl) (T.g 1 (by decide)) (pv 0)) (pa_cons (pe_new1k z1 hr (by rfl) (T.g 1 (by decide)) (pv 0)) pa_nil)))
        (pa_cons (pe_lamV TB rfl mT uT nfE rfl) pa_nil)))) pa_nil))) ht2, fun p ts H1 hl M => ?_⟩
      refine ⟨_, rfl, .inl ⟨rfl, _, SqL.of M.at_⟩, _, rfl, (by show 1 ≤ 1000; decide), fun a1 h1 => ⟨a1, ca 1, x, rfl, z1.ox, z1.no, upd_same, fun d1 h2 n1 => ⟨rfl, _, rfl, rfl, fun a2 h3 => ⟨a2, ca 1, x, rfl, z1.ox, z1.no, upd_same, fun d2 h4 n2 => ⟨rfl, (by show 2 ≤ sizeLine; decide), fun l h5 => ?_⟩⟩⟩⟩⟩
      have b1 := (mk_same (C := ca 1) (n := "n") (x := x) h1 h2 n1).trans ((mk_same (C := ca 1) (n := "n") (x := x) h3 h4 n2).trans (same_new (o := .lst [.ref a1, .ref a2]) h5))
      refine ⟨tabs_on M.tab M.at_ fun b o _ e => b1 b o e, fun fl c' H9 eN T9 f0 f1 c1 => ⟨(by show 3 ≤ sizeLine; decide), fun t h6 => ?_⟩⟩
      have M2 := made_step M (i := 1) (n := "n") (by decide) z1.no h1 h2 n1 h3 h4 n2 h5 eN T9 f1 c1 h6
      have q9 := eN _ _ (b1 _ _ M.at_) lst_ne
      refine ⟨p, _, _, rfl, rfl, (upd_ne (ne_of_none q9 h6)).trans q9, ?_, hq2 p _ _ ?_ M2⟩
      · rw [List.length_map, sizeLine_eq]
        omega
      · rw [List.length_append]
        show ts.length + 1 ≤ 2
        omega
    obtain ⟨t0, ht0, hq0⟩ : ∃ tt, PSs (cxOf CX0 P w K mg base ["_law_one", "_law_found"] "_law_ones" (defScope sOnes) f (.ref c) A outer s H E).nox ((defBody sOnes).drop 1) tt ∧
        ∀ (p : Addr) (ts : List Addr) (H1 : Hp), ts.length ≤ 0 → Made K ca [(Pt, qL)] H p x ts H1 → tt { nx := fun _ H' => Q .non H', rt := Q } [some x, some (.ref p)] H1 := by
      refine ⟨_, pss_cons (ps_expr (pe_bm PySem.F.plainAttrs_list PySem.F.slot_list_append PySem.F.type_list_append mt_append (pv 1) (pa_cons (pe_tup (pa_cons pe_int (pa_cons (pe_lst (pa_cons (pe_new1 z0 hr (by rfl) (T.g 0 (by decide)) (pv 0)) (pa_cons (pe_new1k z0 hr (by rfl) (T.g 0 (by decide)) (pv 0)) pa_nil)))
        (pa_cons (pe_lamV TB rfl mT uT nfE rfl) pa_nil)))) pa_nil))) ht1, fun p ts H1 hl M => ?_⟩
      refine ⟨_, rfl, .inl ⟨rfl, _, SqL.of M.at_⟩, _, rfl, (by show 1 ≤ 1000; decide), fun a1 h1 => ⟨a1, ca 0, x, rfl, z0.ox, z0.no, upd_same, fun d1 h2 n1 => ⟨rfl, _, rfl, rfl, fun a2 h3 => ⟨a2, ca 0, x, rfl, z0.ox, z0.no, upd_same, fun d2 h4 n2 => ⟨rfl, (by show 2 ≤ sizeLine; decide), fun l h5 => ?_⟩⟩⟩⟩⟩
      have b1 := (mk_same (C := ca 0) (n := "index") (x := x) h1 h2 n1).trans ((mk_same (C := ca 0) (n := "index") (x := x) h3 h4 n2).trans (same_new (o := .lst [.ref a1, .ref a2]) h5))
      refine ⟨tabs_on M.tab M.at_ fun b o _ e => b1 b o e, fun fl c' H9 eN T9 f0 f1 c1 => ⟨(by show 3 ≤ sizeLine; decide), fun t h6 => ?_⟩⟩
      have M2 := made_step M (i := 0) (n := "index") (by decide) z0.no h1 h2 n1 h3 h4 n2 h5 eN T9 f1 c1 h6
      have q9 := eN _ _ (b1 _ _ M.at_) lst_ne
      refine ⟨p, _, _, rfl, rfl, (upd_ne (ne_of_none q9 h6)).trans q9, ?_, hq1 p _ _ ?_ M2⟩
      · rw [List.length_map, sizeLine_eq]
        omega
      · rw [List.length_append]
        show ts.length + 1 ≤ 1
        omega
    refine ⟨_, (pss_cons (ps_set (i := 1) scOnes.nd rfl (.inl rfl) (pe_lst pa_nil)) ht0).nox, ?_⟩
    exact ⟨(by show 0 ≤ sizeLine; exact Nat.zero_le _), fun p hp => hq0 p [] _ (Nat.le_refl _) ⟨hp, extN_of (same_new hp), fun q hq => (hT q hq).ext (same_new hp), upd_same, fun _ h => nomatch h⟩⟩
end
end K1
namespace K1
open PySem PySem.Spec PyProof.Rows L2 LamX NdefX EV
abbrev sBares : Stmt := top 31
/-! ### a field lambda called by a name that holds it -/
def tCallF (K : PySem.W.Frag) (i : Nat) (te : TE) : TE := fun σ H Q => ∃ f : Addr, σ[i]? = some (some (.ref f)) ∧ (∃ n, FieldLam H f n) ∧ te σ H fun v H1 => ∃ (n : Str) (a C dx : Addr) (fs : List (Str × V)) (y : V), FieldLam H1 f n ∧ v = .ref a ∧ XfC K C ∧
  PySem.W.findIn K (.ref C) n = some none ∧ H1 a = some (exo a C (some dx)) ∧ H1 dx = some (exd dx fs) ∧ fs.lookup n = some y ∧ Q y H1
theorem nsL : NScope ["_law_e"] ["_law_e"] [] scE := nscope_by (by decide +kernel)
theorem lam_at {X : Cx} {pins : List (Addr × Obj)} {σ : L2.St} {H : Hp} {s : Shared} {f : Addr} {n : Str} (I : Inv X pins σ H s) (h : FieldLam H f n) : PySem.W.FnAt f s.heap := by
  obtain ⟨c, pa, p1, p2, h1, h2⟩ := h
  obtain ⟨od, sl, pm, ctv, ho⟩ := lamO_at I.hok h1
  exact ⟨_, od, _, sl, ho⟩
theorem pe_callF {X : Cx} {i : Nat} {x : Str} {e : Expr} {te : TE} {p pos : Pos} (hr : Room 1 X.A) (hN : X.N[i]? = some x) (hv : Vis X.env.scope x) (he : PE X e te)
    (hd : (x == ("__debug__" : Str)) = false := by decide) (hcd : (x == ("__classdict__" : Str)) = false := by decide)
    (hs : starEach (e :: []) X.env = (false, eval e X.env) :: starEach [] X.env := by rfl) (hpl : (backTo pos (starEach [] X.env)).any (·.1) = false := by rfl) :
    PE X (.Call (.Name x p) [e] [] pos) (tCallF X.K i te) := by
  refine ⟨fun pins s σ H Q I h => ?_⟩
  obtain ⟨f, hf, ⟨n0, L0⟩, ht⟩ := h
  refine wpAny_Call_Name_kw (thn ((pe_var (pos := p) hN hv hd hcd).run pins s σ H (fun v H1 => v = .ref f ∧ H1 = H) I ⟨.ref f, hf, rfl, rfl⟩) fun u s1 ⟨v, H1, I1, r1, q1⟩ => ?_)
  obtain ⟨ev, eH⟩ := q1
  subst ev
  subst eH
  obtain rfl : u = Value.ref f := r1
  refine PySem.W.callWith_F (first := []) (lam_at I1 L0) (thn ((pa_cons he pa_nil hs).run pos pins s1 σ H1 (fun vs H2 => match vs with
    | [v] => ∃ (n : Str) (a C dx : Addr) (fs : List (Str × V)) (y : V), FieldLam H2 f n ∧ v = .ref a ∧ XfC X.K C ∧
    PySem.W.findIn X.K (.ref C) n = some none ∧ H2 a = some (exo a C (some dx)) ∧ H2 dx = some (exd dx fs) ∧ fs.lookup n = some y ∧ Q y H2
    | _ => False) I1 ht) fun us s2 ⟨vs, H2, I2, r, hq⟩ => ?_) hs hpl
  match vs, r, hq with
  | [v], r, ⟨n, a, C, dx, fs, y, L2', e1, T, hno, h1, h2, l, q⟩ =>
    refine ⟨lam_at I2 L2', ?_⟩
    subst e1
    obtain ⟨u, rfl, ru⟩ := r.one
    obtain ⟨c, pa, p1, p2, g1, g2⟩ := L2'
    show wpAny _ _ (call (.ref f) [u]) _ _ _
    exact run_lam (CX := CX0) (E := E0) (k := 0) (x := "_law_e") (F := nfL pa c) (tb := tEf X.K n (tVar 0)) I2 nsL rfl (fun _ _ _ => rfl) g1 g2 hr pass0 ru (fun A outer s => pe_ef (pv 0)) ⟨.ref a, rfl, a, C, dx, fs, y, rfl, T, hno, h1, h2, l, q⟩
end K1
namespace K1
open PySem PySem.Spec PyProof.Rows L2 LamX NdefX EV
/-! ### all but the tables of code stay -/
theorem sqL_ext {K : PySem.W.Frag} {H H' : Hp} (k : ExtN H H') {a : Addr} {xs : List V} (h : SqL K H a xs) : SqL K H' a xs := by
  rcases h with (h | ⟨o, h⟩) | h
  · exact .inl (.inl (k _ _ h lst_ne))
  · exact .inl (.inr ⟨o, k _ _ h fun ps z => by cases z⟩)
  · exact .inr h
theorem sqT_ext {K : PySem.W.Frag} {H H' : Hp} (k : ExtN H H') {a : Addr} {xs : List V} (h : SqT K H a xs) : SqT K H' a xs := by
  rcases h with (h | ⟨o, h⟩) | h
  · exact .inl (.inl (k _ _ h tup_ne))
  · exact .inl (.inr ⟨o, k _ _ h fun ps z => by cases z⟩)
  · exact .inr h
mutual
theorem dq_ext {K : PySem.W.Frag} {H H' : Hp} (k : ExtN H H') : ∀ {v : V} {d : PyData}, Dq K H v d → Dq K H' v d
  | _, _, .non => .non
  | _, _, .bl b => .bl b
  | _, _, .int i => .int i
  | _, _, .str x => .str x
  | _, _, .lst hs ne ha => .lst (sqL_ext k hs) ne (dqAll_ext k ha)
  | _, _, .tup hs ha => .tup (sqT_ext k hs) (dqAll_ext k ha)
  | _, _, .dct he ha => .dct (k _ _ he fun ps z => by cases z) (dqAll_ext k ha)
theorem dqAll_ext {K : PySem.W.Frag} {H H' : Hp} (k : ExtN H H') : ∀ {vs : List V} {ds : List PyData}, DqAll K H vs ds → DqAll K H' vs ds
  | _, _, .nil => .nil
  | _, _, .cons h t => .cons (dq_ext k h) (dqAll_ext k t)
end
theorem Th.ext {K : PySem.W.Frag} {H H' : Hp} {v : V} {d : PyData} (t : Th K H v d) (k : ExtN H H') : Th K H' v d := ⟨dq_ext k t.dq, t.ls, t.bk, t.sh, t.dp⟩
theorem StreamAt.ext {H H' : Hp} {S L : Addr} {c : Nat} (h : StreamAt H S L c) (k : ExtN H H') : StreamAt H' S L c := by
  obtain ⟨ns, a, m, h1, h2, r⟩ := h
  exact ⟨ns, a, m, k _ _ h1 lst_ne, k _ _ h2 lst_ne, r⟩
theorem tabs_kept {T : List (Addr × Str)} {H H' : Hp} {S L : Addr} {c : Nat} (t : Tabs T H) (hs : StreamAt H S L c) (k : Kept S L H H') : Tabs T H' := fun q hq => by
  obtain ⟨ns, a, m, hS, hL, _⟩ := hs
  obtain ⟨ps, h1, h2, h3⟩ := t q hq
  have off : ∀ {b : Addr} {o : HO}, H b = some o → (∀ xs, o ≠ .lst xs) → H' b = some o := fun {b o} e n => k b o e (fun z => by
    rw [z, hS] at e
    exact n _ (Option.some.inj e).symm) fun z => by
    rw [z, hL] at e
    exact n _ (Option.some.inj e).symm
  refine ⟨ps, off h1 fun xs z => (by cases z), h2, fun pos cv hc => ?_⟩
  obtain ⟨x, e1, e2⟩ := h3 pos cv hc
  refine ⟨x, e1, off e2 fun xs z => ?_⟩
  unfold CodeO at z
  cases z
theorem tabs_same {T : List (Addr × Str)} {H H' : Hp} (t : Tabs T H) (k : Same H H') : Tabs T H' := t.ext k
/-! ### the errors without fields -/
def BareRow (ca : Nat → Addr) (H : Hp) (t : Addr) : Prop := ∃ (i : Nat) (e : Addr), i < 21 ∧ H t = some (.tup [.int (i : Int), .ref e]) ∧ ErrAt H e (ca i) []
theorem BareRow.on {ca : Nat → Addr} {H H' : Hp} {t : Addr} (h : BareRow ca H t) (k : Same H H') : BareRow ca H' t := by
  obtain ⟨i, e, hi, h1, h2⟩ := h
  exact ⟨i, e, hi, k _ _ h1, EV.ErrAt.on h2 k⟩
def spBares (ca : Nat → Addr) : Sp := fun vs H Q _ => vs = [] ∧ ∀ (p : Addr) (ts : List Addr) (H' : Hp), ts.length ≤ 16 → Same H H' → H' p = some (.lst (ts.map V.ref)) → (∀ t ∈ ts, BareRow ca H' t) → Q (.ref p) H'
structure Cl0 (P : Program) (w : World) (K : PySem.W.Frag) (mg : Str → Option Value) (base : Heap) (C : Addr) : Prop where
  ox : OexC K C
  fn : ∃ (f : Addr) (fd : FuncData), PySem.W.findIn K (.ref C) "__init__" = some (some (.ref f)) ∧ PySem.W.typeIn K (.ref f) = some (.type "function") ∧ FnOk P w K mg base CX0 1 f fd ["self"] (spI0 K) ∧ L2.Binds K fd ["self"] []
section
variable {P : Program} {w : World} {K : PySem.W.Frag} {mg : Str → Option Value} {base : Heap} {ca : Nat → Addr} {f : Addr} {fd : FuncData} {X : Cx}
theorem pe_new0 {C : Addr} {x : Str} {p pos : Pos} (Z : Cl0 X.prog X.w X.K X.mg X.base C) (hr : Room 2 X.A) (hg : Gl X x) (hm : X.mg x = some (.ref C)) (hdb : (x == ("__debug__" : Str)) = false := by decide) :
    PE X (.Call (.Name x p) [] [] pos) (tMkE C (spI0 X.K) E0 tNil) := by
  obtain ⟨f, fd, h1, h2, h3, h4⟩ := Z.fn
  exact pe_mkE0 Z.ox h1 h2 h3 hr h4 pass0 hg hm hdb
theorem scBares : FnScope [] [] (defScope sBares) := ⟨rfl, rfl, rfl, by decide +kernel, rfl, by decide +kernel, by decide +kernel⟩
/-- a row is made -/
theorem bare_step {H : Hp} {i : Nat} {e t : Addr} {ts : List Addr} {H1 : Hp} (hi : i < 21) (s : Same H H1) (r : ∀ u ∈ ts, BareRow ca H1 u) (h1 : H1 e = none) (h2 : upd H1 e (exo e (ca i) none) t = none) :
    Same H (upd (upd H1 e (exo e (ca i) none)) t (.tup [.int (i : Int), .ref e])) ∧ ∀ u ∈ ts ++ [t], BareRow ca (upd (upd H1 e (exo e (ca i) none)) t (.tup [.int (i : Int), .ref e])) u := by
  have sm := (same_new (o := exo e (ca i) none) h1).trans (same_new (o := .tup [.int (i : Int), .ref e]) h2)
  refine ⟨s.trans sm, fun u hu => ?_⟩
  rcases List.mem_append.mp hu with z | z
  · exact (r u z).on sm
  · rw [List.mem_singleton.mp z]
    exact ⟨i, e, hi, upd_same, .inl ⟨rfl, (upd_ne (ne_of_none upd_same h2)).trans upd_same⟩⟩
theorem ok_bares (F : Fun K "_law_bares" "_law_bares" sBares f fd) (T : Tg mg ca) (z10 : Cl0 P w K mg base (ca 10)) (z15 : Cl0 P w K mg base (ca 15)) (z17 : Cl0 P w K mg base (ca 17)) (z19 : Cl0 P w K mg base (ca 19)) : FnOk P w K mg base CX0 3 f fd [] (spBares ca) := by
  refine F.ok scBares (fun vs H Q E h => ?_) (fun cdv A outer s H vs Q E hr h => ?_)
  · obtain ⟨rfl, _⟩ := h
    rfl
  · obtain ⟨rfl, k⟩ := h
    refine ⟨_, pss_one (ps_ret (pe_lst (pa_cons (pe_tup (pa_cons pe_int (pa_cons (pe_new0 z10 hr (by rfl) (T.g 10 (by decide))) pa_nil))) (pa_cons (pe_tup (pa_cons pe_int (pa_cons (pe_new0 z15 hr (by rfl) (T.g 15 (by decide))) pa_nil)))
      (pa_cons (pe_tup (pa_cons pe_int (pa_cons (pe_new0 z17 hr (by rfl) (T.g 17 (by decide))) pa_nil))) (pa_cons (pe_tup (pa_cons pe_int (pa_cons (pe_new0 z19 hr (by rfl) (T.g 19 (by decide))) pa_nil))) pa_nil)))))), ?_⟩
    have r0 : ∀ u ∈ ([] : List Addr), BareRow ca H u := fun _ h => (nomatch h)
    refine ⟨(by show 0 ≤ 1000; decide), fun e1 h1 => ⟨e1, ca 10, rfl, z10.ox, upd_same, rfl, (by show 2 ≤ sizeLine; decide), fun t1 g1 => ?_⟩⟩
    obtain ⟨s1, r1⟩ := bare_step (i := 10) (by decide) (Same.refl H) r0 h1 g1
    refine ⟨(by show 0 ≤ 1000; decide), fun e2 h2 => ⟨e2, ca 15, rfl, z15.ox, upd_same, rfl, (by show 2 ≤ sizeLine; decide), fun t2 g2 => ?_⟩⟩
    obtain ⟨s2, r2⟩ := bare_step (i := 15) (by decide) s1 r1 h2 g2
    refine ⟨(by show 0 ≤ 1000; decide), fun e3 h3 => ⟨e3, ca 17, rfl, z17.ox, upd_same, rfl, (by show 2 ≤ sizeLine; decide), fun t3 g3 => ?_⟩⟩
    obtain ⟨s3, r3⟩ := bare_step (i := 17) (by decide) s2 r2 h3 g3
    refine ⟨(by show 0 ≤ 1000; decide), fun e4 h4 => ⟨e4, ca 19, rfl, z19.ox, upd_same, rfl, (by show 2 ≤ sizeLine; decide), fun t4 g4 => ?_⟩⟩
    obtain ⟨s4, r4⟩ := bare_step (i := 19) (by decide) s3 r3 h4 g4
    refine ⟨(by show 4 ≤ sizeLine; decide), fun p hp => k p [t1, t2, t3, t4] _ (by show 4 ≤ 16; decide) (s4.trans (same_new hp)) upd_same fun u hu => (r4 u hu).on (same_new hp)⟩
end
end K1
namespace K1
open PySem PySem.Spec PyProof.Rows L2 LamX NdefX EV
abbrev sLaw : Stmt := top 32
abbrev nLaw : List Str := ["_law_script", "_law_stream", "_law_turn", "_law_one", "_law_other", "_law_place", "_law_made", "_law_field", "_law_e"]
theorem scLaw : FnScope nLaw ["_law_script"] (defScope sLaw) := ⟨rfl, rfl, rfl, by decide +kernel, rfl, by decide +kernel, by decide +kernel⟩
structure Cl2 (P : Program) (w : World) (K : PySem.W.Frag) (mg : Str → Option Value) (base : Heap) (C : Addr) : Prop where
  ox : OexC K C
  n1 : PySem.W.findIn K (.ref C) "setting" = some none
  n2 : PySem.W.findIn K (.ref C) "literal" = some none
  fn : ∃ (f : Addr) (fd : FuncData), PySem.W.findIn K (.ref C) "__init__" = some (some (.ref f)) ∧ PySem.W.typeIn K (.ref f) = some (.type "function") ∧ FnOk P w K mg base CX0 1 f fd ["self", "setting", "literal"] (spI2 K) ∧ L2.Binds K fd ["self", "setting", "literal"] [] ∧
    ∀ (s : Shared) (self u v : Value), BindsTo s fd ⟨[self], [("literal", u), ("setting", v)]⟩ [("self", self), ("setting", v), ("literal", u)]
section
variable {X : Cx}
theorem pe_new2 {C : Addr} {x : Str} {e1 e2 : Expr} {t1 t2 : TE} {p pos : Pos} (Z : Cl2 X.prog X.w X.K X.mg X.base C) (hr : Room 2 X.A) (hg : Gl X x) (hm : X.mg x = some (.ref C)) (ha : PA X [e1, e2] (tCons t1 (tCons t2 tNil)))
    (hdb : (x == ("__debug__" : Str)) = false := by decide) (hs : starEach (e1 :: [e2]) X.env = (false, eval e1 X.env) :: starEach [e2] X.env := by rfl) (hpl : (backTo pos (starEach [e2] X.env)).any (·.1) = false := by rfl) :
    PE X (.Call (.Name x p) [e1, e2] [] pos) (tMkE C (spI2 X.K) E0 (tCons t1 (tCons t2 tNil))) := by
  obtain ⟨f, fd, h1, h2, h3, h4, h5⟩ := Z.fn
  exact pe_mkE Z.ox h1 h2 h3 hr h4 pass0 hg hm ha hdb hs hpl
theorem pe_new2k {C : Addr} {x : Str} {e1 e2 : Expr} {t1 t2 : TE} {p pos k1 k2 : Pos} (Z : Cl2 X.prog X.w X.K X.mg X.base C) (hr : Room 2 X.A) (hg : Gl X x) (hm : X.mg x = some (.ref C)) (h1 : PE X e1 t1) (h2 : PE X e2 t2) (hdb : (x == ("__debug__" : Str)) = false := by decide) :
    PE X (.Call (.Name x p) [] [⟨some "literal", e1, k1⟩, ⟨some "setting", e2, k2⟩] pos) (tMkEk C 2 (spI2 X.K) E0 List.reverse (tCons t1 (tCons t2 tNil))) := by
  obtain ⟨f, fd, g1, g2, g3, g4, g5⟩ := Z.fn
  refine pe_mkEk (ks := ["literal", "setting"]) (g := List.reverse) (gV := List.reverse) Z.ox g1 g2 g3 hr pass0 (fun s self ws hl => match ws, hl with | [u, v], _ => g5 s self u v) (fun {zs ws} r hl => ?_) hg hm (pk_cons h1 (pk_cons h2 pk_nil)) rfl rfl hdb rfl
  match zs, ws, r with
  | [a, b], [u, v], .cons r1 (.cons r2 .nil) => exact .cons r2 (.cons r1 .nil)
end
theorem pe_fieldcall {Y : Cx} {Kf : PySem.W.Frag} {p1 p2 p3 : Pos} (hr : Room 1 Y.A) (hK : Y.K = Kf := by rfl) (h7 : Y.N[7]? = some ("_law_field" : Str) := by rfl) (h8 : Y.N[8]? = some ("_law_e" : Str) := by rfl)
    (v7 : Vis Y.env.scope "_law_field" := by first | exact Or.inl rfl | exact Or.inr (Or.inl rfl) | exact Or.inr (Or.inr rfl)) (v8 : Vis Y.env.scope "_law_e" := by first | exact Or.inl rfl | exact Or.inr (Or.inl rfl) | exact Or.inr (Or.inr rfl)) :
    PE Y (.Call (.Name "_law_field" p1) [.Name "_law_e" p2] [] p3) (tCallF Kf 7 (tVar 8)) := by
  subst hK
  exact pe_callF (i := 7) hr h7 v7 (pe_var (i := 8) h8 v8)
/-- what the law's walk leans on: the facts of the text -/
structure LawTx (P : Program) (w : World) (K : PySem.W.Frag) (mg : Str → Option Value) (base : Heap) (ca : Nat → Addr) (O : Addr) (T : List (Addr × Str)) : Prop where
  tg : Tg mg ca
  list : mg "list" = none
  range : mg "range" = none
  all : mg "all" = none
  any : mg "any" = none
  ve : mg "ValueError" = none
  oO : mg "OpenError" = some (.ref O)
  thing : ∃ (f : Addr) (fd : FuncData), mg "_law_thing" = some (.ref f) ∧ PySem.W.keepIn K (.ref f) = true ∧ L2.Binds K fd ["_law_stream"] [] ∧ FnOk P w K mg base CX0 3 f fd ["_law_stream"] (spThing K)
  ones : ∃ (f : Addr) (fd : FuncData), mg "_law_ones" = some (.ref f) ∧ PySem.W.keepIn K (.ref f) = true ∧ L2.Binds K fd ["_law_one"] [] ∧ FnOk P w K mg base CX0 3 f fd ["_law_one"] (spOnes K ca T)
  bares : ∃ (f : Addr) (fd : FuncData), mg "_law_bares" = some (.ref f) ∧ PySem.W.keepIn K (.ref f) = true ∧ L2.Binds K fd [] [] ∧ FnOk P w K mg base CX0 3 f fd [] (spBares ca)
  alone : ∃ (f : Addr) (fd : FuncData), mg "_law_is_alone" = some (.ref f) ∧ PySem.W.keepIn K (.ref f) = true ∧ L2.Binds K fd ["_law_e", "_law_place"] [] ∧ FnOk P w K mg base CX0 2 f fd ["_law_e", "_law_place"] (spAlone K ca O)
  clss : ∃ (f : Addr) (fd : FuncData), mg "_law_classes" = some (.ref f) ∧ PySem.W.keepIn K (.ref f) = true ∧ L2.Binds K fd ["_law_e"] [] ∧ FnOk P w K mg base CX0 1 f fd ["_law_e"] (spClasses K ca)
  same : ∃ (f : Addr) (fd : FuncData), mg "_law_same" = some (.ref f) ∧ PySem.W.keepIn K (.ref f) = true ∧ L2.Binds K fd ["_law_found", "_law_due"] [] ∧ FnG P w K mg base 1 f fd ["_law_found", "_law_due"] (spSame K)
  blind : Cl2 P w K mg base (ca 9)
  ec : ∀ i, i < 21 → ExcC K (ca i) ∧ XfC K (ca i) ∧ KitAll K ca (ca i) (fun j => decide (j = i)) ∧ PySem.W.kitOne K (.ref (ca i)) (.ref O) = some true ∧ PySem.W.kitOne K (.ref (ca i)) (.type "ValueError") = some true
  eO : ExcC K O ∧ KitAll K ca O (fun _ => false) ∧ PySem.W.kitOne K (.ref O) (.type "ValueError") = some true ∧ PySem.W.keepIn K (.ref O) = true
  xO : ∃ bmB : List Value, ExcBaseFacts "ValueError" "ValueError.__new__" "ValueError.__init__" bmB ∧ PySem.W.excIn K O bmB "ValueError.__new__" = true
/-- an error of two fields is made -/
def mk2 (C : Addr) (v1 v2 : V) (a x : Addr) (H : Hp) : Hp := upd (upd (upd (upd H a (exo a C none)) x (exd x [("setting", v1)])) a (exo a C (some x))) x (exd x [("literal", v2), ("setting", v1)])
theorem mk2_same {C : Addr} {v1 v2 : V} {a x : Addr} {H : Hp} (h1 : H a = none) (h2 : upd H a (exo a C none) x = none) (ne : x ≠ a) : Same H (mk2 C v1 v2 a x H) := fun b o e => by
  have nd : H x = none := (upd_ne ne).symm.trans h2
  exact (upd_ne (ne_of_none e nd)).trans ((upd_ne (ne_of_none e h1)).trans ((upd_ne (ne_of_none e nd)).trans ((upd_ne (ne_of_none e h1)).trans e)))
def Blinded (ca : Nat → Addr) (v1 v2 : V) (H : Hp) (e : Addr) : Prop := ∃ x, H e = some (exo e (ca 9) (some x)) ∧ H x = some (exd x [("literal", v2), ("setting", v1)])
theorem Blinded.on {ca : Nat → Addr} {v1 v2 : V} {H H' : Hp} {e : Addr} (b : Blinded ca v1 v2 H e) (k : Same H H') : Blinded ca v1 v2 H' e := by
  obtain ⟨x, h1, h2⟩ := b
  exact ⟨x, k _ _ h1, k _ _ h2⟩
theorem mk2_at {ca : Nat → Addr} {v1 v2 : V} {a x : Addr} {H : Hp} (ne : x ≠ a) : Blinded ca v1 v2 (mk2 (ca 9) v1 v2 a x H) a := ⟨x, (upd_ne ne.symm).trans upd_same, upd_same⟩
def spLaw (K : PySem.W.Frag) (T : List (Addr × Str)) : Sp := fun vs H Q _ => ∃ (a : Addr) (ns : List Int), vs = [.ref a] ∧ SqL K H a (ns.map V.int) ∧ ns.length ≤ 63 ∧ Tabs T H ∧ ∀ H', Q (.bl true) H'
section
variable {P : Program} {w : World} {K : PySem.W.Frag} {mg : Str → Option Value} {base : Heap} {ca : Nat → Addr} {O : Addr} {T : List (Addr × Str)} {f : Addr} {fd : FuncData}
theorem ok_law (F : Fun K "law" "law" sLaw f fd) (L : LawTx P w K mg base ca O T) : FnG P w K mg base 4 f fd ["_law_script"] (spLaw K T) := by
  refine fng_of F scLaw (fun vs H Q E h => ?_) (fun cdv A outer s H vs Q E gd hr h => ?_)
  · obtain ⟨a, ns, rfl, _⟩ := h
    rfl
  · obtain ⟨a, ns, rfl, hA, hn, hT, k⟩ := h
    obtain ⟨fT, dT, mT, kT, bT, GT⟩ := L.thing
    obtain ⟨fO, dO, mO, kO, bO, GO⟩ := L.ones
    obtain ⟨fB, dB, mB, kB, bB, GB⟩ := L.bares
    obtain ⟨fA, dA, mA, kA, bA, GA⟩ := L.alone
    obtain ⟨fC, dC, mC, kC, bC, GC⟩ := L.clss
    obtain ⟨fS, dS, mS, kS, bS, GS⟩ := L.same
    obtain ⟨bmB, FB, xO⟩ := L.xO
    have hr2 : Room 2 _ := hr.mono (by decide)
    have hr1 : Room 1 _ := hr.mono (by decide)
    refine ⟨_, pss_cons (ps_set (i := 1) scLaw.nd rfl (.inl rfl) (pe_lst (pa_cons (pe_callTy call_list_of (by rfl) L.list (by decide +kernel) (pa_cons (pv 0) pa_nil)) (pa_cons pe_int (pa_cons pe_int (pa_cons pe_int pa_nil))))))
      (pss_cons (ps_for PassesOwn.never rfl (pi_range1 (by rfl) L.range (pa_cons pe_int pa_nil)) (pg_name (i := 2) scLaw.nd rfl (.inl rfl))
        (pss_cons (ps_asg (pe_tup (pa_cons (pe_call GT hr (by rfl) mT kT bT .nil pass0 (pa_cons (pv 1) pa_nil)) (pa_cons (pe_call GT hr (by rfl) mT kT bT .nil pass0 (pa_cons (pv 1) pa_nil)) pa_nil)))
          (pg_tup rfl (pgs_cons (pg_name (i := 3) scLaw.nd rfl (.inr rfl)) (pgs_cons (pg_name (i := 4) scLaw.nd rfl (.inl rfl)) pgs_nil))))
        (pss_cons (ps_for PassesOwn.never rfl (pi_list (pe_call GO hr (by rfl) mO kO bO .nil pass0 (pa_cons (pv 3) pa_nil))) (pg_tup rfl (pgs_cons (pg_name (i := 5) scLaw.nd rfl (.inr rfl)) (pgs_cons (pg_name (i := 6) scLaw.nd rfl (.inl rfl)) (pgs_cons (pg_name (i := 7) scLaw.nd rfl (.inr rfl)) pgs_nil))))
          (pss_one (ps_if (pt_not (pt_val (pe_callB (cr_all rfl) (by rfl) L.all (by decide +kernel) (pa_cons (pe_lc (own := [("_law_e", 8)]) (g := gName 8) (tt := tYes) rfl scLaw.nd (pi_list (pv 6)) (blkOk_by (N := nLaw) (sc := defScope sLaw) (by decide +kernel))
            (fun _ _ _ _ _ => pg_name (i := 8) scLaw.nd rfl (.inl rfl)) (fun _ _ _ _ _ => pts_nil)
            (fun _ _ _ _ _ => pe_and (pe_call GA hr2 (by rfl) mA kA bA .nil pass0 (pa_cons (pv 8) (pa_cons (pv 5) pa_nil))) (pe_one (pe_callG GS gd hr1 (by rfl) mS kS bS (pa_cons (pe_fieldcall (Kf := K) hr1) (pa_cons (pv 3) pa_nil)))))) pa_nil)))) (pss_one (ps_ret pe_bl)) pss_nil)))
        (pss_cons (ps_for PassesOwn.never rfl (pi_list (pe_call0 GB hr (by rfl) mB kB bB .nil pass0)) (pg_tup rfl (pgs_cons (pg_name (i := 5) scLaw.nd rfl (.inr rfl)) (pgs_cons (pg_name (i := 8) scLaw.nd rfl (.inl rfl)) pgs_nil)))
          (pss_one (ps_if (pt_not (pt_val (pe_call GA hr2 (by rfl) mA kA bA .nil pass0 (pa_cons (pv 8) (pa_cons (pv 5) pa_nil))))) (pss_one (ps_ret pe_bl)) pss_nil)))
        (pss_one (ps_for PassesOwn.never rfl (pi_tup (pe_tup (pa_cons (pe_new2 L.blind hr2 (by rfl) (L.tg.g 9 (by decide)) (pa_cons (pv 3) (pa_cons (pv 4) pa_nil))) (pa_cons (pe_new2k L.blind hr2 (by rfl) (L.tg.g 9 (by decide)) (pv 4) (pv 3)) pa_nil)))) (pg_name (i := 8) scLaw.nd rfl (.inl rfl))
          (pss_one (ps_if (PW.pt (pw_or (pt_not (pt_val (pe_call GA hr2 (by rfl) mA kA bA .nil pass0 (pa_cons (pv 8) (pa_cons pe_int pa_nil))))) (pw_or1 (pt_not (pt_val (pe_callG GS gd hr1 (by rfl) mS kS bS (pa_cons (pe_lstB (pa_cons (pe_ef (pv 8)) (pa_cons (pe_ef (pv 8)) pa_nil))) (pa_cons (pe_lstB (pa_cons (pv 3) (pa_cons (pv 4) pa_nil))) pa_nil)))))))) (pss_one (ps_ret pe_bl)) pss_nil))))))))
      (pss_one (ps_ret (pe_and (pe_callB call_isX (by rfl) L.tg.isi (by decide +kernel) (pa_cons (pe_exc0 FB xO L.oO L.eO.2.2.2 (by rfl)) (pa_cons (pe_bltn (v := .ty "ValueError") (by rfl) L.ve (by decide +kernel) rfl) pa_nil)))
        (pe_one (pe_not (pe_callB (cr_any rfl) (by rfl) L.any (by decide +kernel) (pa_cons (pe_call GC hr1 (by rfl) mC kC bC .nil pass0 (pa_cons (pe_exc0 FB xO L.oO L.eO.2.2.2 (by rfl)) pa_nil)) pa_nil)))))))), ?_⟩
    -- the stream
    refine ⟨_, rfl, a, _, rfl, .inl hA, fun l0 hl0 => ⟨(by show 4 ≤ sizeLine; decide), fun S hS => ?_⟩⟩
    have hSl : StreamAt (upd (upd H l0 (.lst (ns.map V.int))) S (.lst [.ref l0, .int 0, .int 0, .int 0])) S l0 0 := ⟨ns, 0, 0, upd_same, (upd_ne (ne_of_none upd_same hS)).trans upd_same, by decide, by decide, by decide, hn⟩
    have hTl := tabs_same hT ((same_new (o := .lst (ns.map V.int)) hl0).trans (same_new (o := .lst [.ref l0, .int 0, .int 0, .int 0]) hS))
    generalize upd (upd H l0 (.lst (ns.map V.int))) S (.lst [.ref l0, .int 0, .int 0, .int 0]) = HA at hSl hTl ⊢
    -- three turns
    refine ⟨3, rfl, by decide, by decide, for_range (lo := 0) (n := 3) (fun i σ H2 => ∃ (c : Nat) (o2 o3 o4 o5 o6 o7 o8 : Option V), σ = [some (.ref a), some (.ref S), o2, o3, o4, o5, o6, o7, o8] ∧ StreamAt H2 S l0 c ∧ c ≤ 12 * i ∧ Tabs T H2)
      ⟨0, _, _, _, _, _, _, _, rfl, hSl, Nat.zero_le _, hTl⟩ ?_ ?_⟩
    · rintro i σ H2 hi ⟨c, o2, o3, o4, o5, o6, o7, o8, rfl, hS2, hc, hT2⟩
      -- two things
      refine ⟨_, rfl, S, l0, c, rfl, by omega, hS2, fun v1 d1 c1 H3 hc1 hS3 hk3 th1 => ?_⟩
      refine ⟨_, rfl, S, l0, c1, rfl, by omega, hS3, fun v2 d2 c2 H4 hc2 hS4 hk4 th2 => ?_⟩
      have hT4 := tabs_kept (tabs_kept hT2 hS2 hk3) hS3 hk4
      have tA : Th K H4 v1 d1 := (th1.same (cut_kept hk4)).same cut_sub
      have tB : Th K H4 v2 d2 := th2.same cut_sub
      refine ⟨(by show 2 ≤ sizeLine; decide), fun t ht => ⟨t, _, rfl, SqT.of upd_same, rfl, _, _, rfl, _, _, rfl, rfl, ?_⟩⟩
      have sT := same_new (o := .tup [v1, v2]) ht
      have hS5 := hS4.ext (extN_of sT)
      have hT5 := tabs_same hT4 sT
      have tA5 := tA.same sT
      have tB5 := tB.same sT
      generalize upd H4 t (.tup [v1, v2]) = H5 at hS5 hT5 tA5 tB5 ⊢
      -- the rows of errors with one field
      refine ⟨_, rfl, v1, rfl, hT5, fun p ts H6 hts eN6 hT6 hp6 hrows => ⟨p, rfl, ⟨_, SqL.of hp6⟩, for_list (K := K) (a := p) (xs := ts.map V.ref) (fun j σ H7 => ∃ (o5 o6 o7 o8 : Option V), σ = [some (.ref a), some (.ref S), some (.int (0 + (i : Int))), some v1, some v2, o5, o6, o7, o8] ∧ ExtN H6 H7 ∧ Tabs T H7)
        ⟨_, _, _, _, rfl, ExtN.refl _, hT6⟩ (fun j σ H7 _ ⟨_, _, _, _, _, e7, _⟩ => sqL_ext e7 (SqL.of hp6)) ?_ ?_⟩⟩
      · rintro j y σ H7 hj ⟨p5, p6, p7, p8, rfl, e7, hT7⟩
        obtain ⟨t', ht', rfl⟩ : ∃ t' ∈ ts, y = V.ref t' := by
          obtain ⟨t', h1, h2⟩ := List.mem_map.mp (List.mem_of_getElem? hj)
          exact ⟨t', h1, h2.symm⟩
        obtain ⟨q, n, l, fl, e1, e2, hq, hnq, r1, r2, r3, r4, r5⟩ := (hrows t' ht').on e7
        obtain ⟨eC, xC, kC1, kC2, kC3⟩ := L.ec q hq
        have tA7 := (tA5.ext eN6).ext e7
        refine ⟨t', _, rfl, SqT.of r1, rfl, _, _, rfl, _, _, rfl, _, _, rfl, rfl, ?_⟩
        refine ⟨_, rfl, l, rfl, ⟨_, SqL.of r2⟩, fun D hD => lc_list (K := K) (a := l) (xs := [.ref e1, .ref e2]) (fun b H8 => ExtN H7 H8 ∧ Tabs T H8 ∧ H8 D = some (.lst (List.replicate b (V.bl true))))
          ⟨extN_of (same_new hD), tabs_same hT7 (same_new hD), upd_same⟩ (fun b H8 _ ⟨e8, _, _⟩ => sqL_ext e8 (SqL.of r2)) ?_ ?_⟩
        · rintro b y H8 hb ⟨e8, hT8, hD8⟩
          obtain ⟨e, rfl, dx, w1, w2⟩ : ∃ e, y = V.ref e ∧ OneErr ca H8 e q n v1 := by
            match b, hb with
            | 0, hb => cases hb; exact ⟨e1, rfl, r4.on e8⟩
            | 1, hb => cases hb; exact ⟨e2, rfl, r5.on e8⟩
            | b + 2, hb => simp at hb
          have hb2 : b < 2 := (List.getElem?_eq_some_iff.mp hb).1
          refine ⟨rfl, _, rfl, _, rfl, e, ca q, [(n, v1)], q, rfl, hq, .inr ⟨dx, w1, w2⟩, eC, kC1, kC2, kC3, fun H9 sm9 => ⟨true, rfl, ?_⟩⟩
          have r9 := (r3.on e8).on (extN_of sm9)
          have tA9 := (tA7.ext e8).same sm9
          refine ⟨fl, rfl, ⟨n, r9⟩, _, rfl, n, e, ca q, dx, _, v1, r9, rfl, xC, hnq, sm9 _ _ w1, sm9 _ _ w2, (by simp [List.lookup]), _, rfl, v1, v1, d1, rfl, tA9.dq, tA9.dq, tA9.sh, tA9.fits, (by have z := tA9.dp; omega), _, sm9 _ _ hD8, ?_, fun b o z nk => (upd_ne (ne_of_none z hD)).trans (sm9 _ _ (e8 b o z nk)), tabs_on (tabs_same hT8 sm9) (sm9 _ _ hD8) (fun b o nb z => (upd_ne nb).trans z), ?_⟩
          · rw [List.length_replicate, sizeLine_eq]
            omega
          · rw [upd_same, List.replicate_succ']
        · rintro H8 ⟨e8, hT8, hD8⟩
          refine ⟨D, [true, true], rfl, SqL.of hD8, _, rfl, ?_⟩
          exact ⟨_, _, _, _, rfl, ExtN.trans e7 e8, hT8⟩
      · rintro σ H7 ⟨p5, p6, p7, p8, rfl, e7, hT7⟩
        have hS7 := (hS5.ext eN6).ext e7
        have tA7 := (tA5.ext eN6).ext e7
        have tB7 := (tB5.ext eN6).ext e7
        -- the errors without fields
        refine ⟨rfl, fun p2 ts2 H8 hts2 s8 hp8 hrows2 => ⟨p2, rfl, ⟨_, SqL.of hp8⟩, for_list (K := K) (a := p2) (xs := ts2.map V.ref) (fun j σ H9 => ∃ (o5 o6 o7 o8 : Option V), σ = [some (.ref a), some (.ref S), some (.int (0 + (i : Int))), some v1, some v2, o5, o6, o7, o8] ∧ Same H8 H9)
          ⟨_, _, _, _, rfl, Same.refl _⟩ (fun j σ H9 _ ⟨_, _, _, _, _, e9⟩ => e9.seq (SqL.of hp8)) ?_ ?_⟩⟩
        · rintro j y σ H9 hj ⟨p5, p6, p7, p8, rfl, e9⟩
          obtain ⟨t', ht', rfl⟩ : ∃ t' ∈ ts2, y = V.ref t' := by
            obtain ⟨t', h1, h2⟩ := List.mem_map.mp (List.mem_of_getElem? hj)
            exact ⟨t', h1, h2.symm⟩
          obtain ⟨q, e, hq, r1, r2⟩ := (hrows2 t' ht').on e9
          obtain ⟨eC, xC, kC1, kC2, kC3⟩ := L.ec q hq
          refine ⟨t', _, rfl, SqT.of r1, rfl, _, _, rfl, _, _, rfl, rfl, ?_⟩
          refine ⟨_, rfl, _, rfl, e, ca q, [], q, rfl, hq, r2, eC, kC1, kC2, kC3, fun H10 s10 => ⟨_, rfl, ?_⟩⟩
          exact ⟨_, _, _, _, rfl, e9.trans s10⟩
        · rintro σ H9 ⟨p5, p6, p7, p8, rfl, e9⟩
          have s9 := s8.trans e9
          have hS9 := hS7.ext (extN_of s9)
          have hT9 := tabs_same hT7 s9
          have tA9 := tA7.same s9
          have tB9 := tB7.same s9
          -- the two blind ones
          refine ⟨_, rfl, _, rfl, (by show 2 ≤ 1000; decide), fun a1 g1 => ⟨a1, ca 9, v1, v2, rfl, L.blind.ox, L.blind.n1, L.blind.n2, upd_same, fun x1 k1 m1 => ⟨rfl, _, rfl, _, rfl, rfl, fun a2 g2 => ⟨a2, ca 9, v1, v2, rfl, L.blind.ox, L.blind.n1, L.blind.n2, upd_same, fun x2 k2 m2 => ⟨rfl, (by show 2 ≤ sizeLine; decide), fun t2 kt => ?_⟩⟩⟩⟩⟩
          have b1 := mk2_same (v1 := v1) (v2 := v2) g1 k1 m1
          have b2 := mk2_same (v1 := v1) (v2 := v2) g2 k2 m2
          have b3 := same_new (o := .tup [.ref a1, .ref a2]) kt
          have bl1 : Blinded ca v1 v2 _ a1 := (mk2_at (ca := ca) (v1 := v1) (v2 := v2) (H := H9) m1).on (b2.trans b3)
          have bl2 : Blinded ca v1 v2 _ a2 := (mk2_at (ca := ca) (v1 := v1) (v2 := v2) m2).on b3
          have s10 := (b1.trans b2).trans b3
          refine ⟨t2, rfl, ⟨_, SqT.of upd_same⟩, for_tup (K := K) (a := t2) (xs := [.ref a1, .ref a2]) (fun j σ H11 => ∃ (o5 o6 o7 o8 : Option V), σ = [some (.ref a), some (.ref S), some (.int (0 + (i : Int))), some v1, some v2, o5, o6, o7, o8] ∧ Same _ H11)
            ⟨_, _, _, _, rfl, Same.refl _⟩ (fun j σ H11 _ ⟨_, _, _, _, _, e11⟩ => SqT.of (e11 _ _ upd_same)) ?_ ?_⟩
          · rintro j y σ H11 hj ⟨p5, p6, p7, p8, rfl, e11⟩
            obtain ⟨e, rfl, x, w1, w2⟩ : ∃ e, y = V.ref e ∧ Blinded ca v1 v2 H11 e := by
              match j, hj with
              | 0, hj => cases hj; exact ⟨a1, rfl, bl1.on e11⟩
              | 1, hj => cases hj; exact ⟨a2, rfl, bl2.on e11⟩
              | j + 2, hj => simp at hj
            obtain ⟨eC, xC, kC1, kC2, kC3⟩ := L.ec 9 (by decide)
            refine ⟨_, rfl, e, ca 9, _, 9, rfl, by decide, .inr ⟨x, w1, w2⟩, eC, kC1, kC2, kC3, fun H12 s12 => ⟨_, rfl, ?_⟩⟩
            refine ⟨_, rfl, e, ca 9, x, _, v1, rfl, xC, L.blind.n1, s12 _ _ w1, s12 _ _ w2, rfl, _, rfl, e, ca 9, x, _, v2, rfl, xC, L.blind.n2, s12 _ _ w1, s12 _ _ w2, rfl, (by show 2 ≤ sizeLine; decide), fun L1 hL1 nL1 => ⟨_, rfl, _, rfl, (by show 2 ≤ sizeLine; decide), fun L2' hL2 nL2 => ?_⟩⟩
            have sa := same_new (o := .lst [v1, v2]) hL1
            have sb := same_new (o := .lst [v1, v2]) hL2
            have tAZ := ((((tA9.same s10).same e11).same s12).same sa).same sb
            have tBZ := ((((tB9.same s10).same e11).same s12).same sa).same sb
            have zb := tAZ.bk
            have zc := tBZ.bk
            have zd := tAZ.dp
            have ze := tBZ.dp
            refine ⟨.ref L1, .ref L2', .list [d1, d2], rfl, .lst (SqL.of (sb _ _ upd_same)) nL1 (.cons tAZ.dq (.cons tBZ.dq .nil)), .lst (SqL.of upd_same) nL2 (.cons tAZ.dq (.cons tBZ.dq .nil)), ?_, ?_, ?_, _, rfl, ?_⟩
            · simp only [PyData.showable, PyData.showableAll, tAZ.sh, tBZ.sh, Bool.and_self]
            · have z := PyData.shown_le_bulk 40 (by decide) (.list [d1, d2]) (by simp only [PyData.leavesShort, PyData.leavesShortAll, tAZ.ls, tBZ.ls, Bool.and_self])
              simp only [PyData.bulk, PyData.bulkAll] at z
              rw [sizeLine_eq]
              omega
            · simp only [PyData.depth, PyData.depthAll]
              omega
            · exact ⟨_, _, _, _, rfl, e11.trans (s12.trans (sa.trans sb))⟩
          · rintro σ H11 ⟨p5, p6, p7, p8, rfl, e11⟩
            have sz := s10.trans e11
            exact ⟨c2, _, _, _, _, _, _, _, rfl, hS9.ext (extN_of sz), by omega, tabs_same hT9 sz⟩
    · rintro σ H2 ⟨c, o2, o3, o4, o5, o6, o7, o8, rfl, hS2, hc, hT2⟩
      -- OpenError itself
      obtain ⟨eC, kO1, kO2, _⟩ := L.eO
      refine fun e he => ⟨e, O, [], _, _, _, rfl, .inl ⟨rfl, upd_same⟩, .ty _, eC, kO2, _, rfl, ?_⟩
      refine fun e2 he2 => ⟨e2, O, [], fun _ => false, rfl, .inl ⟨rfl, upd_same⟩, eC, kO1, fun p H' sm hp => ⟨p, _, rfl, SqL.of hp, _, rfl, ?_⟩⟩
      exact k H'
end
end K1
namespace K1
open PySem PySem.Spec PyProof.Rows L2 LamX NdefX EV
/-! ### what the written part says of the classes, looked up at one go -/
def fields : List Str := ["index", "n", "name", "level", "setting", "literal"]
def excB (K : PySem.W.Frag) (D : Addr) : Bool :=
  decide (PySem.W.findIn K (.ref D) "__getattribute__" = some (some (.builtin "BaseException.__getattribute__"))) && decide (PySem.W.findIn K (.ref D) "__getattr__" = some none) && decide (PySem.W.subIn K (.ref D) (.type "BaseException") = some true) && PySem.W.hasDictIn K D &&
  decide (PySem.W.findIn K (.ref D) "__class__" = some (some (.builtin "object.__class__"))) && decide (PySem.W.specialIn K (.builtin "object.__class__") "__get__" = some (some (.builtin "getset_descriptor.__get__"))) && decide (PySem.W.takesIn K (.builtin "object.__class__") = some true) &&
  decide (PySem.W.mroIn K D (.type "object") = some true)
theorem excB_ok {K : PySem.W.Frag} {D : Addr} (h : excB K D = true) : ExcC K D ∧ XfC K D := by
  unfold excB at h
  simp only [Bool.and_eq_true, decide_eq_true_eq] at h
  obtain ⟨⟨⟨⟨⟨⟨⟨h1, h2⟩, h3⟩, h4⟩, h5⟩, h6⟩, h7⟩, h8⟩ := h
  exact ⟨⟨h1, h2, h3, h4, h5, h6, h7, h8⟩, ⟨h1, h2, h3, h4⟩⟩
def clsB (K : PySem.W.Frag) (O C f : Addr) : Bool :=
  excB K C && decide (PySem.W.findIn K (.ref C) "__setattr__" = some (some (.builtin "object.__setattr__"))) && decide (PySem.W.typeIn K (.ref C) = some (.type "type")) && PySem.W.keepIn K (.ref C) && decide (PySem.W.findIn K (.ref C) "__init__" = some (some (.ref f))) &&
  decide (PySem.W.typeIn K (.ref f) = some (.type "function")) && fields.all (fun n => decide (PySem.W.findIn K (.ref C) n = some none)) && decide (PySem.W.kitOne K (.ref C) (.ref O) = some true) && decide (PySem.W.kitOne K (.ref C) (.type "ValueError") = some true)
theorem cls_mk {K : PySem.W.Frag} {C N : Addr} {nm q : Str} {bs bm sub : List Value} {sn : List Str} {ab : Bool} {col : Option Bool} {dd : Option Addr} {k0 k1 k2 k3 k5 : Option Value} (h : K.lookup C = some (excClassObj nm q C N bs bm true sn sub ab col dd k0 k1 k2 k3 k5 "ValueError.__new__")) (r : PySem.HandSPX.refsVE bm = true) :
    ∃ nm q N bs bm sn sub ab col dd k0 k1 k2 k3 k5, K.lookup C = some (excClassObj nm q C N bs bm true sn sub ab col dd k0 k1 k2 k3 k5 "ValueError.__new__") ∧ PySem.HandSPX.refsVE bm = true := ⟨nm, q, N, bs, bm, sn, sub, ab, col, dd, k0, k1, k2, k3, k5, h, r⟩
theorem ones_mk {K : PySem.W.Frag} {f c : Addr} {oc kV doc pm ct : Value} {od an : Option Addr} {osl : Array (Option Value)} (h : K.lookup f = some ⟨oc, od, .func (PySem.W.fnOf "_law_ones" "_law_ones" (defArgs sOnes) (defBody sOnes) (defScope sOnes) .none kV doc pm an (.ref c) ct), osl⟩) :
    ∃ (oc kV doc pm ct : Value) (od an : Option Addr) (osl : Array (Option Value)), K.lookup f = some ⟨oc, od, .func (PySem.W.fnOf "_law_ones" "_law_ones" (defArgs sOnes) (defBody sOnes) (defScope sOnes) .none kV doc pm an (.ref c) ct), osl⟩ := ⟨oc, kV, doc, pm, ct, od, an, osl, h⟩
/-- an own error class at C, its __init__ at f -/
structure KCls (K : PySem.W.Frag) (O C f : Addr) : Prop where
  ox : OexC K C
  ec : ExcC K C
  xf : XfC K C
  ini : PySem.W.findIn K (.ref C) "__init__" = some (some (.ref f))
  ty : PySem.W.typeIn K (.ref f) = some (.type "function")
  no : ∀ n ∈ fields, PySem.W.findIn K (.ref C) n = some none
  kO : PySem.W.kitOne K (.ref C) (.ref O) = some true
  kV : PySem.W.kitOne K (.ref C) (.type "ValueError") = some true
theorem kcls {K : PySem.W.Frag} {O C f : Addr} (h : clsB K O C f = true) (x : ∃ nm q N bs bm sn sub ab col dd k0 k1 k2 k3 k5, K.lookup C = some (excClassObj nm q C N bs bm true sn sub ab col dd k0 k1 k2 k3 k5 "ValueError.__new__") ∧ PySem.HandSPX.refsVE bm = true) : KCls K O C f := by
  unfold clsB at h
  simp only [Bool.and_eq_true, decide_eq_true_eq, List.all_eq_true] at h
  obtain ⟨⟨⟨⟨⟨⟨⟨⟨h1, h2⟩, h3⟩, h4⟩, h5⟩, h6⟩, h7⟩, h8⟩, h9⟩ := h
  obtain ⟨e1, e2⟩ := excB_ok h1
  exact ⟨⟨x, h2, e1.hs, h3, h4⟩, e1, e2, h5, h6, h7, h8, h9⟩
def kitsB (K : PySem.W.Frag) (cs : List Addr) : Bool := (List.range 21).all fun i => (List.range 21).all fun j => decide (PySem.W.kitOne K (.ref (cs.getD i 0)) (.ref (cs.getD j 0)) = some (decide (j = i)))
theorem kitsB_ok {K : PySem.W.Frag} {cs : List Addr} (h : kitsB K cs = true) (i : Nat) (hi : i < 21) : KitAll K (fun i => cs.getD i 0) (cs.getD i 0) (fun j => decide (j = i)) := fun j hj => by
  unfold kitsB at h
  simp only [List.all_eq_true, List.mem_range, decide_eq_true_eq] at h
  exact h i hi j hj
def baseB (K : PySem.W.Frag) (O : Addr) (cs : List Addr) : Bool :=
  excB K O && PySem.W.readsIn K O (.type "type") && decide (PySem.W.specialIn K (.ref O) "__getattribute__" = some (some (.builtin "type.__getattribute__"))) && (match PySem.W.findCls K (.ref O) (.type "type") "__init__" with
    | some (.val (.builtin id)) => id == "ValueError.__init__"
    | _ => false) && decide (PySem.W.kitOne K (.ref O) (.type "ValueError") = some true) && PySem.W.keepIn K (.ref O) && (List.range 21).all fun j => decide (PySem.W.kitOne K (.ref O) (.ref (cs.getD j 0)) = some false)
theorem baseB_ok {K : PySem.W.Frag} {mg : Str → Option Value} {O : Addr} {cs : List Addr} (h : baseB K O cs = true) (g : mg "OpenError" = some (.ref O)) : OT K mg O ∧ ExcC K O ∧ KitAll K (fun i => cs.getD i 0) O (fun _ => false) ∧ PySem.W.kitOne K (.ref O) (.type "ValueError") = some true ∧ PySem.W.keepIn K (.ref O) = true := by
  unfold baseB at h
  simp only [Bool.and_eq_true, decide_eq_true_eq, List.all_eq_true, List.mem_range] at h
  obtain ⟨⟨⟨⟨⟨⟨h1, h2⟩, h3⟩, h4⟩, h5⟩, h6⟩, h7⟩ := h
  refine ⟨⟨⟨h2, h3⟩, ?_, g⟩, (excB_ok h1).1, fun j hj => h7 j hj, h5, h6⟩
  split at h4
  · rename_i id e
    rw [e, beq_iff_eq.mp h4]
  · cases h4
def freeB (K : PySem.W.Frag) (xs : List Str) : Bool := xs.all fun x => decide (PySem.W.nsIn K mainGlobals x = some none)
theorem freeB_ok {K : PySem.W.Frag} {xs : List Str} {h : Heap} {mg : Str → Option Value} (b : freeB K xs = true) (X : K.In h) (G : h.Ns mainGlobals mg) : ∀ x ∈ xs, mg x = none := fun x hx => by
  unfold freeB at b
  simp only [List.all_eq_true, decide_eq_true_eq] at b
  exact PySem.W.mg_none_of X G (b x hx)
/-- a def of the top: by its name, its object, its code -/
def DefAt (K : PySem.W.Frag) (x : Str) (st : Stmt) (f : Addr) : Prop := PySem.W.nsIn K mainGlobals x = some (some (.ref f)) ∧ ∃ fd, Fun K x x st f fd
section
variable {P : Program} {w : World} {K : PySem.W.Frag} {mg : Str → Option Value} {base : Heap} {O : Addr}
theorem z0 {C f : Addr} {fd : FuncData} (k : KCls K O C f) (T : OT K mg O) (F : Fun K "__init__" "BadNames.__init__" sI0 f fd) : Cl1 P w K mg base C "index" := by
  refine ⟨k.ox, k.no _ (by decide +kernel), f, fd, k.ini, k.ty, ok_i0 F T, F.binds (ps := ["self", "index"]) fun _ _ _ _ _ _ us hl => match us, hl with | [_, _], _ => rfl, fun s self v => ?_⟩
  obtain ⟨oc, od, kV, doc, pm, an, cdv, ct, osl, e, _⟩ := F.ex
  subst e
  exact .of_eq rfl
theorem z1 {C f : Addr} {fd : FuncData} (k : KCls K O C f) (T : OT K mg O) (F : Fun K "__init__" "TooMany.__init__" sI1 f fd) : Cl1 P w K mg base C "n" := by
  refine ⟨k.ox, k.no _ (by decide +kernel), f, fd, k.ini, k.ty, ok_i1 F T, F.binds (ps := ["self", "n"]) fun _ _ _ _ _ _ us hl => match us, hl with | [_, _], _ => rfl, fun s self v => ?_⟩
  obtain ⟨oc, od, kV, doc, pm, an, cdv, ct, osl, e, _⟩ := F.ex
  subst e
  exact .of_eq rfl
theorem z2 {C f : Addr} {fd : FuncData} (k : KCls K O C f) (T : OT K mg O) (F : Fun K "__init__" "BadSetting.__init__" sI2 f fd) : Cl1 P w K mg base C "index" := by
  refine ⟨k.ox, k.no _ (by decide +kernel), f, fd, k.ini, k.ty, ok_i2 F T, F.binds (ps := ["self", "index"]) fun _ _ _ _ _ _ us hl => match us, hl with | [_, _], _ => rfl, fun s self v => ?_⟩
  obtain ⟨oc, od, kV, doc, pm, an, cdv, ct, osl, e, _⟩ := F.ex
  subst e
  exact .of_eq rfl
theorem z3 {C f : Addr} {fd : FuncData} (k : KCls K O C f) (T : OT K mg O) (F : Fun K "__init__" "NoSign.__init__" sI3 f fd) : Cl1 P w K mg base C "name" := by
  refine ⟨k.ox, k.no _ (by decide +kernel), f, fd, k.ini, k.ty, ok_i3 F T, F.binds (ps := ["self", "name"]) fun _ _ _ _ _ _ us hl => match us, hl with | [_, _], _ => rfl, fun s self v => ?_⟩
  obtain ⟨oc, od, kV, doc, pm, an, cdv, ct, osl, e, _⟩ := F.ex
  subst e
  exact .of_eq rfl
theorem z4 {C f : Addr} {fd : FuncData} (k : KCls K O C f) (T : OT K mg O) (F : Fun K "__init__" "BadClause.__init__" sI4 f fd) : Cl1 P w K mg base C "index" := by
  refine ⟨k.ox, k.no _ (by decide +kernel), f, fd, k.ini, k.ty, ok_i4 F T, F.binds (ps := ["self", "index"]) fun _ _ _ _ _ _ us hl => match us, hl with | [_, _], _ => rfl, fun s self v => ?_⟩
  obtain ⟨oc, od, kV, doc, pm, an, cdv, ct, osl, e, _⟩ := F.ex
  subst e
  exact .of_eq rfl
theorem z5 {C f : Addr} {fd : FuncData} (k : KCls K O C f) (T : OT K mg O) (F : Fun K "__init__" "NoClause.__init__" sI5 f fd) : Cl1 P w K mg base C "index" := by
  refine ⟨k.ox, k.no _ (by decide +kernel), f, fd, k.ini, k.ty, ok_i5 F T, F.binds (ps := ["self", "index"]) fun _ _ _ _ _ _ us hl => match us, hl with | [_, _], _ => rfl, fun s self v => ?_⟩
  obtain ⟨oc, od, kV, doc, pm, an, cdv, ct, osl, e, _⟩ := F.ex
  subst e
  exact .of_eq rfl
theorem z6 {C f : Addr} {fd : FuncData} (k : KCls K O C f) (T : OT K mg O) (F : Fun K "__init__" "Clash.__init__" sI6 f fd) : Cl1 P w K mg base C "name" := by
  refine ⟨k.ox, k.no _ (by decide +kernel), f, fd, k.ini, k.ty, ok_i6 F T, F.binds (ps := ["self", "name"]) fun _ _ _ _ _ _ us hl => match us, hl with | [_, _], _ => rfl, fun s self v => ?_⟩
  obtain ⟨oc, od, kV, doc, pm, an, cdv, ct, osl, e, _⟩ := F.ex
  subst e
  exact .of_eq rfl
theorem z7 {C f : Addr} {fd : FuncData} (k : KCls K O C f) (T : OT K mg O) (F : Fun K "__init__" "BadCount.__init__" sI7 f fd) : Cl1 P w K mg base C "n" := by
  refine ⟨k.ox, k.no _ (by decide +kernel), f, fd, k.ini, k.ty, ok_i7 F T, F.binds (ps := ["self", "n"]) fun _ _ _ _ _ _ us hl => match us, hl with | [_, _], _ => rfl, fun s self v => ?_⟩
  obtain ⟨oc, od, kV, doc, pm, an, cdv, ct, osl, e, _⟩ := F.ex
  subst e
  exact .of_eq rfl
theorem z8 {C f : Addr} {fd : FuncData} (k : KCls K O C f) (T : OT K mg O) (F : Fun K "__init__" "BadLevel.__init__" sI8 f fd) : Cl1 P w K mg base C "level" := by
  refine ⟨k.ox, k.no _ (by decide +kernel), f, fd, k.ini, k.ty, ok_i8 F T, F.binds (ps := ["self", "level"]) fun _ _ _ _ _ _ us hl => match us, hl with | [_, _], _ => rfl, fun s self v => ?_⟩
  obtain ⟨oc, od, kV, doc, pm, an, cdv, ct, osl, e, _⟩ := F.ex
  subst e
  exact .of_eq rfl
theorem z9 {C f : Addr} {fd : FuncData} (k : KCls K O C f) (T : OT K mg O) (F : Fun K "__init__" "Blind.__init__" sI9 f fd) : Cl2 P w K mg base C := by
  refine ⟨k.ox, k.no _ (by decide +kernel), k.no _ (by decide +kernel), f, fd, k.ini, k.ty, ok_i9 F T, F.binds (ps := ["self", "setting", "literal"]) fun _ _ _ _ _ _ us hl => match us, hl with | [_, _, _], _ => rfl, fun s self u v => ?_⟩
  obtain ⟨oc, od, kV, doc, pm, an, cdv, ct, osl, e, _⟩ := F.ex
  subst e
  exact .of_eq rfl
theorem z10 {C f : Addr} {fd : FuncData} (k : KCls K O C f) (T : OT K mg O) (F : Fun K "__init__" "UnlikeSigns.__init__" sI10 f fd) : Cl0 P w K mg base C :=
  ⟨k.ox, f, fd, k.ini, k.ty, ok_i10 F T, F.binds (ps := ["self"]) fun _ _ _ _ _ _ us hl => match us, hl with | [_], _ => rfl⟩
theorem z11 {C f : Addr} {fd : FuncData} (k : KCls K O C f) (T : OT K mg O) (F : Fun K "__init__" "NoHelper.__init__" sI11 f fd) : Cl1 P w K mg base C "name" := by
  refine ⟨k.ox, k.no _ (by decide +kernel), f, fd, k.ini, k.ty, ok_i11 F T, F.binds (ps := ["self", "name"]) fun _ _ _ _ _ _ us hl => match us, hl with | [_, _], _ => rfl, fun s self v => ?_⟩
  obtain ⟨oc, od, kV, doc, pm, an, cdv, ct, osl, e, _⟩ := F.ex
  subst e
  exact .of_eq rfl
theorem z12 {C f : Addr} {fd : FuncData} (k : KCls K O C f) (T : OT K mg O) (F : Fun K "__init__" "BadLiteral.__init__" sI12 f fd) : Cl1 P w K mg base C "literal" := by
  refine ⟨k.ox, k.no _ (by decide +kernel), f, fd, k.ini, k.ty, ok_i12 F T, F.binds (ps := ["self", "literal"]) fun _ _ _ _ _ _ us hl => match us, hl with | [_, _], _ => rfl, fun s self v => ?_⟩
  obtain ⟨oc, od, kV, doc, pm, an, cdv, ct, osl, e, _⟩ := F.ex
  subst e
  exact .of_eq rfl
theorem z13 {C f : Addr} {fd : FuncData} (k : KCls K O C f) (T : OT K mg O) (F : Fun K "__init__" "BadCode.__init__" sI13 f fd) : Cl1 P w K mg base C "index" := by
  refine ⟨k.ox, k.no _ (by decide +kernel), f, fd, k.ini, k.ty, ok_i13 F T, F.binds (ps := ["self", "index"]) fun _ _ _ _ _ _ us hl => match us, hl with | [_, _], _ => rfl, fun s self v => ?_⟩
  obtain ⟨oc, od, kV, doc, pm, an, cdv, ct, osl, e, _⟩ := F.ex
  subst e
  exact .of_eq rfl
theorem z14 {C f : Addr} {fd : FuncData} (k : KCls K O C f) (T : OT K mg O) (F : Fun K "__init__" "NotTree.__init__" sI14 f fd) : Cl1 P w K mg base C "index" := by
  refine ⟨k.ox, k.no _ (by decide +kernel), f, fd, k.ini, k.ty, ok_i14 F T, F.binds (ps := ["self", "index"]) fun _ _ _ _ _ _ us hl => match us, hl with | [_, _], _ => rfl, fun s self v => ?_⟩
  obtain ⟨oc, od, kV, doc, pm, an, cdv, ct, osl, e, _⟩ := F.ex
  subst e
  exact .of_eq rfl
theorem z15 {C f : Addr} {fd : FuncData} (k : KCls K O C f) (T : OT K mg O) (F : Fun K "__init__" "Dead.__init__" sI15 f fd) : Cl0 P w K mg base C :=
  ⟨k.ox, f, fd, k.ini, k.ty, ok_i15 F T, F.binds (ps := ["self"]) fun _ _ _ _ _ _ us hl => match us, hl with | [_], _ => rfl⟩
theorem z16 {C f : Addr} {fd : FuncData} (k : KCls K O C f) (T : OT K mg O) (F : Fun K "__init__" "IsSet.__init__" sI16 f fd) : Cl1 P w K mg base C "name" := by
  refine ⟨k.ox, k.no _ (by decide +kernel), f, fd, k.ini, k.ty, ok_i16 F T, F.binds (ps := ["self", "name"]) fun _ _ _ _ _ _ us hl => match us, hl with | [_, _], _ => rfl, fun s self v => ?_⟩
  obtain ⟨oc, od, kV, doc, pm, an, cdv, ct, osl, e, _⟩ := F.ex
  subst e
  exact .of_eq rfl
theorem z17 {C f : Addr} {fd : FuncData} (k : KCls K O C f) (T : OT K mg O) (F : Fun K "__init__" "NothingToUndo.__init__" sI17 f fd) : Cl0 P w K mg base C :=
  ⟨k.ox, f, fd, k.ini, k.ty, ok_i17 F T, F.binds (ps := ["self"]) fun _ _ _ _ _ _ us hl => match us, hl with | [_], _ => rfl⟩
theorem z18 {C f : Addr} {fd : FuncData} (k : KCls K O C f) (T : OT K mg O) (F : Fun K "__init__" "NotDrawn.__init__" sI18 f fd) : Cl1 P w K mg base C "literal" := by
  refine ⟨k.ox, k.no _ (by decide +kernel), f, fd, k.ini, k.ty, ok_i18 F T, F.binds (ps := ["self", "literal"]) fun _ _ _ _ _ _ us hl => match us, hl with | [_, _], _ => rfl, fun s self v => ?_⟩
  obtain ⟨oc, od, kV, doc, pm, an, cdv, ct, osl, e, _⟩ := F.ex
  subst e
  exact .of_eq rfl
theorem z19 {C f : Addr} {fd : FuncData} (k : KCls K O C f) (T : OT K mg O) (F : Fun K "__init__" "NotDead.__init__" sI19 f fd) : Cl0 P w K mg base C :=
  ⟨k.ox, f, fd, k.ini, k.ty, ok_i19 F T, F.binds (ps := ["self"]) fun _ _ _ _ _ _ us hl => match us, hl with | [_], _ => rfl⟩
theorem z20 {C f : Addr} {fd : FuncData} (k : KCls K O C f) (T : OT K mg O) (F : Fun K "__init__" "BadLine.__init__" sI20 f fd) : Cl1 P w K mg base C "index" := by
  refine ⟨k.ox, k.no _ (by decide +kernel), f, fd, k.ini, k.ty, ok_i20 F T, F.binds (ps := ["self", "index"]) fun _ _ _ _ _ _ us hl => match us, hl with | [_, _], _ => rfl, fun s self v => ?_⟩
  obtain ⟨oc, od, kV, doc, pm, an, cdv, ct, osl, e, _⟩ := F.ex
  subst e
  exact .of_eq rfl
/-- all that the law leans on, from what the written part says -/
theorem all_tx {h : Heap} {cO Pt : Addr} {C0 C1 C2 C3 C4 C5 C6 C7 C8 C9 C10 C11 C12 C13 C14 C15 C16 C17 C18 C19 C20 f0 f1 f2 f3 f4 f5 f6 f7 f8 f9 f10 f11 f12 f13 f14 f15 f16 f17 f18 f19 f20 : Addr} {fD fP fS fT fC fA fO fB fL fa : Addr} (X : K.In h) (G : h.Ns mainGlobals mg) (hfa : mg "law" = some (.ref fa))
    (aO : PySem.W.nsIn K mainGlobals "OpenError" = some (some (.ref O))) (bO : baseB K O [C0, C1, C2, C3, C4, C5, C6, C7, C8, C9, C10, C11, C12, C13, C14, C15, C16, C17, C18, C19, C20] = true) (kk : kitsB K [C0, C1, C2, C3, C4, C5, C6, C7, C8, C9, C10, C11, C12, C13, C14, C15, C16, C17, C18, C19, C20] = true) (fr : freeB K ["int", "len", "repr", "range", "isinstance", "ValueError", "list", "all", "any"] = true)
    (xO : PySem.W.excIn K O [.type "ValueError", .type "Exception", .type "BaseException", .type "object"] "ValueError.__new__" = true)
    (a0 : PySem.W.nsIn K mainGlobals "BadNames" = some (some (.ref C0))) (n0 : PySem.W.findIn K (.ref C0) "__init__" = some (some (.ref f0))) (k0 : KCls K O C0 f0) (l0 : ∃ fd, Fun K "__init__" "BadNames.__init__" sI0 f0 fd)
    (a1 : PySem.W.nsIn K mainGlobals "TooMany" = some (some (.ref C1))) (n1 : PySem.W.findIn K (.ref C1) "__init__" = some (some (.ref f1))) (k1 : KCls K O C1 f1) (l1 : ∃ fd, Fun K "__init__" "TooMany.__init__" sI1 f1 fd)
    (a2 : PySem.W.nsIn K mainGlobals "BadSetting" = some (some (.ref C2))) (n2 : PySem.W.findIn K (.ref C2) "__init__" = some (some (.ref f2))) (k2 : KCls K O C2 f2) (l2 : ∃ fd, Fun K "__init__" "BadSetting.__init__" sI2 f2 fd)
    (a3 : PySem.W.nsIn K mainGlobals "NoSign" = some (some (.ref C3))) (n3 : PySem.W.findIn K (.ref C3) "__init__" = some (some (.ref f3))) (k3 : KCls K O C3 f3) (l3 : ∃ fd, Fun K "__init__" "NoSign.__init__" sI3 f3 fd)
    (a4 : PySem.W.nsIn K mainGlobals "BadClause" = some (some (.ref C4))) (n4 : PySem.W.findIn K (.ref C4) "__init__" = some (some (.ref f4))) (k4 : KCls K O C4 f4) (l4 : ∃ fd, Fun K "__init__" "BadClause.__init__" sI4 f4 fd)
    (a5 : PySem.W.nsIn K mainGlobals "NoClause" = some (some (.ref C5))) (n5 : PySem.W.findIn K (.ref C5) "__init__" = some (some (.ref f5))) (k5 : KCls K O C5 f5) (l5 : ∃ fd, Fun K "__init__" "NoClause.__init__" sI5 f5 fd)
    (a6 : PySem.W.nsIn K mainGlobals "Clash" = some (some (.ref C6))) (n6 : PySem.W.findIn K (.ref C6) "__init__" = some (some (.ref f6))) (k6 : KCls K O C6 f6) (l6 : ∃ fd, Fun K "__init__" "Clash.__init__" sI6 f6 fd)
    (a7 : PySem.W.nsIn K mainGlobals "BadCount" = some (some (.ref C7))) (n7 : PySem.W.findIn K (.ref C7) "__init__" = some (some (.ref f7))) (k7 : KCls K O C7 f7) (l7 : ∃ fd, Fun K "__init__" "BadCount.__init__" sI7 f7 fd)
    (a8 : PySem.W.nsIn K mainGlobals "BadLevel" = some (some (.ref C8))) (n8 : PySem.W.findIn K (.ref C8) "__init__" = some (some (.ref f8))) (k8 : KCls K O C8 f8) (l8 : ∃ fd, Fun K "__init__" "BadLevel.__init__" sI8 f8 fd)
    (a9 : PySem.W.nsIn K mainGlobals "Blind" = some (some (.ref C9))) (n9 : PySem.W.findIn K (.ref C9) "__init__" = some (some (.ref f9))) (k9 : KCls K O C9 f9) (l9 : ∃ fd, Fun K "__init__" "Blind.__init__" sI9 f9 fd)
    (a10 : PySem.W.nsIn K mainGlobals "UnlikeSigns" = some (some (.ref C10))) (n10 : PySem.W.findIn K (.ref C10) "__init__" = some (some (.ref f10))) (k10 : KCls K O C10 f10) (l10 : ∃ fd, Fun K "__init__" "UnlikeSigns.__init__" sI10 f10 fd)
    (a11 : PySem.W.nsIn K mainGlobals "NoHelper" = some (some (.ref C11))) (n11 : PySem.W.findIn K (.ref C11) "__init__" = some (some (.ref f11))) (k11 : KCls K O C11 f11) (l11 : ∃ fd, Fun K "__init__" "NoHelper.__init__" sI11 f11 fd)
    (a12 : PySem.W.nsIn K mainGlobals "BadLiteral" = some (some (.ref C12))) (n12 : PySem.W.findIn K (.ref C12) "__init__" = some (some (.ref f12))) (k12 : KCls K O C12 f12) (l12 : ∃ fd, Fun K "__init__" "BadLiteral.__init__" sI12 f12 fd)
    (a13 : PySem.W.nsIn K mainGlobals "BadCode" = some (some (.ref C13))) (n13 : PySem.W.findIn K (.ref C13) "__init__" = some (some (.ref f13))) (k13 : KCls K O C13 f13) (l13 : ∃ fd, Fun K "__init__" "BadCode.__init__" sI13 f13 fd)
    (a14 : PySem.W.nsIn K mainGlobals "NotTree" = some (some (.ref C14))) (n14 : PySem.W.findIn K (.ref C14) "__init__" = some (some (.ref f14))) (k14 : KCls K O C14 f14) (l14 : ∃ fd, Fun K "__init__" "NotTree.__init__" sI14 f14 fd)
    (a15 : PySem.W.nsIn K mainGlobals "Dead" = some (some (.ref C15))) (n15 : PySem.W.findIn K (.ref C15) "__init__" = some (some (.ref f15))) (k15 : KCls K O C15 f15) (l15 : ∃ fd, Fun K "__init__" "Dead.__init__" sI15 f15 fd)
    (a16 : PySem.W.nsIn K mainGlobals "IsSet" = some (some (.ref C16))) (n16 : PySem.W.findIn K (.ref C16) "__init__" = some (some (.ref f16))) (k16 : KCls K O C16 f16) (l16 : ∃ fd, Fun K "__init__" "IsSet.__init__" sI16 f16 fd)
    (a17 : PySem.W.nsIn K mainGlobals "NothingToUndo" = some (some (.ref C17))) (n17 : PySem.W.findIn K (.ref C17) "__init__" = some (some (.ref f17))) (k17 : KCls K O C17 f17) (l17 : ∃ fd, Fun K "__init__" "NothingToUndo.__init__" sI17 f17 fd)
    (a18 : PySem.W.nsIn K mainGlobals "NotDrawn" = some (some (.ref C18))) (n18 : PySem.W.findIn K (.ref C18) "__init__" = some (some (.ref f18))) (k18 : KCls K O C18 f18) (l18 : ∃ fd, Fun K "__init__" "NotDrawn.__init__" sI18 f18 fd)
    (a19 : PySem.W.nsIn K mainGlobals "NotDead" = some (some (.ref C19))) (n19 : PySem.W.findIn K (.ref C19) "__init__" = some (some (.ref f19))) (k19 : KCls K O C19 f19) (l19 : ∃ fd, Fun K "__init__" "NotDead.__init__" sI19 f19 fd)
    (a20 : PySem.W.nsIn K mainGlobals "BadLine" = some (some (.ref C20))) (n20 : PySem.W.findIn K (.ref C20) "__init__" = some (some (.ref f20))) (k20 : KCls K O C20 f20) (l20 : ∃ fd, Fun K "__init__" "BadLine.__init__" sI20 f20 fd)
    (dD : DefAt K "_law_draw" sDraw fD) (dP : DefAt K "_law_pick" sPick fP) (dS : DefAt K "_law_same" sSame fS) (dT : DefAt K "_law_thing" sThing fT) (dC : DefAt K "_law_classes" sClasses fC) (dA : DefAt K "_law_is_alone" sAlone fA) (dB : DefAt K "_law_bares" sBares fB) (dL : DefAt K "law" sLaw fL)
    (aOn : PySem.W.nsIn K mainGlobals "_law_ones" = some (some (.ref fO))) (lOn : ∃ (oc kV doc pm ct : Value) (od an : Option Addr) (osl : Array (Option Value)), K.lookup fO = some ⟨oc, od, .func (PySem.W.fnOf "_law_ones" "_law_ones" (defArgs sOnes) (defBody sOnes) (defScope sOnes) .none kV doc pm an (.ref cO) ct), osl⟩)
    (cOn : PySem.W.codeIn K (.ref cO) "_law_ones" = true) (kOn : PySem.W.keepIn K (.ref fO) = true) (TB : TabB base mg cO Pt) :
    ∃ fd, (∀ (s : Shared) (u : Value), BindsTo s fd ⟨[u], []⟩ [("_law_script", u)]) ∧ FnG P w K mg base 4 fa fd ["_law_script"] (spLaw K [(Pt, qL)]) := by
  have fz := freeB_ok fr X G
  have z : ∀ x, x ∈ (["int", "len", "repr", "range", "isinstance", "ValueError", "list", "all", "any"] : List Str) → mg x = none := fz
  have gO := PySem.W.mg_of X G aO
  obtain ⟨T, eO, kO, vO, pO⟩ := baseB_ok bO gO
  obtain ⟨fd0, F0⟩ := l0
  obtain ⟨fd1, F1⟩ := l1
  obtain ⟨fd2, F2⟩ := l2
  obtain ⟨fd3, F3⟩ := l3
  obtain ⟨fd4, F4⟩ := l4
  obtain ⟨fd5, F5⟩ := l5
  obtain ⟨fd6, F6⟩ := l6
  obtain ⟨fd7, F7⟩ := l7
  obtain ⟨fd8, F8⟩ := l8
  obtain ⟨fd9, F9⟩ := l9
  obtain ⟨fd10, F10⟩ := l10
  obtain ⟨fd11, F11⟩ := l11
  obtain ⟨fd12, F12⟩ := l12
  obtain ⟨fd13, F13⟩ := l13
  obtain ⟨fd14, F14⟩ := l14
  obtain ⟨fd15, F15⟩ := l15
  obtain ⟨fd16, F16⟩ := l16
  obtain ⟨fd17, F17⟩ := l17
  obtain ⟨fd18, F18⟩ := l18
  obtain ⟨fd19, F19⟩ := l19
  obtain ⟨fd20, F20⟩ := l20
  obtain ⟨aD, fdD, FD⟩ := dD
  obtain ⟨aP, fdP, FP⟩ := dP
  obtain ⟨aS, fdS, FS⟩ := dS
  obtain ⟨aT, fdT, FT⟩ := dT
  obtain ⟨aC, fdC, FC⟩ := dC
  obtain ⟨aA, fdA, FA⟩ := dA
  obtain ⟨aB, fdB, FB⟩ := dB
  obtain ⟨aL, fdL, FL⟩ := dL
  obtain ⟨oc, kV, doc, pm, ct, od, an, osl, lk⟩ := lOn
  have gs : ∀ i, i < 21 → mg (nm i) = some (.ref ([C0, C1, C2, C3, C4, C5, C6, C7, C8, C9, C10, C11, C12, C13, C14, C15, C16, C17, C18, C19, C20].getD i 0)) := fun i hi => match i, hi with
    | 0, _ => PySem.W.mg_of X G a0
    | 1, _ => PySem.W.mg_of X G a1
    | 2, _ => PySem.W.mg_of X G a2
    | 3, _ => PySem.W.mg_of X G a3
    | 4, _ => PySem.W.mg_of X G a4
    | 5, _ => PySem.W.mg_of X G a5
    | 6, _ => PySem.W.mg_of X G a6
    | 7, _ => PySem.W.mg_of X G a7
    | 8, _ => PySem.W.mg_of X G a8
    | 9, _ => PySem.W.mg_of X G a9
    | 10, _ => PySem.W.mg_of X G a10
    | 11, _ => PySem.W.mg_of X G a11
    | 12, _ => PySem.W.mg_of X G a12
    | 13, _ => PySem.W.mg_of X G a13
    | 14, _ => PySem.W.mg_of X G a14
    | 15, _ => PySem.W.mg_of X G a15
    | 16, _ => PySem.W.mg_of X G a16
    | 17, _ => PySem.W.mg_of X G a17
    | 18, _ => PySem.W.mg_of X G a18
    | 19, _ => PySem.W.mg_of X G a19
    | 20, _ => PySem.W.mg_of X G a20
    | n + 21, h => absurd h (by omega)
  have tg : Tg mg (fun i => [C0, C1, C2, C3, C4, C5, C6, C7, C8, C9, C10, C11, C12, C13, C14, C15, C16, C17, C18, C19, C20].getD i 0) := ⟨gs, z "isinstance" (by decide +kernel)⟩
  have ks : ∀ i, i < 21 → ExcC K ([C0, C1, C2, C3, C4, C5, C6, C7, C8, C9, C10, C11, C12, C13, C14, C15, C16, C17, C18, C19, C20].getD i 0) ∧ XfC K ([C0, C1, C2, C3, C4, C5, C6, C7, C8, C9, C10, C11, C12, C13, C14, C15, C16, C17, C18, C19, C20].getD i 0) ∧ KitAll K (fun i => [C0, C1, C2, C3, C4, C5, C6, C7, C8, C9, C10, C11, C12, C13, C14, C15, C16, C17, C18, C19, C20].getD i 0) ([C0, C1, C2, C3, C4, C5, C6, C7, C8, C9, C10, C11, C12, C13, C14, C15, C16, C17, C18, C19, C20].getD i 0) (fun j => decide (j = i)) ∧ PySem.W.kitOne K (.ref ([C0, C1, C2, C3, C4, C5, C6, C7, C8, C9, C10, C11, C12, C13, C14, C15, C16, C17, C18, C19, C20].getD i 0)) (.ref O) = some true ∧ PySem.W.kitOne K (.ref ([C0, C1, C2, C3, C4, C5, C6, C7, C8, C9, C10, C11, C12, C13, C14, C15, C16, C17, C18, C19, C20].getD i 0)) (.type "ValueError") = some true := fun i hi => match i, hi with
    | 0, h => ⟨k0.ec, k0.xf, kitsB_ok kk 0 h, k0.kO, k0.kV⟩
    | 1, h => ⟨k1.ec, k1.xf, kitsB_ok kk 1 h, k1.kO, k1.kV⟩
    | 2, h => ⟨k2.ec, k2.xf, kitsB_ok kk 2 h, k2.kO, k2.kV⟩
    | 3, h => ⟨k3.ec, k3.xf, kitsB_ok kk 3 h, k3.kO, k3.kV⟩
    | 4, h => ⟨k4.ec, k4.xf, kitsB_ok kk 4 h, k4.kO, k4.kV⟩
    | 5, h => ⟨k5.ec, k5.xf, kitsB_ok kk 5 h, k5.kO, k5.kV⟩
    | 6, h => ⟨k6.ec, k6.xf, kitsB_ok kk 6 h, k6.kO, k6.kV⟩
    | 7, h => ⟨k7.ec, k7.xf, kitsB_ok kk 7 h, k7.kO, k7.kV⟩
    | 8, h => ⟨k8.ec, k8.xf, kitsB_ok kk 8 h, k8.kO, k8.kV⟩
    | 9, h => ⟨k9.ec, k9.xf, kitsB_ok kk 9 h, k9.kO, k9.kV⟩
    | 10, h => ⟨k10.ec, k10.xf, kitsB_ok kk 10 h, k10.kO, k10.kV⟩
    | 11, h => ⟨k11.ec, k11.xf, kitsB_ok kk 11 h, k11.kO, k11.kV⟩
    | 12, h => ⟨k12.ec, k12.xf, kitsB_ok kk 12 h, k12.kO, k12.kV⟩
    | 13, h => ⟨k13.ec, k13.xf, kitsB_ok kk 13 h, k13.kO, k13.kV⟩
    | 14, h => ⟨k14.ec, k14.xf, kitsB_ok kk 14 h, k14.kO, k14.kV⟩
    | 15, h => ⟨k15.ec, k15.xf, kitsB_ok kk 15 h, k15.kO, k15.kV⟩
    | 16, h => ⟨k16.ec, k16.xf, kitsB_ok kk 16 h, k16.kO, k16.kV⟩
    | 17, h => ⟨k17.ec, k17.xf, kitsB_ok kk 17 h, k17.kO, k17.kV⟩
    | 18, h => ⟨k18.ec, k18.xf, kitsB_ok kk 18 h, k18.kO, k18.kV⟩
    | 19, h => ⟨k19.ec, k19.xf, kitsB_ok kk 19 h, k19.kO, k19.kV⟩
    | 20, h => ⟨k20.ec, k20.xf, kitsB_ok kk 20 h, k20.kO, k20.kV⟩
    | n + 21, h => absurd h (by omega)
  have GD := ok_draw (P := P) (w := w) (base := base) FD (z "int" (by decide +kernel))
  have bD := FD.binds (ps := ["_law_stream", "_law_many"]) fun _ _ _ _ _ _ us hl => match us, hl with | [_, _], _ => rfl
  have mD := PySem.W.mg_of X G aD
  have GPL := ok_pickL (P := P) (w := w) FP GD mD FD.kp bD (z "len" (by decide +kernel))
  have GPS := ok_pickS (P := P) (w := w) FP GD mD FD.kp bD (z "len" (by decide +kernel))
  have bP := FP.binds (ps := ["_law_stream", "_law_things"]) fun _ _ _ _ _ _ us hl => match us, hl with | [_, _], _ => rfl
  have GT := ok_thing FT GD mD FD.kp bD GPL GPS (PySem.W.mg_of X G aP) FP.kp bP (z "range" (by decide +kernel))
  have bT := FT.binds (ps := ["_law_stream"]) fun _ _ _ _ _ _ us hl => match us, hl with | [_], _ => rfl
  have GS := ok_same (P := P) (w := w) (base := base) FS (z "repr" (by decide +kernel))
  have bS := FS.binds (ps := ["_law_found", "_law_due"]) fun _ _ _ _ _ _ us hl => match us, hl with | [_, _], _ => rfl
  have GC := ok_classes (P := P) (w := w) (base := base) FC tg
  have bC := FC.binds (ps := ["_law_e"]) fun _ _ _ _ _ _ us hl => match us, hl with | [_], _ => rfl
  have mC := PySem.W.mg_of X G aC
  have GA := ok_alone FA tg gO (z "ValueError" (by decide +kernel)) GC mC FC.kp bC
  have bA := FA.binds (ps := ["_law_e", "_law_place"]) fun _ _ _ _ _ _ us hl => match us, hl with | [_, _], _ => rfl
  have GO := ok_ones (P := P) (w := w) lk cOn TB tg (z0 k0 T F0) (z1 k1 T F1) (z2 k2 T F2) (z3 k3 T F3) (z4 k4 T F4) (z5 k5 T F5) (z6 k6 T F6) (z7 k7 T F7) (z8 k8 T F8) (z11 k11 T F11) (z12 k12 T F12) (z13 k13 T F13) (z14 k14 T F14) (z16 k16 T F16) (z18 k18 T F18) (z20 k20 T F20)
  have bO : L2.Binds K (PySem.W.fnOf "_law_ones" "_law_ones" (defArgs sOnes) (defBody sOnes) (defScope sOnes) .none kV doc pm an (.ref cO) ct) ["_law_one"] [] := .all fun us hl => match us, hl with | [_], _ => rfl
  have GB := ok_bares FB tg (z10 (P := P) (w := w) (base := base) k10 T F10) (z15 k15 T F15) (z17 k17 T F17) (z19 k19 T F19)
  have bB := FB.binds (ps := []) fun _ _ _ _ _ _ us hl => match us, hl with | [], _ => rfl
  have tx : LawTx P w K mg base (fun i => [C0, C1, C2, C3, C4, C5, C6, C7, C8, C9, C10, C11, C12, C13, C14, C15, C16, C17, C18, C19, C20].getD i 0) O [(Pt, qL)] := {
    tg := tg
    list := z "list" (by decide +kernel)
    range := z "range" (by decide +kernel)
    all := z "all" (by decide +kernel)
    any := z "any" (by decide +kernel)
    ve := z "ValueError" (by decide +kernel)
    oO := gO
    thing := ⟨fT, _, PySem.W.mg_of X G aT, FT.kp, bT, GT⟩
    ones := ⟨fO, _, PySem.W.mg_of X G aOn, kOn, bO, GO⟩
    bares := ⟨fB, _, PySem.W.mg_of X G aB, FB.kp, bB, GB⟩
    alone := ⟨fA, _, PySem.W.mg_of X G aA, FA.kp, bA, GA⟩
    clss := ⟨fC, _, mC, FC.kp, bC, GC⟩
    same := ⟨fS, _, PySem.W.mg_of X G aS, FS.kp, bS, GS⟩
    blind := z9 k9 T F9
    ec := ks
    eO := ⟨eO, kO, vO, pO⟩
    xO := ⟨_, PySem.F.excBase_ValueError, xO⟩ }
  have bL := FL.binds (ps := ["_law_script"]) fun _ _ _ _ _ _ us hl => match us, hl with | [_], _ => rfl
  obtain ⟨oc2, od2, kV2, doc2, pm2, an2, cdv2, ct2, osl2, e2, _⟩ := id FL.ex
  have e := hfa.symm.trans (PySem.W.mg_of X G aL)
  cases e
  refine ⟨fdL, fun s u => ?_, ok_law FL tx⟩
  subst e2
  exact .of_eq rfl
end
/-! ### the end: the law's own call -/
theorem walk {l : PySem.W.OpenLaw} {q : Program} {loose : List Str} {XP : (Str → Option Value) → Heap → Prop} {YP : World → Heap → Prop} {d : DefRec} {K : Params → PySem.W.Frag} {cO Pt : Addr} (hn : l.most = some 63) (hdf : d.params.defaults = [])
    (hY : ∀ (w : World) (h : Heap), YP w h → (K w.params).In h ∧ h.get? Pt = some { cls := .none, data := .fields #[] }) (hP : ∀ w : World, (K w.params).lookup Pt = none) (hC : ∀ (w : World) (h : Heap), (K w.params).In h → PySem.W.CodeHd h cO Pt)
    (F : ∀ (w : World) (mg : Str → Option Value) (fa : Addr) (h base : Heap), (K w.params).In h → h.Ns mainGlobals mg → mg d.name = some (.ref fa) → TabB base mg cO Pt →
      ∃ fd, (∀ (s : Shared) (u : Value), BindsTo s fd ⟨[u], []⟩ [("_law_script", u)]) ∧ FnG l.prog w (K w.params) mg base 4 fa fd ["_law_script"] (spLaw (K w.params) [(Pt, qL)])) :
    PySem.W.WalkO q loose XP YP l.row.toRowW d [] (fun f vs => PySem.call f vs) := by
  refine Att.attach_callB hn hdf fun w s₀ s₁ mg mb fa o pm cd doc a vs ns G Y ho hd hcd hmg hobj hints hlen hbits hg => ?_
  obtain ⟨KX, hT⟩ := hY w _ Y
  refine law_callG (cs := [(cO, Pt)]) KX G.T.g G.T.b G.T.builtins G.T.nolimit hg (fun p hp => ?_) (fun p hp => ?_) (fun p hp => ?_) G.T.bmain hobj hints (Nat.le_trans hlen (by decide)) fun base H kb gb tb hH hS e0 => ?_
  · rw [List.mem_singleton.mp hp]
    exact hT
  · rw [List.mem_singleton.mp hp]
    exact hP w
  · rw [List.mem_singleton.mp hp]
    exact hC w _ KX
  · obtain ⟨fd, hb, hF⟩ := F w mg fa _ base KX G.T.g hmg (tb _ List.mem_cons_self)
    refine hF.run callerA [] s₁ H ⟨[.ref a], []⟩ [.ref a] [.ref a] _ E0 rfl ⟨rfl, by decide, by decide⟩ e0 (hb s₁ (.ref a)) (.cons rfl .nil) ⟨a, ns, rfl, hS, hlen, fun q hq => ?_, fun _ => rfl⟩
    rw [List.mem_singleton.mp hq]
    exact TabS.nil (hH _ List.mem_cons_self)
end K1
open PySem PySem.W PyProof.Rows
set_option maxRecDepth 100000 in
set_option maxHeartbeats 0 in
theorem PySem.Challenge.cw_lastopen_k01_errors_made_holds : PySem.Challenge.rw_lastopen_k01_errors_made.Holds := by
  w_on; o_law; k_head; (case hw => w_witness2)
  k_fill
  refine' K1.walk (l := PySem.Challenge.rw_lastopen_k01_errors_made) (cO := _) (Pt := 468) rfl rfl (fun w h Y => ⟨PySem.W.km_in_of Y, PySem.W.km_tabs_of Y 468 (by decide)⟩) ?hP ?hC ?F
  case F =>
    intro w mg fa h base KX G hmg TB
    refine' K1.all_tx KX G hmg ?aO ?bO ?kk ?fr ?xO ?a0 ?n0 ?k0 ?l0 ?a1 ?n1 ?k1 ?l1 ?a2 ?n2 ?k2 ?l2 ?a3 ?n3 ?k3 ?l3 ?a4 ?n4 ?k4 ?l4 ?a5 ?n5 ?k5 ?l5 ?a6 ?n6 ?k6 ?l6 ?a7 ?n7 ?k7 ?l7 ?a8 ?n8 ?k8 ?l8 ?a9 ?n9 ?k9 ?l9 ?a10 ?n10 ?k10 ?l10 ?a11 ?n11 ?k11 ?l11 ?a12 ?n12 ?k12 ?l12 ?a13 ?n13 ?k13 ?l13 ?a14 ?n14 ?k14 ?l14 ?a15 ?n15 ?k15 ?l15 ?a16 ?n16 ?k16 ?l16 ?a17 ?n17 ?k17 ?l17 ?a18 ?n18 ?k18 ?l18 ?a19 ?n19 ?k19 ?l19 ?a20 ?n20 ?k20 ?l20 ?dD ?dP ?dS ?dT ?dC ?dA ?dB ?dL ?aOn ?lOn ?cOn ?kOn TB
    (case aO => k_is)
    (case a0 => k_is); (case n0 => k_is)
    (case a1 => k_is); (case n1 => k_is)
    (case a2 => k_is); (case n2 => k_is)
    (case a3 => k_is); (case n3 => k_is)
    (case a4 => k_is); (case n4 => k_is)
    (case a5 => k_is); (case n5 => k_is)
    (case a6 => k_is); (case n6 => k_is)
    (case a7 => k_is); (case n7 => k_is)
    (case a8 => k_is); (case n8 => k_is)
    (case a9 => k_is); (case n9 => k_is)
    (case a10 => k_is); (case n10 => k_is)
    (case a11 => k_is); (case n11 => k_is)
    (case a12 => k_is); (case n12 => k_is)
    (case a13 => k_is); (case n13 => k_is)
    (case a14 => k_is); (case n14 => k_is)
    (case a15 => k_is); (case n15 => k_is)
    (case a16 => k_is); (case n16 => k_is)
    (case a17 => k_is); (case n17 => k_is)
    (case a18 => k_is); (case n18 => k_is)
    (case a19 => k_is); (case n19 => k_is)
    (case a20 => k_is); (case n20 => k_is)
    (case dD => refine' ⟨?uaD, _, L2.fun_mk ?ulD ?ucD ?ukD⟩; (case uaD => k_is); (case ulD => k_is); (case ucD => k_is); (case ukD => k_is))
    (case dP => refine' ⟨?uaP, _, L2.fun_mk ?ulP ?ucP ?ukP⟩; (case uaP => k_is); (case ulP => k_is); (case ucP => k_is); (case ukP => k_is))
    (case dS => refine' ⟨?uaS, _, L2.fun_mk ?ulS ?ucS ?ukS⟩; (case uaS => k_is); (case ulS => k_is); (case ucS => k_is); (case ukS => k_is))
    (case dT => refine' ⟨?uaT, _, L2.fun_mk ?ulT ?ucT ?ukT⟩; (case uaT => k_is); (case ulT => k_is); (case ucT => k_is); (case ukT => k_is))
    (case dC => refine' ⟨?uaC, _, L2.fun_mk ?ulC ?ucC ?ukC⟩; (case uaC => k_is); (case ulC => k_is); (case ucC => k_is); (case ukC => k_is))
    (case dA => refine' ⟨?uaA, _, L2.fun_mk ?ulA ?ucA ?ukA⟩; (case uaA => k_is); (case ulA => k_is); (case ucA => k_is); (case ukA => k_is))
    (case dB => refine' ⟨?uaB, _, L2.fun_mk ?ulB ?ucB ?ukB⟩; (case uaB => k_is); (case ulB => k_is); (case ucB => k_is); (case ukB => k_is))
    (case dL => refine' ⟨?uaL, _, L2.fun_mk ?ulL ?ucL ?ukL⟩; (case uaL => k_is); (case ulL => k_is); (case ucL => k_is); (case ukL => k_is))
    (case aOn => k_is)
    (case lOn => refine' K1.ones_mk ?ulOn; (case ulOn => k_is))
    (case cOn => k_is); (case kOn => k_is)
    (case l0 => refine' ⟨_, L2.fun_mk ?vl0 ?vc0 ?vk0⟩; (case vl0 => k_is); (case vc0 => k_is); (case vk0 => k_is))
    (case k0 => refine' K1.kcls ?wb0 ?wx0; (case wb0 => kernel_rfl); (case wx0 => refine' K1.cls_mk ?wp0 ?wr0; (case wp0 => k_is); (case wr0 => first | rfl | decide +kernel)))
    (case l1 => refine' ⟨_, L2.fun_mk ?vl1 ?vc1 ?vk1⟩; (case vl1 => k_is); (case vc1 => k_is); (case vk1 => k_is))
    (case k1 => refine' K1.kcls ?wb1 ?wx1; (case wb1 => kernel_rfl); (case wx1 => refine' K1.cls_mk ?wp1 ?wr1; (case wp1 => k_is); (case wr1 => first | rfl | decide +kernel)))
    (case l2 => refine' ⟨_, L2.fun_mk ?vl2 ?vc2 ?vk2⟩; (case vl2 => k_is); (case vc2 => k_is); (case vk2 => k_is))
    (case k2 => refine' K1.kcls ?wb2 ?wx2; (case wb2 => kernel_rfl); (case wx2 => refine' K1.cls_mk ?wp2 ?wr2; (case wp2 => k_is); (case wr2 => first | rfl | decide +kernel)))
    (case l3 => refine' ⟨_, L2.fun_mk ?vl3 ?vc3 ?vk3⟩; (case vl3 => k_is); (case vc3 => k_is); (case vk3 => k_is))
    (case k3 => refine' K1.kcls ?wb3 ?wx3; (case wb3 => kernel_rfl); (case wx3 => refine' K1.cls_mk ?wp3 ?wr3; (case wp3 => k_is); (case wr3 => first | rfl | decide +kernel)))
    (case l4 => refine' ⟨_, L2.fun_mk ?vl4 ?vc4 ?vk4⟩; (case vl4 => k_is); (case vc4 => k_is); (case vk4 => k_is))
    (case k4 => refine' K1.kcls ?wb4 ?wx4; (case wb4 => kernel_rfl); (case wx4 => refine' K1.cls_mk ?wp4 ?wr4; (case wp4 => k_is); (case wr4 => first | rfl | decide +kernel)))
    (case l5 => refine' ⟨_, L2.fun_mk ?vl5 ?vc5 ?vk5⟩; (case vl5 => k_is); (case vc5 => k_is); (case vk5 => k_is))
    (case k5 => refine' K1.kcls ?wb5 ?wx5; (case wb5 => kernel_rfl); (case wx5 => refine' K1.cls_mk ?wp5 ?wr5; (case wp5 => k_is); (case wr5 => first | rfl | decide +kernel)))
    (case l6 => refine' ⟨_, L2.fun_mk ?vl6 ?vc6 ?vk6⟩; (case vl6 => k_is); (case vc6 => k_is); (case vk6 => k_is))
    (case k6 => refine' K1.kcls ?wb6 ?wx6; (case wb6 => kernel_rfl); (case wx6 => refine' K1.cls_mk ?wp6 ?wr6; (case wp6 => k_is); (case wr6 => first | rfl | decide +kernel)))
    (case l7 => refine' ⟨_, L2.fun_mk ?vl7 ?vc7 ?vk7⟩; (case vl7 => k_is); (case vc7 => k_is); (case vk7 => k_is))
    (case k7 => refine' K1.kcls ?wb7 ?wx7; (case wb7 => kernel_rfl); (case wx7 => refine' K1.cls_mk ?wp7 ?wr7; (case wp7 => k_is); (case wr7 => first | rfl | decide +kernel)))
    (case l8 => refine' ⟨_, L2.fun_mk ?vl8 ?vc8 ?vk8⟩; (case vl8 => k_is); (case vc8 => k_is); (case vk8 => k_is))
    (case k8 => refine' K1.kcls ?wb8 ?wx8; (case wb8 => kernel_rfl); (case wx8 => refine' K1.cls_mk ?wp8 ?wr8; (case wp8 => k_is); (case wr8 => first | rfl | decide +kernel)))
    (case l9 => refine' ⟨_, L2.fun_mk ?vl9 ?vc9 ?vk9⟩; (case vl9 => k_is); (case vc9 => k_is); (case vk9 => k_is))
    (case k9 => refine' K1.kcls ?wb9 ?wx9; (case wb9 => kernel_rfl); (case wx9 => refine' K1.cls_mk ?wp9 ?wr9; (case wp9 => k_is); (case wr9 => first | rfl | decide +kernel)))
    (case l10 => refine' ⟨_, L2.fun_mk ?vl10 ?vc10 ?vk10⟩; (case vl10 => k_is); (case vc10 => k_is); (case vk10 => k_is))
    (case k10 => refine' K1.kcls ?wb10 ?wx10; (case wb10 => kernel_rfl); (case wx10 => refine' K1.cls_mk ?wp10 ?wr10; (case wp10 => k_is); (case wr10 => first | rfl | decide +kernel)))
    (case l11 => refine' ⟨_, L2.fun_mk ?vl11 ?vc11 ?vk11⟩; (case vl11 => k_is); (case vc11 => k_is); (case vk11 => k_is))
    (case k11 => refine' K1.kcls ?wb11 ?wx11; (case wb11 => kernel_rfl); (case wx11 => refine' K1.cls_mk ?wp11 ?wr11; (case wp11 => k_is); (case wr11 => first | rfl | decide +kernel)))
    (case l12 => refine' ⟨_, L2.fun_mk ?vl12 ?vc12 ?vk12⟩; (case vl12 => k_is); (case vc12 => k_is); (case vk12 => k_is))
    (case k12 => refine' K1.kcls ?wb12 ?wx12; (case wb12 => kernel_rfl); (case wx12 => refine' K1.cls_mk ?wp12 ?wr12; (case wp12 => k_is); (case wr12 => first | rfl | decide +kernel)))
    (case l13 => refine' ⟨_, L2.fun_mk ?vl13 ?vc13 ?vk13⟩; (case vl13 => k_is); (case vc13 => k_is); (case vk13 => k_is))
    (case k13 => refine' K1.kcls ?wb13 ?wx13; (case wb13 => kernel_rfl); (case wx13 => refine' K1.cls_mk ?wp13 ?wr13; (case wp13 => k_is); (case wr13 => first | rfl | decide +kernel)))
    (case l14 => refine' ⟨_, L2.fun_mk ?vl14 ?vc14 ?vk14⟩; (case vl14 => k_is); (case vc14 => k_is); (case vk14 => k_is))
    (case k14 => refine' K1.kcls ?wb14 ?wx14; (case wb14 => kernel_rfl); (case wx14 => refine' K1.cls_mk ?wp14 ?wr14; (case wp14 => k_is); (case wr14 => first | rfl | decide +kernel)))
    (case l15 => refine' ⟨_, L2.fun_mk ?vl15 ?vc15 ?vk15⟩; (case vl15 => k_is); (case vc15 => k_is); (case vk15 => k_is))
    (case k15 => refine' K1.kcls ?wb15 ?wx15; (case wb15 => kernel_rfl); (case wx15 => refine' K1.cls_mk ?wp15 ?wr15; (case wp15 => k_is); (case wr15 => first | rfl | decide +kernel)))
    (case l16 => refine' ⟨_, L2.fun_mk ?vl16 ?vc16 ?vk16⟩; (case vl16 => k_is); (case vc16 => k_is); (case vk16 => k_is))
    (case k16 => refine' K1.kcls ?wb16 ?wx16; (case wb16 => kernel_rfl); (case wx16 => refine' K1.cls_mk ?wp16 ?wr16; (case wp16 => k_is); (case wr16 => first | rfl | decide +kernel)))
    (case l17 => refine' ⟨_, L2.fun_mk ?vl17 ?vc17 ?vk17⟩; (case vl17 => k_is); (case vc17 => k_is); (case vk17 => k_is))
    (case k17 => refine' K1.kcls ?wb17 ?wx17; (case wb17 => kernel_rfl); (case wx17 => refine' K1.cls_mk ?wp17 ?wr17; (case wp17 => k_is); (case wr17 => first | rfl | decide +kernel)))
    (case l18 => refine' ⟨_, L2.fun_mk ?vl18 ?vc18 ?vk18⟩; (case vl18 => k_is); (case vc18 => k_is); (case vk18 => k_is))
    (case k18 => refine' K1.kcls ?wb18 ?wx18; (case wb18 => kernel_rfl); (case wx18 => refine' K1.cls_mk ?wp18 ?wr18; (case wp18 => k_is); (case wr18 => first | rfl | decide +kernel)))
    (case l19 => refine' ⟨_, L2.fun_mk ?vl19 ?vc19 ?vk19⟩; (case vl19 => k_is); (case vc19 => k_is); (case vk19 => k_is))
    (case k19 => refine' K1.kcls ?wb19 ?wx19; (case wb19 => kernel_rfl); (case wx19 => refine' K1.cls_mk ?wp19 ?wr19; (case wp19 => k_is); (case wr19 => first | rfl | decide +kernel)))
    (case l20 => refine' ⟨_, L2.fun_mk ?vl20 ?vc20 ?vk20⟩; (case vl20 => k_is); (case vc20 => k_is); (case vk20 => k_is))
    (case k20 => refine' K1.kcls ?wb20 ?wx20; (case wb20 => kernel_rfl); (case wx20 => refine' K1.cls_mk ?wp20 ?wr20; (case wp20 => k_is); (case wr20 => first | rfl | decide +kernel)))
    (case bO => kernel_rfl); (case kk => kernel_rfl); (case fr => kernel_rfl); (case xO => kernel_rfl)
  case hP => intro w; kernel_rfl
  case hC => intro w h X; exact PySem.W.codeHd_of_K X (by kernel_rfl)
