import PyProof.Rows.All
import Wide.All
import OpenK.AllK
import Wide.FinOn
import KE.KLam
import HandS.ForMost
import HandS.Exc
import HandS.ExcOwn
import HandS.TryOnly
import HandS.WordsExc
import HandS.ExcInit
import HandS.ExcIs
import HandS.ExcField
import HandS.IsInst
import HandS.ClsMeth
import HandS.Defaults
import HandS.MakeKw
import HandS.Nested
import HandS.SetFor
import HandS.Flow
import HandS.ExcValue
import PyProof.ReprRoads
import PyProof.ReprBulk
import PyProof.StrLawsRepr
import PyProof.EqKinds
import HandS.Lambda
import HandS.EndBits
import HandS.EndTab
import HandS.DictComp
import HandS.Walk
import KE.GoesMore
import PyProof.EnumMake
import PyProof.Draws
import PySem.Challenge.RW_lastopen_k02_rules_made
import HandS.Conv
import HandS.Star
import HandS.SetKeys
import HandS.TupLen
import HandS.OwnEq
import HandS.StrMore
import HandS.Codes
import HandS.Style
import HandS.TupAny
import HandS.NoneIn
import HandS.Deep
import HandS.SortInts
import HandS.Words
import HandS.Strs
import HandS.Set
import HandS.More
import PyProof.NeKinds
import HandS.WordsDict
set_option Elab.async false
set_option linter.all false
set_option maxRecDepth 100000
set_option maxHeartbeats 4000000
/-! Errors of classes of one's own as values: made by place and by name, asked by isinstance, their fields read. -/
namespace PySem
namespace EK
open PySem.W PySem.Calls PyProof.Rows PySem.HandSPX
section
variable {M : Model} {prog : Program} {w : World} {A : Around} {E : Value → Shared → Prop} {R : Result → Shared → Prop} {h : Heap} {g : Array GenState} {d : Drawn} {t : Nat} {os : OsState}
variable {nm q : Str} {C N : Addr} {bs bm bmB : List Value} {hdct : Bool} {sn : List Str} {sub : List Value} {ab : Bool} {col : Option Bool} {dd : Option Addr} {k0 k1 k2 k3 k5 : Option Value} {B newId initId : String}
theorem check_new_kw (F : ExcBaseFacts B newId initId bmB) (hT : ∀ X : String, bm.contains (.type X) = bmB.contains (.type X)) {rest : List Value} {kw : List (Str × Value)} {Q : Unit → Shared → Prop}
    (hC : h.get? C = some (excClassObj nm q C N bs bm hdct sn sub ab col dd k0 k1 k2 k3 k5 newId)) (hq : Q () ⟨h, g, d, t, os⟩) : wpAny M A (checkBuiltinCall newId ⟨.ref C :: rest, kw⟩) Q E ⟨h, g, d, t, os⟩ := by
  have hcont : (Value.ref C :: bm).contains (.type B) = true := by rw [List.contains_cons, hT, F.hasB, Bool.or_true]
  have hstar := F.noStar
  simp only [checkBuiltinCall, F.newKind, F.newSplit, F.newRow]
  repeat (first | refine wpAny_loadPart_at hC ?_ | (refine wpAny_isSubtype_exc hC ?_; rw [hcont]) | refine wpAny_staticBase_exc hC ?_ | refine wpAny_madeBy_exc hC ?_ | simp only [bne_self_eq_false, Bool.false_eq_true, if_false] | wp_step)
  exact hq
theorem new_kw (F : ExcBaseFacts B newId initId bmB) (hT : ∀ X : String, bm.contains (.type X) = bmB.contains (.type X)) {rest : List Value} {kw : List (Str × Value)}
    (hC : h.get? C = some (excClassObj nm q C N bs bm hdct sn sub ab col dd k0 k1 k2 k3 k5 newId))
    (hq : R (.ok (.ret (.ref (h.objs.size + 1)))) ⟨(h.push { cls := .type "tuple", data := .seq rest.toArray }).push
      { cls := .ref C, data := .fields #[.ref h.objs.size, .none, .none, .none, .bool false, .none] }, g, d, t, os⟩) (hrest : rest.length ≤ sizeLine) :
    codeAny (model prog w) A (.builtin newId ⟨.ref C :: rest, kw⟩) R ⟨h, g, d, t, os⟩ := by
  have hends := F.ends
  have hcB : (Value.ref C :: bm).contains (.type B) = true := by rw [List.contains_cons, hT, F.hasB, Bool.or_true]
  have hcA : (Value.ref C :: bm).contains (.type "AttributeError") = false := by rw [List.contains_cons, hT, F.noAttr]; rfl
  have hcN : (Value.ref C :: bm).contains (.type "NameError") = false := by rw [List.contains_cons, hT, F.noName]; rfl
  refine codeAny_builtinAt F.entry ?_
  unfold Builtin.«BaseException.__new__»
  refine wpAt_bind ?_
  show wpAt _ _ _ (stack >>= _) _ _ _
  refine wpAt_bind (wpAt_stack fun p below => wpAt_of_wpAny ?_)
  wp_walk
  refine wpAt_of_wpAny ?_
  rw [F.owner]
  repeat (first | with_reducible refine wpAny_madeHere_exc F.canon hC ?_ | with_reducible refine wpAny_loadPart_at hC ?_ | (with_reducible refine wpAny_isSubtype_exc hC ?_; first | rw [hcB] | rw [hcA] | rw [hcN]) | wp_step)
  show R _ _
  rw [Heap.size_push]
  exact hq
theorem type_call_kw (F : ExcBaseFacts B newId initId bmB) (hT : ∀ X : String, bm.contains (.type X) = bmB.contains (.type X)) {rest : List Value} {kw : List (Str × Value)} {fI : Addr} {Q : Fin → Shared → Prop}
    (hC : h.get? C = some (excClassObj nm q C N bs bm hdct sn sub ab col dd k0 k1 k2 k3 k5 newId))
    (hi : W.Looks (model prog w) h (typeLookup (.ref C) "__init__") (some (.ref fI))) (hb : ∀ self, W.Looks (model prog w) h (bindSpecial (.ref fI) self) (.ref fI, [self])) (hrest : rest.length ≤ sizeLine)
    (hq : codeAny (model prog w) A (.call (.ref fI) ⟨.ref (h.objs.size + 1) :: rest, kw⟩)
      (fun r s' => match r with | .ok (.ret v) => v = .none ∧ Q (.done (.ret (.ref (h.objs.size + 1)))) s' | .ok _ => False | .error e => E e s')
      ⟨(h.push (W.kdv_tup rest)).push (excO C h.objs.size), g, d, t, os⟩) :
    wpAny (model prog w) A (Builtin.«type.__call__» ⟨.ref C :: rest, kw⟩) Q E ⟨h, g, d, t, os⟩ := by
  repeat (first | with_reducible refine wpAny_loadPart_at hC ?_ | with_reducible refine wpAny_madeBy_exc hC ?_ | wp_step)
  refine codeAny_call_builtin_code (Code.quiet_builtin _ F.quiet) (check_new_kw F hT hC ?_)
  refine new_kw F hT hC ?_ hrest
  show wpAny _ _ _ _ _ _
  have k : ∀ b o, h.get? b = some o → ((h.push (W.kdv_tup rest)).push (excO C h.objs.size)).get? b = some o := fun b o e => Heap.get?_push_of_some _ (Heap.get?_push_of_some _ e)
  have hC₁ := k _ _ hC
  have hget : ((h.push (W.kdv_tup rest)).push (excO C h.objs.size)).get? (h.objs.size + 1) = some (excO C h.objs.size) := by heap_get
  have hcC : (Value.ref C :: bm).contains (.ref C) = true := by simp
  have i1 := hi.keeps k
  have b1 := (hb (.ref (h.objs.size + 1))).keeps k
  unfold isInstance
  repeat (first | with_reducible refine wpAny_loadPart_at hget ?_ | (with_reducible refine wpAny_isSubtype_exc hC₁ ?_; rw [hcC]) | wp_step)
  show wpAny _ _ (typeLookup (.ref C) _) _ _ _
  refine i1.at ?_
  refine wpAny_holding (wpAny_bind (b1.at ?_))
  refine wpAny_bind (wpAny_call (codeAny_mono hq fun r s' z => ?_))
  rcases r with e | (v | _ | _ | _) <;> first | exact z | exact z.elim | skip
  obtain ⟨rfl, z⟩ := z
  first
    | exact wpAny_pure (wpAny_pure z)
    | (wp_walk; exact z)
theorem check_type_kw {rest : List Value} {kw : List (Str × Value)} {Q : Unit → Shared → Prop} (hC : h.get? C = some (excClassObj nm q C N bs bm hdct sn sub ab col dd k0 k1 k2 k3 k5 newId))
    (hq : Q () ⟨h, g, d, t, os⟩) : wpAny M A (checkBuiltinCall "type.__call__" ⟨.ref C :: rest, kw⟩) Q E ⟨h, g, d, t, os⟩ := by
  have f3 := tc_sub
  have hT : (⟨h, g, d, t, os⟩ : Shared).TypeIs (.ref C) "type" := ⟨_, hC, rfl⟩
  simp only [checkBuiltinCall, tc_kind, tc_split]
  repeat (any_goals (first | assumption | with_reducible refine wpAny_loadPart_at hC ?_ | with_reducible refine wpAny_onRaise ?_ | with_reducible refine wpAny_map ?_ | wp_step))
theorem call_kw (F : ExcBaseFacts B newId initId bmB) (hT : ∀ X : String, bm.contains (.type X) = bmB.contains (.type X)) {rest : List Value} {kw : List (Str × Value)} {fI : Addr}
    (hC : h.get? C = some (excClassObj nm q C N bs bm hdct sn sub ab col dd k0 k1 k2 k3 k5 newId))
    (hi : W.Looks (model prog w) h (typeLookup (.ref C) "__init__") (some (.ref fI))) (hb : ∀ self, W.Looks (model prog w) h (bindSpecial (.ref fI) self) (.ref fI, [self])) (hrest : rest.length ≤ sizeLine)
    (hq : codeAny (model prog w) (A.under (.builtin "type.__call__" ⟨.ref C :: rest, kw⟩)) (.call (.ref fI) ⟨.ref (h.objs.size + 1) :: rest, kw⟩) (W.InitBack (h.objs.size + 1) R)
      ⟨(h.push (W.kdv_tup rest)).push (excO C h.objs.size), g, d, t, os⟩) :
    codeAny (model prog w) A (.call (.ref C) ⟨rest, kw⟩) R ⟨h, g, d, t, os⟩ := by
  have f1 := tc_lookup
  have f2 := tc_bind (.ref C)
  have hTy : (⟨h, g, d, t, os⟩ : Shared).TypeIs (.ref C) "type" := ⟨_, hC, rfl⟩
  refine codeAny_of_tree ?_
  show wpAny _ _ (callAny (.ref C) _) _ _ _
  repeat (any_goals (first | assumption | with_reducible refine wpAny_loadPart_at hC ?_ | wp_step))
  refine ⟨rfl, ?_⟩
  refine codeAny_call_builtin_at (Code.quiet_builtin _ (by decide +kernel)) entry_typeCall (check_type_kw hC (type_call_kw F hT hC hi hb hrest ?_))
  refine codeAny_mono hq fun r s' z => ?_
  rcases r with e | (v | _ | _ | _) <;> exact z
end
end EK
end PySem
namespace PySem.W
open PySem PySem.Spec PySem.Calls PyProof.Rows
section
variable {prog : Program} {w : World} {A : Around} {E : Value → Shared → Prop} {s : Shared} {K : Frag} {x D : Addr} {ox : Obj} {od : Option Obj}
theorem find_dataN {C : Addr} {name : Str} {a g : Value} (hc : (clsIn K C).isSome = true) (ha : findIn K (.ref C) name = some (some a)) (hg : specialIn K a "__get__" = some (some g)) (ht : takesIn K a = some true) : findObj K C od name = some (.bind g a) := by
  obtain ⟨cd, hc⟩ := Option.isSome_iff_exists.mp hc
  unfold findObj
  rw [hc, Option.bind_some, ha, Option.bind_some]
  simp [hg, ht]
theorem kin_classEd {Q : Option Value → Shared → Prop} (hga : findIn K (.ref D) "__getattribute__" = some (some (.builtin "BaseException.__getattribute__"))) (hgt : findIn K (.ref D) "__getattr__" = some none) (hsub : subIn K (.ref D) (.type "BaseException") = some true)
    (hdct : hasDictIn K D = true) (ha : findIn K (.ref D) "__class__" = some (some (.builtin "object.__class__")))
    (hn : specialIn K (.builtin "object.__class__") "__get__" = some (some (.builtin "getset_descriptor.__get__"))) (htk : takesIn K (.builtin "object.__class__") = some true) (hm : mroIn K D (.type "object") = some true)
    (X : K.In s.heap) (I : InstAt s.heap x ox D od) (h : Q (some (.ref D)) { s with toks := s.toks + 1 }) : wpAny (model prog w) A (getAttr? (.ref x) "__class__") Q E s := by
  have hf : findObj K D od "__class__" = some (.bind (.builtin "getset_descriptor.__get__") (.builtin "object.__class__")) := find_dataN (by obtain ⟨cd, hc, _⟩ := any_some hdct; rw [hc]; rfl) ha hn htk
  obtain ⟨hp, g, d, t, os⟩ := s
  have L0 := I.type (M := model prog w)
  have L1 := looks_findIn (M := model prog w) X hga
  have L2 := looks_findIn (M := model prog w) X hgt
  have L3 := looks_find (M := model prog w) X I hf
  have sub : Looks (model prog w) hp (isInstance (.ref x) (.type "BaseException")) true := L0.andThen (looks_subIn X hsub)
  have hx0 : (false && onTheHeap (Value.builtin "BaseException.__getattribute__")) = false := rfl
  have hx2 : (Value.builtin "BaseException.__getattribute__" == Value.builtin "object.__getattribute__") = false := by decide +kernel
  have hx1 : (onTheHeap (Value.ref D) && Value.builtin "BaseException.__getattribute__" == Value.builtin "object.__getattribute__") = false := by rw [hx2]; rfl
  unfold getAttr? getAttrBy? getAttrBy
  refine wpAny_bind (wpAny_mkText (wpAny_bind (wpAny_attempt (wpAny_holding (wpAny_bind (L0.at (wpAny_bind (L1.at ?_))))))))
  show wpAny _ _ (if (onTheHeap (Value.ref D) && Value.builtin "BaseException.__getattribute__" == Value.builtin "object.__getattribute__") = true then _ else _) _ _ _
  rw [hx1, if_neg Bool.false_ne_true]
  unfold getAttrByItsOwn hookBefore
  refine wpAny_bind ?_
  rw [if_pos (show onTheHeap (Value.ref D) = true from rfl)]
  refine L2.at ?_
  refine wpAny_bind (wpAny_attempt (wpAny_holding ?_))
  unfold callGetattribute
  rw [hx0, if_neg Bool.false_ne_true]
  unfold boundAndCalled
  rw [PySem.F.excAttr_ValueError.ga.bind (.ref x)]
  refine wpAny_bind (wpAny_pure ?_)
  show wpAny _ _ (call (.builtin "BaseException.__getattribute__") [.ref x, .str "__class__" t]) _ _ _
  refine wpAny_call (codeAny_call_builtin PySem.F.excAttr_ValueError.ga.plain PySem.F.entry_bexc_ga ?_)
  refine @check_slot (model prog w) _ _ ⟨hp, g, d, t + 1, os⟩ "BaseException.__getattribute__" "BaseException" "__getattribute__" (.ref x) [.str "__class__" t] [] _ (by decide +kernel) (by decide +kernel) sub (PySem.F.args_bexc_ga (.ref x) (.str "__class__" t)) ?_
  unfold Builtin.«object.__getattribute__»
  refine wpAny_bind (wpAny_of_eq (a := ((Value.ref x : Value), [Value.str "__class__" t])) (by first | rfl | (simp only [slotArgs]; rfl)) ?_)
  refine wpAny_bind (wpAny_pure (wpAny_bind (L0.at (wpAny_bind (L3.at ?_)))))
  show wpAny _ _ (holding [Value.builtin "object.__class__"] (call (.builtin "getset_descriptor.__get__") [.builtin "object.__class__", .ref x, .ref D]) >>= ret) _ _ _
  refine wpAny_bind (wpAny_holding (wpAny_call (class_get (s := ⟨hp, g, d, t + 1, os⟩) (ox := ox) (od := od) X I hm ?_)))
  refine wpAny_pure ?_
  show wpAny _ _ (handedOut (.ref D)) _ _ _
  rw [handedOut_of (v := .ref D) rfl]
  first
    | exact wpAny_pure (wpAny_pure h)
    | exact wpAny_pure h
    | exact wpAny_pure (wpAny_bind (wpAny_pure (wpAny_pure h)))
theorem kitx_excd (hga : findIn K (.ref D) "__getattribute__" = some (some (.builtin "BaseException.__getattribute__"))) (hgt : findIn K (.ref D) "__getattr__" = some none) (hsub : subIn K (.ref D) (.type "BaseException") = some true) (hdct : hasDictIn K D = true) (ha : findIn K (.ref D) "__class__" = some (some (.builtin "object.__class__")))
    (hn : specialIn K (.builtin "object.__class__") "__get__" = some (some (.builtin "getset_descriptor.__get__"))) (htk : takesIn K (.builtin "object.__class__") = some true) (hm : mroIn K D (.type "object") = some true) :
    KitX K (.ref x) (.ref D) (fun h => ∃ ox od, InstAt h x ox D od) where
  ty := fun _ _ _ ⟨_, _, I⟩ => I.type
  it := fun _ _ X _ => by
    obtain ⟨cdD, hcD, _⟩ := any_some hdct
    unfold clsIn at hcD
    split at hcD
    · rename_i c' d' cd' sl' ho
      intro A' Q' E' s' k q
      unfold isType loadHead
      exact wpAny_bind (wpAny_loadPart (k _ _ (X _ _ ho)) (wpAny_pure q))
    · cases hcD
  ne := fun h tp dd its n sl X htp => by
    obtain ⟨cdD, hcD, _⟩ := any_some hdct
    refine Bool.eq_false_iff.mpr fun q => ?_
    have e : D = tp := Value.ref.inj (beq_iff_eq.mp q)
    subst e
    unfold clsIn at hcD
    split at hcD
    · rename_i c' d' cd' sl' ho
      have z := (X _ _ ho).symm.trans htp
      cases z
    · cases hcD
  ca := fun X ⟨_, _, I⟩ k => kin_classEd hga hgt hsub hdct ha hn htk hm X I k
end
end PySem.W

namespace EV
open PySem PySem.Spec PyProof.Rows L2
/-- an error of the class at C with the fields fs stands at a -/
def ErrAt (H : Hp) (a C : Addr) (fs : List (Str × V)) : Prop := (fs = [] ∧ H a = some (exo a C none)) ∨ ∃ dx, H a = some (exo a C (some dx)) ∧ H dx = some (exd dx fs)
theorem ErrAt.of_same {H H' : Hp} {a C : Addr} {fs : List (Str × V)} (e : ErrAt H a C fs) (k : ∀ b o, H b = some o → H' b = some o) : ErrAt H' a C fs := by
  rcases e with ⟨h1, h2⟩ | ⟨dx, h1, h2⟩
  · exact .inl ⟨h1, k _ _ h2⟩
  · exact .inr ⟨dx, k _ _ h1, k _ _ h2⟩
section
variable {X : Cx} {pins : List (Addr × Obj)} {σ : L2.St} {H : Hp} {s : Shared}
theorem ErrAt.inst (I : Inv X pins σ H s) {a C : Addr} {fs : List (Str × V)} (e : ErrAt H a C fs) : ∃ ox od, PySem.W.InstAt s.heap a ox C od ∧ ∀ f, RelO (fs.lookup f) ((od.bind fun o => PySem.W.lookIn f o).join) := by
  rcases e with ⟨rfl, h⟩ | ⟨dx, h1, h2⟩
  · obtain ⟨t1, ho⟩ := exo_at I.hok h
    exact ⟨_, none, ⟨ho, rfl, rfl, trivial⟩, fun f => trivial⟩
  · obtain ⟨t1, ho⟩ := exo_at I.hok h1
    obtain ⟨mA, hns, hr⟩ := exd_at I.hok h2
    obtain ⟨od, hod, hl⟩ := lookIn_ns hns
    refine ⟨_, some od, ⟨ho, rfl, rfl, hod⟩, fun f => ?_⟩
    show RelO (fs.lookup f) (PySem.W.lookIn f od).join
    rw [hl f]
    exact hr f
end
/-! ### the field of an error that is a value -/
def tEf (K : PySem.W.Frag) (f : Str) (te : TE) : TE := fun σ H Q => te σ H fun x H1 => ∃ (a C dx : Addr) (fs : List (Str × V)) (v : V), x = .ref a ∧ XfC K C ∧ PySem.W.findIn K (.ref C) f = some none ∧ H1 a = some (exo a C (some dx)) ∧ H1 dx = some (exd dx fs) ∧ fs.lookup f = some v ∧ Q v H1
theorem pe_ef {X : Cx} {e : Expr} {te : TE} {pos : Pos} {n : Str} (he : PE X e te) (hb : attributeBase e n X.env (eval e X.env) = eval e X.env := by rfl) : PE X (.Attribute e n pos) (tEf X.K n te) := by
  refine ⟨fun pins s σ H Q I h => ?_⟩
  refine attr_of hb (thn (he.run pins s σ H _ I h) fun u s1 hh => ?_)
  obtain ⟨x, H1, I1, rx, a, C, dx, fs, v, ex, T, hno, h1, h2, l, q⟩ := hh
  subst ex
  obtain rfl : u = Value.ref a := rx
  obtain ⟨t1, ho⟩ := exo_at I1.hok h1
  obtain ⟨mA, hns, hr⟩ := exd_at I1.hok h2
  obtain ⟨od, hod, hl⟩ := lookIn_ns hns
  obtain ⟨u, hu, ru⟩ := RelO.some_of (v := v) (o := mA n) (by rw [← l]; exact hr n)
  have J : PySem.W.InstAt s1.heap a _ C (some od) := ⟨ho, rfl, rfl, hod⟩
  exact HandSPX.exc_get I1.kIn J T.ga T.gg T.exC (PySem.W.findObj_own T.hdC hno rfl (by rw [hl, hu])) (handed_of ru) ⟨v, H1, I1.tok _, ru, q⟩
/-! ### isinstance of it -/
def rIsX (K : PySem.W.Frag) : List V → Hp → VK → Prop := fun xs H Q => ∃ (a D : Addr) (fs : List (Str × V)) (c : V) (cv : Value) (b : Bool), xs = [.ref a, c] ∧ ErrAt H a D fs ∧ ClsV c cv ∧ ExcC K D ∧ PySem.W.kitOne K (.ref D) cv = some b ∧ Q (.bl b) H
theorem call_isX {X : Cx} : CallR X (.builtin "isinstance") (rIsX X.K) := by
  intro pins s σ H xs us Q I r h
  obtain ⟨a, D, fs, c, cv, b, rfl, ea, k, C, e, q⟩ := h
  obtain ⟨u1, u2, rfl, r1, r2⟩ := vals2 r
  have e2 := k.eq r2
  subst e2
  cases (show u1 = Value.ref a from r1)
  obtain ⟨ox, od, J, _⟩ := ea.inst I
  exact PySem.W.kia_one (PySem.W.kitx_excd C.hg C.hk C.hs C.hd C.ha C.hn C.ht C.hm) I.kIn ⟨_, _, J⟩ e (fun z => nomatch z) fun tk => ⟨.bl b, H, I.tok tk, rfl, q⟩
/-! ### made -/
section
variable {X : Cx} {CX : CXT} {k : Nat} {C fI : Addr} {fd : FuncData} {ps : List Str} {sp : Sp} {E : XK} {x : Str} {p pos : Pos} {e : Expr} {es : List Expr} {ta : TA}
theorem run_mkE {pins : List (Addr × Obj)} {σ : L2.St} {H : Hp} {s : Shared} {Q : VK} {us ws : List Value} {kw : List (Str × Value)} {zs : List V} (T : OexC X.K C) (iC : PySem.W.findIn X.K (.ref C) "__init__" = some (some (.ref fI))) (tI : PySem.W.typeIn X.K (.ref fI) = some (.type "function"))
    (F : FnOk X.prog X.w X.K X.mg X.base CX k fI fd ps sp) (hr : Room (k + 1) X.A) (hx : Passes CX X E) (I : Inv X pins σ H s) (hus : us.length ≤ 1000)
    (bt : ∀ (s' : Shared) (self : Value), X.K.In s'.heap → (self :: ws).length = ps.length → BindsTo s' fd ⟨self :: us, kw⟩ (ps.zip (self :: ws))) (r : Vals zs ws)
    (h : ∀ a, H a = none → sp (.ref a :: zs) (upd H a (exo a C none)) (fun v H2 => v = .non ∧ Q (.ref a) H2) E) :
    wpAny (model X.prog X.w) X.A (call (.ref C) us kw) (EP X pins σ Q) X.xe s := by
  obtain ⟨nm, q, N, bs, bm, sn, sub, ab, col, dd, k0, k1, k2, k3, k5, hC, hbm⟩ := T.cls
  obtain ⟨hp, g, dr, tk, os⟩ := s
  have hsz : hp.objs.size ≤ hp.objs.size + 1 := Nat.le_succ _
  have hn : H (hp.objs.size + 1) = none := I.hok.fresh hsz
  have hq := h (hp.objs.size + 1) hn
  have kk : ∀ b o, hp.get? b = some o → ((hp.push (PySem.W.kdv_tup us)).push (PySem.HandSPX.excO C hp.objs.size)).get? b = some o := fun b o e => Heap.get?_push_of_some _ (Heap.get?_push_of_some _ e)
  have hget : ((hp.push (PySem.W.kdv_tup us)).push (PySem.HandSPX.excO C hp.objs.size)).get? (hp.objs.size + 1) = some (PySem.HandSPX.excO C hp.objs.size) := by heap_get
  have I2 : Inv X pins σ (upd H (hp.objs.size + 1) (exo (hp.objs.size + 1) C none)) ⟨(hp.push (PySem.W.kdv_tup us)).push (PySem.HandSPX.excO C hp.objs.size), g, dr, tk, os⟩ :=
    I.laid (t' := tk) (a := hp.objs.size + 1) (o := exo (hp.objs.size + 1) C none) (h' := (hp.push (PySem.W.kdv_tup us)).push (PySem.HandSPX.excO C hp.objs.size)) kk hsz (exo_ok hget)
  have r2 : Vals (V.ref (hp.objs.size + 1) :: zs) (Value.ref (hp.objs.size + 1) :: ws) := .cons rfl r
  have hl : (Value.ref (hp.objs.size + 1) :: ws).length = ps.length := by
    have e := r2.length
    rw [F.len _ _ _ _ hq] at e
    exact e.symm
  have hus2 : us.length ≤ sizeLine := by
    rw [sizeLine_eq]
    omega
  refine wpAny_call (PySem.EK.call_kw PySem.F.excBase_ValueError (fun Y => PySem.HandSPX.refsVE_contains Y bm hbm) (I.kIn _ _ hC) (PySem.W.looks_findIn I.kIn iC) (fun self => PySem.W.bind_fn I.kIn self tI) hus2
    (codeAny_mono (F.run _ X.stack _ _ ⟨Value.ref (hp.objs.size + 1) :: us, kw⟩ (Value.ref (hp.objs.size + 1) :: ws) _ _ E (hr.make C us kw) (I2.env0.make C us kw) (bt _ _ I2.kIn hl) r2 hq) fun r s' hq' => ?_))
  cases r with
  | error er => exact hx pins σ _ _ er s' I2 hq'
  | ok fl =>
    cases fl with
    | ret u =>
      obtain ⟨v, H', I3, rv, ev, q3⟩ := I2.after hq'
      subst ev
      exact ⟨rv, ⟨V.ref (hp.objs.size + 1), H', I3, rfl, q3⟩⟩
    | next => exact False.elim hq'
    | brk => exact False.elim hq'
    | cont => exact False.elim hq'
/-- C(e, ..) and C(), the error as a value; C's own __init__ keeps sp -/
def tMkE (C : Addr) (sp : Sp) (E : XK) (ta : TA) : TE := fun σ H Q => ta σ H fun vs H1 => vs.length ≤ 1000 ∧ ∀ a, H1 a = none → sp (.ref a :: vs) (upd H1 a (exo a C none)) (fun v H2 => v = .non ∧ Q (.ref a) H2) E
/-- C(k = v, ..) -/
def tMkEk (C : Addr) (m : Nat) (sp : Sp) (E : XK) (gV : List V → List V) (tk : TA) : TE := fun σ H Q => tk σ H fun zs H1 => zs.length = m ∧ ∀ a, H1 a = none → sp (.ref a :: gV zs) (upd H1 a (exo a C none)) (fun v H2 => v = .non ∧ Q (.ref a) H2) E
theorem pe_mkE (T : OexC X.K C) (iC : PySem.W.findIn X.K (.ref C) "__init__" = some (some (.ref fI))) (tI : PySem.W.typeIn X.K (.ref fI) = some (.type "function")) (F : FnOk X.prog X.w X.K X.mg X.base CX k fI fd ps sp) (hr : Room (k + 1) X.A) (hb : Binds X.K fd ps []) (hx : Passes CX X E)
    (hg : Gl X x) (hm : X.mg x = some (.ref C)) (ha : PA X (e :: es) ta)
    (hdb : (x == ("__debug__" : Str)) = false := by decide) (he : starEach (e :: es) X.env = (false, eval e X.env) :: starEach es X.env := by rfl) (hpl : (backTo pos (starEach es X.env)).any (·.1) = false := by rfl) :
    PE X (.Call (.Name x p) (e :: es) [] pos) (tMkE C sp E ta) := by
  refine ⟨fun pins s σ H Q I h => ?_⟩
  refine wpAny_Call_Name_kw (ld_glob I hg hm ?_ hdb)
  refine PySem.W.callWith_K (h₀ := X.base) I.ok.mod.kin T.kC (thn (ha.run pos pins s σ H _ I h) fun us s1 ⟨vs, H1, I1, r1, hz, q1⟩ => ⟨I1.kIn, ?_⟩) he hpl
  refine run_mkE (ws := us) T iC tI F hr hx I1 (by show us.length ≤ 1000; rw [← r1.length]; exact hz) (fun s' self hk hl => ?_) r1 q1
  have z := hb s' (self :: us) hk (by rw [List.append_nil]; exact hl)
  rw [List.append_nil] at z
  exact z
theorem pe_mkE0 (T : OexC X.K C) (iC : PySem.W.findIn X.K (.ref C) "__init__" = some (some (.ref fI))) (tI : PySem.W.typeIn X.K (.ref fI) = some (.type "function")) (F : FnOk X.prog X.w X.K X.mg X.base CX k fI fd ps sp) (hr : Room (k + 1) X.A) (hb : Binds X.K fd ps []) (hx : Passes CX X E)
    (hg : Gl X x) (hm : X.mg x = some (.ref C)) (hdb : (x == ("__debug__" : Str)) = false := by decide) :
    PE X (.Call (.Name x p) [] [] pos) (tMkE C sp E tNil) := by
  refine ⟨fun pins s σ H Q I h => ?_⟩
  refine wpAny_Call_Name_kw (ld_glob I hg hm ?_ hdb)
  obtain ⟨_, h⟩ := (show ([] : List V).length ≤ 1000 ∧ _ from h)
  refine PySem.W.callWith_K0 I.kIn T.kC (run_mkE (us := []) (ws := []) (kw := []) T iC tI F hr hx I (by decide) (fun s' self hk hl => ?_) .nil h)
  have z := hb s' [self] hk hl
  exact z
theorem pe_mkEk {ks : List Str} {g : List Value → List Value} {gV : List V → List V} {kws : List Keyword} {tk : TA} (T : OexC X.K C) (iC : PySem.W.findIn X.K (.ref C) "__init__" = some (some (.ref fI))) (tI : PySem.W.typeIn X.K (.ref fI) = some (.type "function"))
    (F : FnOk X.prog X.w X.K X.mg X.base CX k fI fd ps sp) (hr : Room (k + 1) X.A) (hx : Passes CX X E)
    (hb : ∀ (s' : Shared) (self : Value) (ws : List Value), ws.length = ks.length → BindsTo s' fd ⟨[self], ks.zip ws⟩ (ps.zip (self :: g ws))) (hrel : ∀ {zs : List V} {ws : List Value}, Vals zs ws → zs.length = ks.length → Vals (gV zs) (g ws))
    (hg : Gl X x) (hm : X.mg x = some (.ref C)) (hkw : PK X kws tk)
    (hall : (backToKw pos (keywordEach kws X.env)).all (·.1.isSome) = true := by rfl) (hks : (backToKw pos (keywordEach kws X.env)).filterMap (·.1) = ks := by rfl) (hdb : (x == ("__debug__" : Str)) = false := by decide)
    (hpl : ((backTo pos (starEach [] X.env)).any (·.1) || (backToKw pos (keywordEach kws X.env)).any (·.1.isNone)) = false := by rfl) :
    PE X (.Call (.Name x p) [] kws pos) (tMkEk C ks.length sp E gV tk) := by
  refine ⟨fun pins s σ H Q I h => ?_⟩
  refine wpAny_Call_Name_kw (ld_glob I hg hm ?_ hdb)
  refine PySem.W.callWith_KW0 (h₀ := X.base) I.ok.mod.kin T.kC hall ?_ hpl
  refine thn (hkw.run pos pins s σ H _ I h) fun ws s2 ⟨zs, H2, I2, rz, l2, q2⟩ => ⟨I2.kIn, ?_⟩
  rw [hks]
  exact run_mkE (us := []) T iC tI F hr hx I2 (by decide) (fun s' self hk hl => hb s' self ws (by rw [← rz.length]; exact l2)) (hrel rz l2) q2
/-- an error class without an __init__ of its own, made with nothing -/
theorem pe_exc0 {bmB : List Value} {B newId initId : String} (F : ExcBaseFacts B newId initId bmB) (q : PySem.W.excIn X.K C bmB newId = true) (hm : X.mg x = some (.ref C)) (kC : PySem.W.keepIn X.K (.ref C) = true) (hg : Gl X x) (hdb : (x == ("__debug__" : Str)) = false := by decide) :
    PE X (.Call (.Name x p) [] [] pos) (fun σ H Q => ∀ a, H a = none → Q (.ref a) (upd H a (exo a C none))) := by
  refine ⟨fun pins s σ H Q I h => ?_⟩
  refine wpAny_Call_Name_kw (ld_glob I hg hm ?_ hdb)
  refine PySem.W.callWith_K0 I.kIn kC ?_
  obtain ⟨bm, N, nm, qn, bs, hdct, sn, sub, ab, col, dd, k0, k1, k2, k3, k5, mN, hC, hN, hni, T⟩ := exc_obj I.kIn q
  refine wpAny_call_exc_subT F T hC hN hni (fun h' a hm => ?_) (by show 0 ≤ sizeLine; exact Nat.zero_le _)
  have hn : H a = none := I.hok.gone hm.new
  obtain ⟨t, ht, _, _⟩ := hm.there
  exact ⟨.ref a, upd H a (exo a C none), I.laidN hm.keeps hm.new hn (exo_ok ht), rfl, h a hn⟩
/-- Base.__init__(self, ..), Base an own error class without an __init__ of its own -/
theorem pe_binit {pl : Sem Bool} {O : Addr} {p1 p2 : Pos} (r : ClX.CRead X.K O (.type "type")) (vV : PySem.W.findCls X.K (.ref O) (.type "type") "__init__" = some (.val (.builtin "ValueError.__init__"))) (hg : Gl X x) (hm : X.mg x = some (.ref O)) (ha : PA X (e :: es) ta)
    (hdb : (x == ("__debug__" : Str)) = false := by decide)
    (hc : eval (.Call (.Attribute (.Name x p1) "__init__" p2) (e :: es) [] pos) X.env = (do
      let ov ← eval (.Name x p1) X.env
      standAt p2.atName
      let (f, first) ← holding [ov] (getMethod ov "__init__" pl)
      callWith pos f first (backTo pos (starEach (e :: es) X.env)) (backToKw pos (keywordEach [] X.env))) := by rfl)
    (he : starEach (e :: es) X.env = (false, eval e X.env) :: starEach es X.env := by rfl) (hpl : (backTo pos (starEach es X.env)).any (·.1) = false := by rfl) :
    PE X (.Call (.Attribute (.Name x p1) "__init__" p2) (e :: es) [] pos) (tVeI X.K ta) := by
  refine ⟨fun pins s σ H Q I h => ?_⟩
  refine PySem.W.methodCall_KW (ld_glob I hg hm ?_ hdb) hc
  refine PySem.W.method_cls I.kIn r.ga (PySem.W.cls_value I.kIn r.rd vV (by decide +kernel) ?_)
  show wpAny _ _ (callWith pos (Value.builtin "ValueError.__init__") [] (backTo pos (starEach (e :: es) X.env)) []) _ _ _
  refine PyProof.Rows.callWith_method1 (thn (ha.run pos pins _ σ H _ (I.tok _) h) fun us s1 ⟨vs, H1, I1, r1, a, C, ws, ev, hl, T, ea, q⟩ => ?_) he hpl
  subst ev
  cases r1 with
  | @cons _ u0 _ ur ra rw' =>
    obtain rfl : u0 = Value.ref a := ra
    have hlen : ur.length ≤ sizeLine := by
      rw [← Paired.length rw', sizeLine_eq]
      omega
    exact oinit_ok T I1 ea hlen fun s' J => ⟨.non, H1, J, rfl, q⟩
end
end EV
namespace EV
open PySem PySem.Spec PyProof.Rows L2
/-! ### data with dicts, to be shown -/
def keyD : Key → PyData
  | .inl i => .int i
  | .inr x => .str x
mutual
inductive Dq (K : PySem.W.Frag) (H : Hp) : V → PyData → Prop
  | non : Dq K H .non .none
  | bl (b : Bool) : Dq K H (.bl b) (.bool b)
  | int (i : Int) : Dq K H (.int i) (.int i)
  | str (x : Str) : Dq K H (.str x) (.str x)
  | lst {a : Addr} {xs : List V} {ds : List PyData} : SqL K H a xs → a ≠ sysModules → DqAll K H xs ds → Dq K H (.ref a) (.list ds)
  | tup {a : Addr} {xs : List V} {ds : List PyData} : SqT K H a xs → DqAll K H xs ds → Dq K H (.ref a) (.tuple ds)
  | dct {a : Addr} {kvs : List (Key × V)} {ds : List PyData} : H a = some (.dK kvs) → DqAll K H (kvs.map (·.2)) ds → Dq K H (.ref a) (.dict ((kvs.map fun p => keyD p.1).zip ds))
inductive DqAll (K : PySem.W.Frag) (H : Hp) : List V → List PyData → Prop
  | nil : DqAll K H [] []
  | cons {v : V} {vs : List V} {d : PyData} {ds : List PyData} : Dq K H v d → DqAll K H vs ds → DqAll K H (v :: vs) (d :: ds)
end
theorem DqAll.len {K : PySem.W.Frag} {H : Hp} : ∀ {vs : List V} {ds : List PyData}, DqAll K H vs ds → vs.length = ds.length
  | _, _, .nil => rfl
  | _, _, .cons _ t => congrArg Nat.succ (DqAll.len t)
section
variable {X : Cx} {pins : List (Addr × Obj)} {σ : L2.St} {H : Hp} {s : Shared}
theorem keys_read {h : Heap} : ∀ {es : List DictEntry} {vs : List (Key × Value)}, Pairs (mixKind X.prog X.w) es vs → ReadsAll h (es.map (·.key)) (vs.map fun p => keyD p.1) []
  | _, _, .nil => .nil
  | _, _, .cons (e := e) (kv := kv) h1 h2 t => by
    have r := keys_read (h := h) t
    have one : Reads h e.key (keyD kv.1) [] := by
      rcases keyIs_shape (show keyIs kv.1 e.key = true from h1) with ⟨i, tk, e1, e2⟩ | ⟨y, tk, e1, e2⟩
      · rw [e1, e2]
        exact .int i tk
      · rw [e1, e2]
        exact .str y tk
    exact .cons one r
theorem vals_are : ∀ {es : List DictEntry} {vs : List (Key × Value)}, Pairs (mixKind X.prog X.w) es vs → es.map (·.val) = vs.map (·.2)
  | _, _, .nil => rfl
  | _, _, .cons h1 h2 t => by
    rw [List.map_cons, List.map_cons, h2, vals_are t]
theorem kv_vals : ∀ {kvs : List (Key × V)} {vs : List (Key × Value)}, KV kvs vs → Vals (kvs.map (·.2)) (vs.map (·.2))
  | _, _, .nil => .nil
  | _, _, .cons r t => .cons r.2 (kv_vals t)
theorem kv_keys : ∀ {kvs : List (Key × V)} {vs : List (Key × Value)}, KV kvs vs → kvs.map (fun p => keyD p.1) = vs.map (fun p => keyD p.1)
  | _, _, .nil => rfl
  | _, _, .cons r t => by rw [List.map_cons, List.map_cons, r.1, kv_keys t]
theorem zip_fst {α β : Type} : ∀ {l : List α} {m : List β}, l.length = m.length → (l.zip m).map (·.1) = l
  | [], [], _ => rfl
  | a :: l, b :: m, h => by rw [List.zip_cons_cons, List.map_cons, zip_fst (Nat.succ.inj h)]
theorem zip_snd {α β : Type} : ∀ {l : List α} {m : List β}, l.length = m.length → (l.zip m).map (·.2) = m
  | [], [], _ => rfl
  | a :: l, b :: m, h => by rw [List.zip_cons_cons, List.map_cons, zip_snd (Nat.succ.inj h)]
mutual
theorem Dq.reads (I : Inv X pins σ H s) : ∀ {v : V} {d : PyData} {u : Value}, Dq X.K H v d → RelV v u → ∃ as, Reads s.heap u d as ∧ sysModules ∉ as
  | _, _, _, .non, r => by cases r; exact ⟨_, .none, by simp⟩
  | _, _, _, .bl b, r => by cases r; exact ⟨_, .bool b, by simp⟩
  | _, _, _, .int i, r => by obtain ⟨t, rfl⟩ := r; exact ⟨_, .int i t, by simp⟩
  | _, _, _, .str x, r => by obtain ⟨t, rfl⟩ := r; exact ⟨_, .str x t, by simp⟩
  | _, _, _, .lst hs ne ha, r => by
    cases r
    obtain ⟨its, rv, ⟨o, n, ho, hc, _, hd⟩, _⟩ := I.list hs
    obtain ⟨as, hr, hn⟩ := DqAll.reads I ha rv
    refine ⟨_, Reads.list ho hc hd hr, fun z => ?_⟩
    rcases List.mem_cons.mp z with e | e
    · exact ne e.symm
    · exact hn e
  | _, _, _, .tup hs ha, r => by
    cases r
    obtain ⟨its, rv, ⟨o, ho, hc, n, hd⟩, _⟩ := I.tuple hs
    obtain ⟨as, hr, hn⟩ := DqAll.reads I ha rv
    exact ⟨_, Reads.tuple ho hc hd hr, hn⟩
  | _, _, _, .dct (a := a) (kvs := kvs) (ds := ds) he ha, r => by
    cases r
    obtain ⟨_, hsm, vs, kv, o, es, ep, ho, hx, hd, _, hp, _⟩ := (show ObjOk X.prog X.w H s.heap a (.dK kvs) from I.hok a _ he)
    obtain ⟨as, hr, hn⟩ := DqAll.reads I ha (kv_vals kv)
    have hl : (kvs.map fun p => keyD p.1).length = ds.length := by rw [List.length_map, ← ha.len, List.length_map]
    have hk := keys_read (h := s.heap) hp
    refine ⟨_, Reads.dict (as := []) (bs := as) ho hx.1 hd ?_ ?_, fun z => ?_⟩
    · rw [zip_fst hl, kv_keys kv]
      exact hk
    · rw [zip_snd hl, vals_are hp]
      exact hr
    · rcases List.mem_cons.mp z with e | e
      · exact (beq_eq_false_iff_ne.mp hsm) e.symm
      · exact hn e
theorem DqAll.reads (I : Inv X pins σ H s) : ∀ {vs : List V} {ds : List PyData} {us : List Value}, DqAll X.K H vs ds → Vals vs us → ∃ as, ReadsAll s.heap us ds as ∧ sysModules ∉ as
  | _, _, _, .nil, r => by cases r; exact ⟨_, .nil, by simp⟩
  | _, _, _, .cons h1 h2, r => by
    cases r with
    | cons r1 r2 =>
      obtain ⟨as, q1, n1⟩ := Dq.reads I h1 r1
      obtain ⟨bs, q2, n2⟩ := DqAll.reads I h2 r2
      exact ⟨_, .cons q1 q2, fun z => (List.mem_append.mp z).elim n1 n2⟩
end
end
theorem sqT_same {K : PySem.W.Frag} {H H' : Hp} (k : ∀ b o, H b = some o → H' b = some o) {a : Addr} {xs : List V} (h : SqT K H a xs) : SqT K H' a xs := by
  rcases h with (h | ⟨o, h⟩) | h
  · exact .inl (.inl (k _ _ h))
  · exact .inl (.inr ⟨o, k _ _ h⟩)
  · exact .inr h
mutual
theorem Dq.same {K : PySem.W.Frag} {H H' : Hp} (k : ∀ b o, H b = some o → H' b = some o) : ∀ {v : V} {d : PyData}, Dq K H v d → Dq K H' v d
  | _, _, .non => .non
  | _, _, .bl b => .bl b
  | _, _, .int i => .int i
  | _, _, .str x => .str x
  | _, _, .lst hs ne ha => .lst (Same.seq k hs) ne (DqAll.same k ha)
  | _, _, .tup hs ha => .tup (sqT_same k hs) (DqAll.same k ha)
  | _, _, .dct he ha => .dct (k _ _ he) (DqAll.same k ha)
theorem DqAll.same {K : PySem.W.Frag} {H H' : Hp} (k : ∀ b o, H b = some o → H' b = some o) : ∀ {vs : List V} {ds : List PyData}, DqAll K H vs ds → DqAll K H' vs ds
  | _, _, .nil => .nil
  | _, _, .cons h t => .cons (Dq.same k h) (DqAll.same k t)
end
/-! ### repr -/
def rRepr (K : PySem.W.Frag) : List V → Hp → VK → Prop := fun xs H Q => ∃ (x : V) (d : PyData), xs = [x] ∧ Dq K H x d ∧ d.showable = true ∧ d.shown.length ≤ sizeLine ∧ d.depth ≤ 60 ∧ Q (.str d.shown) H
theorem call_reprD {X : Cx} (hg : X.A.guards = some []) (hu : X.A.units + 64 < cLine) : CallR X (.builtin "repr") (rRepr X.K) := by
  intro pins s σ H xs us Q I r h
  obtain ⟨x, d, rfl, hd, hs, hz, hdp, q⟩ := h
  obtain ⟨u, rfl, ru⟩ := r.one
  cases hd with
  | non =>
    cases ru
    exact PySem.P.repr_of_none ⟨.str _, H, I.tok _, ⟨_, rfl⟩, q⟩
  | bl b =>
    cases ru
    refine PySem.P.repr_of_bool ⟨.str _, H, I.tok _, ⟨_, rfl⟩, ?_⟩
    cases b <;> exact q
  | int i =>
    obtain ⟨t, rfl⟩ := ru
    exact PySem.P.repr_of_int (by simpa [PyData.showable] using hs) ⟨.str _, H, I.tok _, ⟨_, rfl⟩, q⟩
  | str y =>
    obtain ⟨t, rfl⟩ := ru
    exact PySem.P.repr_of_str ⟨.str _, H, I.tok _, ⟨_, rfl⟩, q⟩ hz
  | lst h1 h2 h3 =>
    obtain ⟨as, hr, hn⟩ := Dq.reads I (.lst h1 h2 h3) ru
    cases ru
    exact repr_of_reads' hr hs (fun _ => hn) hg (by omega) (fun _ _ e => e) (fun h' u tk k => ⟨.str _, H, I.kept k, ⟨u, rfl⟩, q⟩) hz
  | tup h1 h2 =>
    obtain ⟨as, hr, hn⟩ := Dq.reads I (.tup h1 h2) ru
    cases ru
    exact repr_of_reads' hr hs (fun _ => hn) hg (by omega) (fun _ _ e => e) (fun h' u tk k => ⟨.str _, H, I.kept k, ⟨u, rfl⟩, q⟩) hz
  | dct h1 h2 =>
    obtain ⟨as, hr, hn⟩ := Dq.reads I (.dct h1 h2) ru
    cases ru
    exact repr_of_reads' hr hs (fun _ => hn) hg (by omega) (fun _ _ e => e) (fun h' u tk k => ⟨.str _, H, I.kept k, ⟨u, rfl⟩, q⟩) hz
/-! ### a list display: its place is told to be a new one -/
def tLstB (t : TA) : TE := fun σ H Q => t σ H fun xs H1 => xs.length ≤ sizeLine ∧ ∀ p, H1 p = none → p ≠ sysModules → Q (.ref p) (upd H1 p (.lst xs))
theorem pe_lstB {X : Cx} {es : List Expr} {t : TA} {pos : Pos} (h : PA X es t) : PE X (.List es pos) (tLstB t) := ⟨fun pins s σ H Q I hq =>
  wpAny_List_spliced (thn (h.run pos pins s σ H _ I hq) fun us s1 ⟨xs, H1, I1, r, z, q⟩ => ⟨r.length ▸ z, .ref s1.heap.objs.size, upd H1 s1.heap.objs.size (.lst xs),
    I1.laid (t' := s1.toks) (fun _ _ e => Heap.get?_push_of_some _ e) (Nat.le_refl _) ⟨z, us, 0, r, Heap.get?_push_size _ rfl⟩, rfl, q _ (I1.hok.fresh (Nat.le_refl _)) (Nat.ne_of_gt I1.big)⟩)⟩
/-! ### xs.count(True), xs a list of truth values -/
def isTrueV : Value → Bool
  | .bool b => b
  | _ => false
def rCntT (K : PySem.W.Frag) : V → List V → Hp → VK → Prop := fun x xs H Q => ∃ (p : Addr) (bs : List Bool), x = .ref p ∧ xs = [.bl true] ∧ SqL K H p (bs.map V.bl) ∧ Q (.int (bs.countP id : Nat)) H
theorem true_count : ∀ {bs : List Bool} {us : List Value}, Vals (bs.map V.bl) us → us.countP isTrueV = bs.countP id ∧ ∀ y ∈ us, ∃ b, y = .bool b
  | [], _, r => by cases r; exact ⟨rfl, fun _ h => nomatch h⟩
  | b :: bs, _, r => by
    cases r with
    | cons r1 r2 =>
      cases r1
      obtain ⟨h1, h2⟩ := true_count r2
      refine ⟨?_, fun y hy => ?_⟩
      · rw [List.countP_cons, List.countP_cons, h1] <;> rfl
      · rcases List.mem_cons.mp hy with e | e
        · exact ⟨b, e⟩
        · exact h2 y e
theorem mt_countT {X : Cx} : MtR X "list.count" (rCntT X.K) := by
  intro pins s σ H x xs v us Q I rx rxs h
  obtain ⟨p, bs, rfl, rfl, hs, q⟩ := h
  cases rx
  obtain ⟨u, rfl, ru⟩ := rxs.one
  cases ru
  obtain ⟨its, rv, ⟨⟨cls, dd, data, sl⟩, n, ho, hc, hdn, hd⟩, hlen⟩ := I.list hs
  simp only at hc hd
  subst hc hd
  obtain ⟨ec, eb⟩ := true_count rv
  refine call_meets PySem.F.slot_list_count ⟨_, ho, rfl⟩ PySem.F.entry_list_count (PySem.F.args_list_count_2 _ _)
    (SeqAt.list_countAt p its.toArray n dd sl (.bool true) isTrueV) ⟨ho, fun y hy => ?_, .int (bs.countP id : Nat), H, I.tok _, ⟨s.toks, ?_⟩, q⟩
  · obtain ⟨b, rfl⟩ := eb y (by simpa using hy)
    have z := SeqAt.EqAt.bool_bool (A := X.A.in1) (s := s) b true
    rw [show (b == true) = isTrueV (.bool b) by cases b <;> rfl] at z
    exact z
  · have e3 : its.toArray.toList.countP isTrueV = bs.countP id := ec
    show Value.int ((its.toArray.toList.countP isTrueV : Nat) : Int) s.toks = _
    rw [e3]
end EV
namespace EV
open PySem PySem.Spec PyProof.Rows L2 LamX NdefX
/-! ### a lambda without captured names, as a value -/
def LamO (f : Addr) (F : NF) (e : Expr) : HO := .ext fun h => ∃ (od : Option Addr) (sl : Array (Option Value)) (pm ctv : Value), h.get? f = some (⟨.type "function", od, .func (PySem.W.kla_fn F.name F.qual F.params e F.scope F.cl pm (.ref F.c) ctv), sl⟩ : Obj)
theorem lamO_at {P : Program} {w : World} {H : Hp} {h : Heap} {f : Addr} {F : NF} {e : Expr} (hok : HOk P w H h) (x : H f = some (LamO f F e)) : ∃ (od : Option Addr) (sl : Array (Option Value)) (pm ctv : Value), h.get? f = some (⟨.type "function", od, .func (PySem.W.kla_fn F.name F.qual F.params e F.scope F.cl pm (.ref F.c) ctv), sl⟩ : Obj) := (hok f _ x).1
theorem lamO_ne {f : Addr} {F : NF} {e : Expr} (ps : Array Value) : LamO f F e ≠ .tbl ps := fun z => by
  unfold LamO at z
  cases z
section
variable {X : Cx} {pins : List (Addr × Obj)} {σ : L2.St} {H : Hp} {s : Shared}
theorem inv_lam {F : NF} {e : Expr} {h' : Heap} {t' : Nat} {pm ctv : Value} (I : Inv X pins σ H { s with heap := h', toks := t' }) :
    Inv X pins σ (upd H h'.objs.size (LamO h'.objs.size F e)) { s with heap := h'.push ({ cls := .type "function", data := .func (PySem.W.kla_fn F.name F.qual F.params e F.scope F.cl pm (.ref F.c) ctv) } : Obj), toks := t' } := by
  have at_ : (h'.push ({ cls := .type "function", data := .func (PySem.W.kla_fn F.name F.qual F.params e F.scope F.cl pm (.ref F.c) ctv) } : Obj)).get? h'.objs.size = some ({ cls := .type "function", data := .func (PySem.W.kla_fn F.name F.qual F.params e F.scope F.cl pm (.ref F.c) ctv) } : Obj) := Heap.get?_push_size _ rfl
  exact I.laid (a := h'.objs.size) (o := LamO h'.objs.size F e) (t' := t') (fun _ _ z => Heap.get?_push_of_some _ z) (Nat.le_refl _) ⟨⟨_, _, pm, ctv, at_⟩, ⟨_, at_⟩, fun _ _ ⟨od, sl, p, t, z⟩ st => ⟨od, sl, p, t, st _ z⟩⟩
/-- its making: the code object is new, or found in the table -/
theorem lam_new {T : List (Addr × Str)} {c P : Addr} {params : Arguments} {body : Expr} {scope : Scope} {pos : Pos} {E : Value → Shared → Prop} {Q : Value → Shared → Prop} (I : Inv X pins σ H s) (TB : TabB X.base X.mg c P) (hcode : X.env.code = .ref c)
    (hm : (P, X.env.qual ++ "<lambda>") ∈ T) (hu : ∀ p ∈ T, p.1 = P → p.2 = X.env.qual ++ "<lambda>") (hT : Tabs T H) (hdef : defaultsOf params X.env = ([], [])) (hfree : ∀ y ∈ scope.names, y.2 = .free → ∃ c, X.env.cells.lookup y.1 = some c) (hcl : cloFrom X.env.cells scope.names [] = [])
    (h : ∀ (f c' : Addr) (H1 : Hp) (s' : Shared), Inv X pins σ H1 s' → ExtN H H1 → Tabs T H1 → H f = none → H1 f = some (LamO f ⟨"<lambda>", X.env.qual ++ "<lambda>", params, [], scope, [], c'⟩ body) → H1 c' = some (CodeO c' (X.env.qual ++ "<lambda>")) → Q (.ref f) s') :
    wpAny (model X.prog X.w) X.A (eval (.Lambda params body scope pos) X.env) Q E s := by
  obtain ⟨ps, hP, ht, ha⟩ := hT _ hm
  have bP := TB.bm.keeps I.bk
  have hP' : s.heap.get? P = some { cls := .none, data := .fields ps } := I.hok P _ hP
  have clo := closure_ok (env := X.env) hfree
  rw [hcl] at clo
  refine PySem.W.kla_eval hdef ?_
  cases hc : codeAmong pos ps.toList with
  | some cv =>
    obtain ⟨c', e, hco⟩ := ha pos cv hc
    subst e
    refine PySem.W.kla_makeFunctionHit (mg := X.mg) (c := c) (P := P) (ps := ps) clo I.ok.glob (I.mod.glob.keeps I.bk) hcode (TB.code.keeps I.bk) hP' ht hc bP fun ctv h' tk hx hsz => ?_
    have J : Inv X pins σ H { s with heap := h', toks := tk } := I.kept hx
    have nf := J.hok.fresh (Nat.le_refl h'.objs.size)
    exact h h'.objs.size c' _ _ (inv_lam (F := ⟨"<lambda>", X.env.qual ++ "<lambda>", params, [], scope, [], c'⟩) J) (fun b o e _ => (upd_ne (ne_of_none e nf)).trans e) (fun p hp => (hT p hp).ext fun b o e => (upd_ne (ne_of_none e nf)).trans e) nf upd_same ((upd_ne (ne_of_none hco nf)).trans hco)
  | none =>
    refine PySem.W.kla_makeFunction (mg := X.mg) (c := c) (P := P) (ps := ps) clo I.ok.glob (I.mod.glob.keeps I.bk) hcode (TB.code.keeps I.bk) hP' ht hc TB.gP bP fun c' ctv h' tk hx hge hlt hrec htb => ?_
    obtain ⟨c2, oc, vs, t, e2, hoc, hd, hv⟩ := hrec
    cases e2
    have nC : H c' = none := I.hok.fresh hge
    have J := inv_table (t' := tk) (more := #[rawInt pos.line, rawInt pos.col, .ref c']) (h' := h') I hP (fun b o hb e => hx b o hb e) htb hge ⟨oc, vs, t, hoc, hd, hv⟩
    have grow : ExtN H (upd (upd H P (.tbl (ps ++ #[rawInt pos.line, rawInt pos.col, .ref c']))) c' (CodeO c' (X.env.qual ++ "<lambda>"))) := fun b o e n => by
      rw [upd_ne (ne_of_none e nC), upd_ne fun z => n ps (Option.some.inj (e.symm.trans (by rw [z]; exact hP)))]
      exact e
    have eL : (ps ++ #[rawInt pos.line, rawInt pos.col, .ref c']).toList = ps.toList ++ [rawInt pos.line, rawInt pos.col, .ref c'] := by simp
    have T1 : Tabs T (upd (upd H P (.tbl (ps ++ #[rawInt pos.line, rawInt pos.col, .ref c']))) c' (CodeO c' (X.env.qual ++ "<lambda>"))) := fun p hp => by
      by_cases hb : p.1 = P
      · rw [hu p hp hb, hb]
        refine ⟨_, (upd_ne (ne_of_none hP nC)).trans upd_same, eL ▸ PySem.TriplesOk_snoc _ _ _ _ ht, fun p' cv hcv => ?_⟩
        rcases among_app _ ht (eL ▸ hcv) with z | z
        · obtain ⟨c0, e1, e2⟩ := ha p' cv z
          exact ⟨c0, e1, grow _ _ e2 codeO_ne⟩
        · exact ⟨c', z, upd_same⟩
      · obtain ⟨ps', a1, a2, a3⟩ := hT p hp
        refine ⟨ps', (upd_ne (ne_of_none a1 nC)).trans ((upd_ne hb).trans a1), a2, fun p' cv hcv => ?_⟩
        obtain ⟨c0, e1, e2⟩ := a3 p' cv hcv
        exact ⟨c0, e1, grow _ _ e2 codeO_ne⟩
    have nf := J.hok.fresh (Nat.le_refl h'.objs.size)
    refine h h'.objs.size c' _ _ (inv_lam (F := ⟨"<lambda>", X.env.qual ++ "<lambda>", params, [], scope, [], c'⟩) J) (fun b o e n => (upd_ne (ne_of_none (grow b o e n) nf)).trans (grow b o e n)) (fun p hp => (T1 p hp).ext fun b o e => (upd_ne (ne_of_none e nf)).trans e) ?_ upd_same
      ((upd_ne (Nat.ne_of_lt hlt)).trans upd_same)
    exact I.hok.fresh (Nat.le_trans hge (Nat.le_of_lt hlt))
end
def tLamV (T : List (Addr × Str)) (mk : Addr → NF) (e : Expr) : TE := fun σ H Q => Tabs T H ∧ ∀ (f c' : Addr) (H1 : Hp), ExtN H H1 → Tabs T H1 → H f = none → H1 f = some (LamO f (mk c') e) → H1 c' = some (CodeO c' (mk c').qual) → Q (.ref f) H1
theorem pe_lamV {X : Cx} {T : List (Addr × Str)} {c P : Addr} {params : Arguments} {body : Expr} {scope : Scope} {pos : Pos} (TB : TabB X.base X.mg c P) (hcode : X.env.code = .ref c) (hm : (P, X.env.qual ++ "<lambda>") ∈ T) (hu : ∀ p ∈ T, p.1 = P → p.2 = X.env.qual ++ "<lambda>")
    (hnf : ∀ y ∈ scope.names, y.2 ≠ .free) (hcl : cloFrom X.env.cells scope.names [] = []) (hdef : defaultsOf params X.env = ([], []) := by rfl) :
    PE X (.Lambda params body scope pos) (tLamV T (fun c' => ⟨"<lambda>", X.env.qual ++ "<lambda>", params, [], scope, [], c'⟩) body) :=
  ⟨fun pins s σ H Q I h => lam_new I TB hcode hm hu h.1 hdef (fun y hy e => (hnf y hy e).elim) hcl fun f c' H1 s' J eN T1 f0 f1 c1 => ⟨.ref f, H1, J, rfl, h.2 f c' H1 eN T1 f0 f1 c1⟩⟩
/-! ### its call -/
section
variable {X : Cx} {pins : List (Addr × Obj)} {σ : L2.St} {H : Hp} {s : Shared} {CX : CXT} {E : XK} {k : Nat} {x : Str} {F : NF} {body : Expr} {f : Addr} {Q : VK} {v : V} {u : Value} {tb : TE}
theorem run_lam (I : Inv X pins σ H s) (S : NScope [x] [x] [] F.scope) (hcl : F.cl = []) (hb : ∀ (pm ctv u : Value), bindArgs (PySem.W.kla_fn F.name F.qual F.params body F.scope F.cl pm (.ref F.c) ctv) ⟨[u], []⟩ = pure [(x, u)])
    (hf : H f = some (LamO f F body)) (hc : H F.c = some (CodeO F.c F.qual)) (hr : Room (k + 1) X.A) (hx : Passes CX X E) (r : RelV v u)
    (hbody : ∀ (A : Around) (outer : List Env) (s : Shared), PE (ncx CX X.prog X.w X.K X.mg X.base [x] F f A outer s H E) body tb) (q : tb [some v] H Q) :
    wpAny (model X.prog X.w) X.A (call (.ref f) [u]) (EP X pins σ Q) X.xe s := by
  obtain ⟨od, sl, pm, ctv, ho⟩ := lamO_at I.hok hf
  have cr := codeO_at I.hok hc
  have lim := I.nolimit
  have run : codeAny (model X.prog X.w) X.A (.call (.ref f) ⟨[u], []⟩) (CR CX X.stack X.prog X.w H s Q E) s := by
    refine PySem.W.kla_callFunE hr.depth ho rfl S.co S.gen rfl cr ?_
    rw [hb pm ctv u]
    refine wpAny_pure (wpAny_newFunctionEnv S.nocell (fun y hy => ?_) (fun h₁ hns hsb => ⟨lim.fresh _ hsb, ?_⟩) S.kind)
    · rcases List.mem_cons.mp hy with e | e
      · rw [e]
        exact S.par x List.mem_cons_self
      · cases e
    · show codeAny _ _ (.expr body (envF F f s.heap.objs.size)) _ _
      have kp : ∀ b o, s.heap.get? b = some o → h₁.get? b = some o := fun b o e => hsb.extBut b o (Nat.ne_of_lt (Heap.lt_size e)) (Heap.get?_push_of_some _ e)
      have C : CellsAt F.cl [] [] s.heap H := by
        rw [hcl]
        exact ⟨rfl, (fun _ _ e => nomatch e), (fun _ _ _ e => nomatch e), (fun _ _ e => nomatch e)⟩
      have J : Inv (ncx CX X.prog X.w X.K X.mg X.base [x] F f X.A X.stack s H E) [] (startF [x] [v] []) H { s with heap := h₁, toks := s.toks + 1 } := inv_startN (us := [u]) S hr.hd I.env0 rfl (.cons r .nil) C hns kp
      refine PySem.W.kla_codeExpr (wpAny_mono ((hbody X.A X.stack s).run [] _ (startF [x] [v] []) H Q J q) (fun w' s' hq => ?_) fun e s' hq => hq)
      obtain ⟨y, H', J', rv, q'⟩ := hq
      exact ⟨y, H', J'.os, J'.bare, J'.base, J'.hok, rv, q'⟩
  refine wpAny_call (codeAny_mono run fun r s' hq => ?_)
  cases r with
  | error e => exact hx pins σ H s e s' I hq
  | ok fl =>
    cases fl with
    | ret w' => exact I.after hq
    | next => exact False.elim hq
    | brk => exact False.elim hq
    | cont => exact False.elim hq
end
end EV
namespace EV
open PySem PySem.Spec PyProof.Rows L2 LamX NdefX
/-! ### the law's own call, with the surroundings told (nothing is being shown ahead of it) -/
/-- the abstract heap at the law's entry: the tables, and the script if the written part does not tell it -/
def entryH (cs : List (Addr × Addr)) (K : PySem.W.Frag) (a : Addr) (o : Obj) (xs : List V) : Hp := fun b =>
  if b ∈ cs.map (·.2) then some (.tbl #[]) else if b = a ∧ K.lookup a = none then some (.frz o (.lst xs)) else none
theorem entryH_cases {cs : List (Addr × Addr)} {K : PySem.W.Frag} {a : Addr} {o : Obj} {xs : List V} {b : Addr} {u : HO} (h : entryH cs K a o xs b = some u) : (b ∈ cs.map (·.2) ∧ u = .tbl #[]) ∨ (b ∉ cs.map (·.2) ∧ b = a ∧ K.lookup a = none ∧ u = .frz o (.lst xs)) := by
  unfold entryH at h
  by_cases h1 : b ∈ cs.map (·.2)
  · rw [if_pos h1] at h
    exact .inl ⟨h1, (Option.some.inj h).symm⟩
  · rw [if_neg h1] at h
    by_cases h2 : b = a ∧ K.lookup a = none
    · rw [if_pos h2] at h
      exact .inr ⟨h1, h2.1, h2.2, (Option.some.inj h).symm⟩
    · rw [if_neg h2] at h
      cases h
theorem law_callG {P : Program} {w : World} {K : PySem.W.Frag} {mg mb : Str → Option Value} {fa a : Addr} {cs : List (Addr × Addr)} {s₁ : Shared} {vs : List Value} {ns : List Int}
    (KX : K.In s₁.heap) (gl : s₁.heap.Ns mainGlobals mg) (bl : s₁.heap.Ns builtinsNs mb) (bb : ∀ x : Str, x ≠ "__name__" → mb x = bootBuiltins x) (lim : s₁.heap.NoLimit) (hg : s₁.gens = #[])
    (tb : ∀ p ∈ cs, s₁.heap.get? p.2 = some { cls := .none, data := .fields #[] }) (tk : ∀ p ∈ cs, K.lookup p.2 = none) (cd : ∀ p ∈ cs, PySem.W.CodeHd s₁.heap p.1 p.2)
    (bm : ∃ (bm : Addr) (ob : Obj), mg "__builtins__" = some (.ref bm) ∧ bm ≠ builtinsNs ∧ s₁.heap.get? bm = some ob ∧ ob.cls = .type "module" ∧ ob.dict = some builtinsNs ∧ ob.data = .plain)
    (ha : s₁.heap.get? a = some { cls := .type "list", data := .seq vs.toArray }) (hi : IntsAre vs ns) (hl : ns.length ≤ sizeLine)
    (F : ∀ (base : Heap) (H : Hp), K.In base → base.Ns mainGlobals mg → (∀ p ∈ cs, TabB base mg p.1 p.2) → (∀ p ∈ cs, H p.2 = some (.tbl #[])) → SqL K H a (ns.map V.int) → Env0 P w K mg base callerA [] s₁ H →
      codeAny (model P w) callerA (.call (.ref fa) ⟨[.ref a], []⟩) (CR CX0 [] P w H s₁ (fun v _ => v = .bl true) E0) s₁) :
    codeAny (model P w) callerA (.call (.ref fa) ⟨[.ref a], []⟩) (fun r s' => r = .ok (.ret (.bool true)) ∧ OldK s₁.heap s'.heap ∧ s'.os = s₁.os ∧ AllBare s'.gens) s₁ := by
  have rv := vals_ints hi
  have ln := hi.length
  have inT : ∀ {b : Addr}, b ∈ cs.map (·.2) → ∃ p ∈ cs, p.2 = b := fun hb => by
    obtain ⟨p, hp, e⟩ := List.mem_map.mp hb
    exact ⟨p, hp, e⟩
  have atT : ∀ {b : Addr}, b ∈ cs.map (·.2) → s₁.heap.get? b = some { cls := .none, data := .fields #[] } := fun hb => by
    obtain ⟨p, hp, rfl⟩ := inT hb
    exact tb p hp
  have aT : a ∉ cs.map (·.2) := fun z => by
    have q := ha.symm.trans (atT z)
    cases q
  generalize hH : entryH cs K a { cls := .type "list", data := .seq vs.toArray } (ns.map V.int) = H
  have split : ∀ {b : Addr} {u : HO}, H b = some u → (b ∈ cs.map (·.2) ∧ u = .tbl #[]) ∨ (b ∉ cs.map (·.2) ∧ b = a ∧ K.lookup a = none ∧ u = .frz { cls := .type "list", data := .seq vs.toArray } (.lst (ns.map V.int))) := fun e => entryH_cases (hH ▸ e)
  have tabs : ∀ p ∈ cs, H p.2 = some (.tbl #[]) := fun p hp => by
    rw [← hH]
    exact if_pos (List.mem_map.mpr ⟨p, hp, rfl⟩)
  -- what is no list and no empty table is not tracked
  have off : ∀ {b : Addr} {o : Obj}, s₁.heap.get? b = some o → (∀ us n, o.data ≠ .seq us n) → o.data ≠ .fields #[] → H b = none := fun {b o} e h1 h2 => by
    cases q : H b with
    | none => rfl
    | some u =>
      rcases split q with ⟨z, _⟩ | ⟨_, z, _, _⟩
      · have y := e.symm.trans (atT z)
        cases y
        exact (h2 rfl).elim
      · rw [z] at e
        have y := e.symm.trans ha
        cases y
        exact (h1 _ _ rfl).elim
  have kept : ∀ {b : Addr} {o : Obj}, s₁.heap.get? b = some o → H b = none → (hidT s₁.heap H).get? b = some o := fun e n => hidT_get e n
  have nss : ∀ {b : Addr} {m : Str → Option Value}, s₁.heap.Ns b m → (hidT s₁.heap H).Ns b m := fun ⟨o, es, ep, e, d, r⟩ => ⟨o, es, ep, kept e (off e (fun _ _ z => by rw [d] at z; cases z) fun z => by rw [d] at z; cases z), d, r⟩
  have kin : K.In (hidT s₁.heap H) := fun b o e => kept (KX b o e) (by
    cases q : H b with
    | none => rfl
    | some u =>
      rcases split q with ⟨z, _⟩ | ⟨_, z, n, _⟩
      · obtain ⟨p, hp, ep⟩ := inT z
        have y := tk p hp
        rw [ep, e] at y
        cases y
      · rw [← z, e] at n
        cases n)
  have tbs : ∀ p ∈ cs, TabB (hidT s₁.heap H) mg p.1 p.2 := fun p hp => by
    have t0 := tb p hp
    refine ⟨?_, ?_, fun z => ?_⟩
    · obtain ⟨o, us, file, tf, flags, tg, inF, text, tt, e1, r1, r2, r3, r⟩ := cd p hp
      refine ⟨o, us, file, tf, flags, tg, inF, text, tt, kept e1 (off e1 (fun _ _ z => by rw [r2] at z; cases z) fun z => ?_), r1, r2, r3, r⟩
      rw [r2] at z
      cases z
      simp at r3
    · obtain ⟨m, ob, b1, b2, b3, b4, b5, b6⟩ := bm
      refine ⟨m, ob, b1, b2, fun q => ?_, fun q => ?_, kept b3 (off b3 (fun _ _ z => by rw [b6] at z; cases z) fun z => by rw [b6] at z; cases z), b4, b5, b6⟩
      · obtain ⟨o, es, ep, e, hd, _⟩ := gl
        rw [q] at b3
        have y := b3.symm.trans e
        cases y
        rw [b6] at hd
        cases hd
      · rw [q] at b3
        have y := b3.symm.trans t0
        cases y
        cases b6
    · obtain ⟨o, es, ep, e, hd, _⟩ := gl
      rw [z] at e
      have y := t0.symm.trans e
      cases y
      cases hd
  have hok : HOk P w H s₁.heap := fun b u e => by
    rcases split e with ⟨z, rfl⟩ | ⟨_, rfl, _, rfl⟩
    · exact atT z
    · exact ⟨ha, (by rw [List.length_map]; exact hl), vs, _, rv, ha⟩
  have seq : SqL K H a (ns.map V.int) := by
    cases hk : K.lookup a with
    | none =>
      refine .inl (.inr ⟨{ cls := .type "list", data := .seq vs.toArray }, ?_⟩)
      rw [← hH]
      exact (if_neg aT).trans (if_pos ⟨rfl, hk⟩)
    | some o =>
      have y := (KX a o hk).symm.trans ha
      cases y
      exact .inr ⟨_, vs.toArray, _, hk, rfl, rfl, rfl, (by rw [List.size_toArray, ln]; exact hl), by simpa using rv⟩
  have e0 : Env0 P w K mg (hidT s₁.heap H) callerA [] s₁ H := ⟨rfl, ⟨kin, nss gl, ⟨mb, nss bl, bb⟩, let ⟨mc, h1, h2⟩ := lim; ⟨mc, nss h1, h2⟩⟩, fun b o e => of_hidT e, Nat.le_of_eq (hidT_size _ _), trivial, fun b hb => absurd (show b ∈ ([] : List Addr) from hb) (by simp), hok, .of_eq hg⟩
  refine codeAny_mono (F _ H kin (nss gl) tbs tabs seq e0) fun r s' h => ?_
  cases r with
  | error e => exact False.elim h
  | ok fl =>
    cases fl with
    | next => exact False.elim h
    | brk => exact False.elim h
    | cont => exact False.elim h
    | ret u =>
      obtain ⟨v, H', os, bare, un, ok2, rel, q⟩ := h
      have q' : v = .bl true := q
      subst q'
      obtain rfl : u = Value.bool true := rel
      have stays : ∀ b o, b ∉ cs.map (·.2) → s₁.heap.get? b = some o → s'.heap.get? b = some o := fun b o nb e => by
        cases q : H b with
        | none => exact un.keep b o e q (by intro z; exact absurd (show b ∈ ([] : List Addr) from z) (by simp)) (by simp)
        | some u =>
          rcases split q with ⟨z, _⟩ | ⟨_, z, _, rfl⟩
          · exact absurd z nb
          · obtain ⟨e1, _⟩ := ok2 b _ (un.frzs b _ _ q)
            rw [z] at e
            have y := e.symm.trans ha
            cases y
            exact e1
      have grown : ∀ {b : Addr}, b ∈ cs.map (·.2) → ∃ (p : Addr × Addr) (more : Array Value), p ∈ cs ∧ p.2 = b ∧ s'.heap.get? b = some { cls := .none, data := .fields more } := fun {b} hb => by
        obtain ⟨p, hp, rfl⟩ := inT hb
        obtain ⟨more, z⟩ := un.tbls p.2 #[] (tabs p hp)
        exact ⟨p, _, hp, rfl, ok2 p.2 _ z⟩
      refine ⟨rfl, ⟨fun b o e => ?_, fun b o e => ?_⟩, os, bare⟩
      · by_cases hb : b ∈ cs.map (·.2)
        · obtain ⟨p, more, hp, rfl, hm⟩ := grown hb
          have y := e.symm.trans (tb p hp)
          cases y
          exact .inr (.inl ⟨((cd p hp).tab (tb p hp)).isCodeTable, rfl, #[], more, rfl, by rw [Array.empty_append]; exact hm⟩)
        · exact .inl (stays b o hb e)
      · by_cases hb : b ∈ cs.map (·.2)
        · obtain ⟨p, more, hp, rfl, hm⟩ := grown hb
          exact ⟨_, hm⟩
        · exact ⟨o, stays b o hb e⟩
/-! ### a promise that wants to know that nothing is being shown -/
structure FnG (P : Program) (w : World) (K : PySem.W.Frag) (mg : Str → Option Value) (base : Heap) (k : Nat) (f : Addr) (fd : FuncData) (ps : List Str) (sp : Sp) : Prop where
  len : ∀ vs H Q E, sp vs H Q E → vs.length = ps.length
  run : ∀ (A : Around) (outer : List Env) (s : Shared) (H : Hp) (args : Args) (us : List Value) (vs : List V) (Q : VK) (E : XK), A.guards = some [] → Room k A → Env0 P w K mg base A outer s H → BindsTo s fd args (ps.zip us) → Vals vs us → sp vs H Q E →
    codeAny (model P w) A (.call (.ref f) args) (CR CX0 outer P w H s Q E) s
theorem fng_of {P : Program} {w : World} {K : PySem.W.Frag} {mg : Str → Option Value} {base : Heap} {k : Nat} {x qual : Str} {st : Stmt} {f : Addr} {fd : FuncData} {N ps : List Str} {sp : Sp} (F : Fun K x qual st f fd) (S : FnScope N ps (defScope st)) (len : ∀ vs H Q E, sp vs H Q E → vs.length = ps.length)
    (hbody : ∀ (cdv : Value) (A : Around) (outer : List Env) (s : Shared) (H : Hp) (vs : List V) (Q : VK) (E : XK), (A.deeper (envOfC qual (defScope st) s.heap.objs.size f cdv)).guards = some [] → Room k (A.deeper (envOfC qual (defScope st) s.heap.objs.size f cdv)) → sp vs H Q E →
      ∃ t, PSs (cxOf CX0 P w K mg base N qual (defScope st) f cdv A outer s H E).nox (defBody st) t ∧ t { nx := fun _ H' => Q .non H', rt := Q } (start N vs) H) : FnG P w K mg base (k + 1) f fd ps sp := by
  obtain ⟨oc, od, kV, doc, pm, an, cdv, ct, osl, rfl, lk, hcd⟩ := F.ex
  refine ⟨len, fun A outer s H args us vs Q E hg hr e0 hb r hsp => run_ofS lk hcd S hr e0 hb r (len _ _ _ _ hsp) fun hr' => ?_⟩
  obtain ⟨t, h1, h2⟩ := hbody cdv A outer s H vs Q E hg hr' hsp
  exact ⟨t, h1.nox, h2⟩
section
variable {X : Cx} {k : Nat} {f : Addr} {fd : FuncData} {ps : List Str} {sp : Sp} {x : Str} {p pos : Pos} {e : Expr} {es : List Expr} {t : TA}
theorem pe_callG (F : FnG X.prog X.w X.K X.mg X.base k f fd ps sp) (gd : X.A.guards = some []) (hr : Room k X.A) (hg : Gl X x) (hm : X.mg x = some (.ref f)) (hk : PySem.W.keepIn X.K (.ref f) = true) (hb : Binds X.K fd ps []) (ha : PA X (e :: es) t)
    (hdb : (x == ("__debug__" : Str)) = false := by decide) (he : starEach (e :: es) X.env = (false, eval e X.env) :: starEach es X.env := by rfl) (hpl : (backTo pos (starEach es X.env)).any (·.1) = false := by rfl) :
    PE X (.Call (.Name x p) (e :: es) [] pos) (tCall sp [] E0 t) := by
  refine ⟨fun pins s σ H Q I h => ?_⟩
  refine wpAny_Call_Name_kw (ld_glob I hg hm ?_ hdb)
  refine PySem.W.callWith_K (h₀ := X.base) I.ok.mod.kin hk (thn (ha.run pos pins s σ H _ I h) fun us s1 ⟨vs, H1, I1, r, q⟩ => ⟨I1.kIn, ?_⟩) he hpl
  have q : sp (vs ++ []) H1 Q E0 := q
  rw [List.append_nil] at q
  have hl : (us ++ []).length = ps.length := by rw [List.append_nil, ← r.length]; exact F.len _ _ _ _ q
  have b := hb s1 us I1.kIn hl
  rw [List.append_nil] at b
  refine wpAny_call (codeAny_mono (F.run X.A X.stack s1 H1 ⟨us, []⟩ us vs Q E0 gd hr I1.env0 b r q) fun z s' hq => ?_)
  cases z with
  | error e => exact False.elim hq
  | ok fl =>
    cases fl with
    | ret u => exact I1.after hq
    | next => exact False.elim hq
    | brk => exact False.elim hq
    | cont => exact False.elim hq
end
end EV
/-! Dict comprehensions whose keys may be tuples: the store is what DPut says. -/
namespace EV
open PySem PySem.Spec PyProof.Rows L2
section
variable {X : Cx} {pins : List (Addr × Obj)} {σ : L2.St} {H : Hp} {s : Shared}
/-- an entry laid by a comprehension, whatever the key is -/
theorem lay_entry {P : Unit → Shared → Prop} {E : Value → Shared → Prop} {D : Addr} {y z : V} {u r : Value} {H' : Hp} (hu : X.A.units + 1 < cLine) (I : Inv X pins σ H s) (g : DPut H D y z H') (ry : RelV y u) (rz : RelV z r) (k : ∀ s', Inv X pins σ H' s' → P () s') :
    wpAny (model X.prog X.w) X.A (dictSet D u r) P E s := by
  rcases g with ⟨kvs, ky, hD, rfl, small, rfl⟩ | ⟨kvs, ky, b, hD, rfl, hb, small, rfl⟩
  · exact d_dictSet I hD small ry rz k
  · obtain rfl : u = Value.ref b := ry
    obtain ⟨le, nsys, xs, kt, dh⟩ := dt_of I.hok hD
    have le' : xs.length ≤ sizeLine := Paired.length kt ▸ le
    have room : (putK kvs ky z).length ≤ sizeLine := by
      have t := length_putK kvs ky z
      omega
    have hr : (tupleKind (mixKind X.prog X.w)).room X.A := Nat.lt_of_succ_lt hu
    refine wpAny_dictSet_heap (hsz := le') hr (key_of I.hok hb) dh fun h2 dh2 but => k _ ?_
    obtain ⟨o, es, ep, q1, q2, q3, q4, _, q6⟩ := dh2
    refine d_write I (by rw [hD]; exact True.intro) but ⟨o, q1⟩ ⟨room, nsys, _, KT.keeps (kt.put ky hb rz) fun c ys hc => ?_, o, es, ep, q1, q2, q3, q4, q6⟩
    exact (upd_ne (ne_of hc hD fun t => nomatch t)).trans hc
end
section
variable {X : Cx}
/-- the empty dict, to hold keys of the one kind or of the other -/
inductive Bare0 : HO → Prop
  | k : Bare0 (.dK [])
  | t : Bare0 (.dT [])
theorem bare0_lay {P : Program} {w : World} {H : Hp} {h : Heap} {o : HO} (b : Bare0 o) (big : sysModules < h.objs.size) : ObjOk P w H (h.push { cls := .type "dict", data := .dict #[] }) h.objs.size o := by
  cases b
  · exact dk_empty h big
  · exact dt_empty h big
/-- one turn of the comprehension's block, as a reading -/
def turnP (D : Addr) (g : TG) (tt : TT) (tk tv : TE) (vs : List Nat) (σ : L2.St) (Nx : Hp → Prop) (x : V) (H' : Hp) : Prop :=
  g x (wipe σ vs) H' fun σ2 H2 => wipe σ2 vs = wipe σ vs ∧ tt σ2 H2 fun b H3 =>
    if b = true then tk σ2 H3 fun y H4 => tv σ2 H4 fun z H5 => ∃ H6, DPut H5 D y z H6 ∧ Nx H6 else Nx H3
def tDcP (o0 : HO) (wi : TI) (g : TG) (tt : TT) (tk tv : TE) (vs : List Nat) : TE := fun σ H Q => wi σ H fun J H1 => ∀ D, H1 D = none → ∃ W : Nat → Nat → Hp → Prop, (∃ m, W 0 m (upd H1 D o0)) ∧
  ∀ i m H2, W i m H2 → (J.stop i H2 ∧ Q (.ref D) H2) ∨ (J.go i H2 ∧ ∃ Nx : Hp → Prop, (∀ H3, Nx H3 → ∃ m', m' < m ∧ W (i + 1) m' H3) ∧ ∀ x H3, J.yld i H2 x H3 → turnP D g tt tk tv vs σ Nx x H3)
abbrev AllBlk (X : Cx) (scope : Scope) (p : Cx → Prop) : Prop := ∀ (s : Shared) (H : Hp) (C : Addr) (cl : List (Str × Addr)) (fp : List Addr), p (X.blk s H scope (compEnvC scope cl C X.env) fp)
theorem pe_dcP {kx vx tg iter : Expr} {ifs : List Expr} {scope : Scope} {own : List (Str × Nat)} {pos : Pos} {wi : TI} {g : TG} {tt : TT} {tk tv : TE} {o0 : HO} (b0 : Bare0 o0) (calm : X.calm = true) (hu : X.A.units + 1 < cLine) (hN : X.N.Nodup) (hi : PI X tg iter wi) (ok : BlkOk X.N X.env.scope scope own)
    (hg : AllBlk X scope fun B => PG B tg g) (ht : AllBlk X scope fun B => PTs B ifs tt) (hk : AllBlk X scope fun B => PE B kx tk) (he : AllBlk X scope fun B => PE B vx tv)
    (fold : ∀ x, foldedSetIterable iter X.env x = pure x := by intro _; rfl) : PE X (.DictComp kx vx [⟨tg, iter, ifs, 0⟩] scope pos) (tDcP o0 wi g tt tk tv (own.map (·.2))) := by
  refine ⟨fun pins s σ H Q I reading => ?_⟩
  rw [arm_eval_DictComp]
  have frees : ∀ y ∈ scope.names, y.2 = .free → ∃ c, X.env.cells.lookup y.1 = some c := fun y hy e => (ok.free y hy e).elim (fun q => I.ok.has _ (.inl q)) fun q => I.ok.has _ (.inr q)
  refine wpAny_comprehension_free rfl fold (closure_ok frees) ok.kind (fun y hy e => (ok.uniq y hy).trans (congrArg some e)) (thn (hi.run pins s σ H _ I reading) fun xv s1 made => thn made fun itv s2 stands => ?_)
  obtain ⟨it, fp, tn, J, H2, rfl, I2, T, at0, fpk, rest⟩ := stands
  refine wpAny_newObj_type (newEnv_comp ?_)
  obtain ⟨D, eD⟩ : ∃ D, s2.heap.objs.size = D := ⟨_, rfl⟩
  rw [eD]
  have new : H2 D = none := I2.hok.fresh (Nat.le_of_eq eD)
  obtain ⟨W, ⟨m0, start⟩, turns⟩ := rest D new
  -- the empty dict stands
  obtain ⟨s3, e3⟩ : ∃ s3 : Shared, ({ s2 with heap := s2.heap.push { cls := .type "dict", data := .dict #[] } } : Shared) = s3 := ⟨_, rfl⟩
  have grow : ∀ b o, s2.heap.get? b = some o → s3.heap.get? b = some o := fun b o e => by
    rw [← e3]
    exact Heap.get?_push_of_some _ e
  have size3 : s3.heap.objs.size = s2.heap.objs.size + 1 := by
    rw [← e3]
    exact Heap.size_push ..
  have I3 : Inv X pins σ (upd H2 D o0) s3 := by
    rw [← e3]
    refine I2.laid (t' := s2.toks) (fun b o e => Heap.get?_push_of_some _ e) (Nat.le_of_eq eD) ?_
    rw [← eD]
    exact bare0_lay b0 I2.big
  have small : ∀ b ∈ fp, b < s2.heap.objs.size := fun b hb => (T.obj _ _ at0 b hb).elim fun o q => Heap.lt_size q.1
  have fp3 : ∀ b ∈ fp, FpOk X pins (upd H2 D o0) b ∧ b < s3.heap.objs.size := fun b hb => by
    have lt := small b hb
    have ne : b ≠ D := Nat.ne_of_lt (eD ▸ lt)
    exact ⟨⟨(upd_ne ne).trans (fpk b hb).1, (fpk b hb).2⟩, size3 ▸ Nat.lt_succ_of_lt lt⟩
  have at3 : tn 0 s3.heap := T.keep _ _ _ at0 fun b _ o e => grow b o e
  have I4 := block_start I3 ok hN fp3
  generalize eC : s3.heap.objs.size = C at I4
  generalize ecl : cellsFrom (C + 1) scope.names (cloFrom X.env.cells scope.names []) = cl at I4
  have pg := hg s3 (upd H2 D o0) C cl fp
  have pt := ht s3 (upd H2 D o0) C cl fp
  have pk := hk s3 (upd H2 D o0) C cl fp
  have pv := he s3 (upd H2 D o0) C cl fp
  have none3 : ∀ b ∈ fp, (upd H2 D o0) b = none := fun b hb => (fp3 b hb).1.1
  have h4s : ∀ b o, s3.heap.get? b = some o → (pushCells (s3.heap.push { cls := .type "dict", data := .dict #[] }) scope.names).get? b = some o := fun b o e => pushCells_keeps _ _ _ _ (Heap.get?_push_of_some _ e)
  rw [e3]
  show codeAny _ _ (.compStart (.DictComp kx vx [⟨tg, iter, ifs, 0⟩] scope pos) 0 (.ref it) (.ref D) (compEnvC scope (cellsFrom (s3.heap.objs.size + 1) scope.names (cloFrom X.env.cells scope.names [])) s3.heap.objs.size X.env)) (compPost (model X.prog X.w) X.A X.xe _ _ (.ref D) s3.heap.objs.size) { s3 with heap := pushCells (s3.heap.push { cls := .type "dict", data := .dict #[] }) scope.names }
  rw [eC, ecl]
  generalize eB : compEnvC scope cl C X.env = B at I4 pg pt pk pv ⊢
  have locB : B.locals = C := eB ▸ rfl
  have at4 : tn 0 (pushCells (s3.heap.push { cls := .type "dict", data := .dict #[] }) scope.names) := T.keep _ _ _ at3 fun b _ o e => h4s b o e
  generalize e4 : ({ s3 with heap := pushCells (s3.heap.push { cls := .type "dict", data := .dict #[] }) scope.names } : Shared) = s4 at I4 ⊢
  have at4 : tn 0 s4.heap := e4 ▸ at4
  -- the iterator's own objects, seen from the block
  have own4 : ∀ {σ' : L2.St} {G : Hp} {s' : Shared}, Inv (X.blk s3 (upd H2 D o0) scope B fp) [] σ' G s' → (∀ b ∈ fp, G b = none) → ∀ b ∈ fp, FpOk (X.blk s3 (upd H2 D o0) scope B fp) [] G b := fun {σ' G s'} J' z b hb =>
    ⟨z b hb, (J'.ok.exf b hb).1, J'.ok.exfs b hb, .inl hb, fun x c e => (J'.ok.exf b hb).2 x c e, fun p hp => by simp [Cx.blk] at hp⟩
  have walk : codeAny (model X.prog X.w) X.A (.compLoop (.DictComp kx vx [⟨tg, iter, ifs, 0⟩] scope pos) 0 (.ref it) (.ref D) B) (compPost (model X.prog X.w) X.A X.xe none (fun v s' => ∃ x H', Inv X pins σ H' s' ∧ RelV x v ∧ Q x H') (.ref D) C) s4 := by
    refine compLoop_anyD (fun n s5 => ∃ i G, Inv (X.blk s3 (upd H2 D o0) scope B fp) [] (wipe σ (own.map (·.2))) G s5 ∧ tn i s5.heap ∧ (∀ b ∈ fp, G b = none) ∧ W i n G) ?_ m0 ⟨0, _, I4, at4, none3, start⟩
    rintro n s5 ⟨i, G, I5, at5, none5, w5⟩
    rcases turns i n G w5 with ⟨over, found⟩ | ⟨more, Nx, next, step⟩
    · -- no further item: the def's own frame again
      refine thnF (T.done (X.blk s3 (upd H2 D o0) scope B fp) rfl rfl rfl calm i [] s5 _ G (fun _ _ => False) I5 (own4 I5 none5) at5 over) fun r s6 fin => ?_
      obtain ⟨rfl, I6⟩ := fin
      have back : Inv X pins σ G s6 := I3.call' (ch := fp) I6.os I6.base I6.hok I6.bare fun b hb => ⟨(fp3 b hb).1.2.2.2.1, (fp3 b hb).1.2.1, (fp3 b hb).1.2.2.2.2.1, (fp3 b hb).1.2.2.2.2.2⟩
      have freeC : G C = none := locB ▸ (show G B.locals = none from I6.free)
      obtain ⟨m, ns, _⟩ := I6.loc
      have nsC : s6.heap.Ns C m := locB ▸ (show s6.heap.Ns B.locals m from ns)
      obtain ⟨f0, f1, f2, f3, f4, f5⟩ := I3.fpOk (Nat.le_of_eq eC) freeC
      exact ⟨m, nsC, fun h9 but => ⟨.ref D, G, back.turned (t' := s6.toks) (fun b o hb e => (but.2 b hb).trans e) f0 f1 f3 f4 f5, rfl, found⟩⟩
    · refine thnF (T.item (X.blk s3 (upd H2 D o0) scope B fp) rfl rfl rfl calm i [] s5 _ G (fun _ _ => False) I5 (own4 I5 none5) at5 more) fun r s6 got => ?_
      obtain ⟨u, rfl, later⟩ := got
      refine thnF later fun _ s7 st => ?_
      obtain ⟨x, G7, I7, rx, y7, at7, none7⟩ := st
      have I8 := I7.pinned (own4 I7 none7) (T.obj _ _ at7)
      refine thnF (pg.run _ s7 _ G7 x u _ I8 rx (step x G7 y7)) fun _ s8 ⟨σ8, G8, I9, same8, q8⟩ => ?_
      -- what the turn leaves
      have goOn : ∀ {s9 : Shared} {G9 : Hp}, Inv (X.blk s3 (upd H2 D o0) scope B fp) ([] ++ pinsAt fp s7.heap) σ8 G9 s9 → Nx G9 → ∃ m, m < n ∧ ∃ j G', Inv (X.blk s3 (upd H2 D o0) scope B fp) [] (wipe σ (own.map (·.2))) G' s9 ∧ tn j s9.heap ∧ (∀ b ∈ fp, G' b = none) ∧ W j m G' := by
        intro s9 G9 J nx
        obtain ⟨m, lt, w9⟩ := next G9 nx
        have stood : ∀ b ∈ fp, ∀ o, s7.heap.get? b = some o → s9.heap.get? b = some o ∧ G9 b = none := fun b hb o e => by
          have z := J.pin (b, o) (List.mem_append_right _ (List.mem_append_right _ (mem_pinsAt hb e)))
          exact ⟨z.1, z.2.1⟩
        have len8 : (wipe σ (own.map (·.2))).length = σ8.length := same8 ▸ wipe_length ..
        refine ⟨m, lt, i + 1, G9, (J.unpinned (pins := [])).weak len8 (fun j v e => (wipe_some (same8.symm ▸ e)).1), T.keep _ _ _ at7 fun b hb o e => (stood b hb o e).1, fun b hb => ?_, w9⟩
        obtain ⟨o, e, _⟩ := T.obj _ _ at7 b hb
        exact (stood b hb o e).2
      refine thnF (pt.run _ s8 σ8 G8 _ I9 q8) fun b s9 ⟨G9, I10, q9⟩ => ?_
      by_cases kept : b = true
      · have q9 : tk σ8 G9 fun y H4 => tv σ8 H4 fun z H5 => ∃ H6, DPut H5 D y z H6 ∧ Nx H6 := by
          have q9 := show (if b = true then _ else _) from q9
          rwa [if_pos kept] at q9
        rw [if_pos kept]
        refine thnF (pk.run _ s9 σ8 G9 _ I10 q9) fun ku s10 ⟨y, G10, I11, ry, q10⟩ => ?_
        refine thnF (pv.run _ s10 σ8 G10 _ I11 q10) fun vu s11 ⟨z, G11, I12, rz, G12, put, nx⟩ => ?_
        exact lay_entry (X := X.blk s3 (upd H2 D o0) scope B fp) hu I12 put ry rz fun s12 I13 => goOn I13 nx
      · have q9 : Nx G9 := by
          have q9 := show (if b = true then _ else _) from q9
          rwa [if_neg kept] at q9
        rw [if_neg kept]
        exact goOn I10 q9
  exact codeAny_compStart_dict walk (T.self X.A 0 _ _ _ at4 walk)
end
end EV
/-! Walks over what is a list or a tuple; enumerate of either; comprehensions of dicts over any walk. -/
namespace EV
open PySem PySem.Spec PyProof.Rows L2
open AutoSeq1 (wpAny_loadPart')
/-- a list (b) or a tuple -/
def Sq (K : PySem.W.Frag) (b : Bool) (H : Hp) (a : Addr) (xs : List V) : Prop := if b = true then SqL K H a xs else SqT K H a xs
def IB (K : PySem.W.Frag) (b : Bool) (a : Addr) : It := if b = true then Itl K a else Itt K a
theorem Sq.any {K : PySem.W.Frag} {b : Bool} {H : Hp} {a : Addr} {xs : List V} (h : Sq K b H a xs) : SqL K H a xs ∨ SqT K H a xs := by
  cases b
  · exact .inr h
  · exact .inl h
theorem Sq.lst {K : PySem.W.Frag} {H : Hp} {a : Addr} {xs : List V} (h : H a = some (.lst xs)) : Sq K true H a xs := SqL.of h
theorem Sq.tup {K : PySem.W.Frag} {H : Hp} {a : Addr} {xs : List V} (h : H a = some (.tup xs)) : Sq K false H a xs := SqT.of h
theorem walk_sq {K : PySem.W.Frag} {b : Bool} {a : Addr} {xs : List V} : Walk (IB K b a) xs.length (fun H => Sq K b H a xs) (YAt xs) := by
  cases b
  · exact walk_tup
  · exact walk_list
def iSeq (K : PySem.W.Frag) (tl : TE) : TI := fun σ H R => tl σ H fun x H1 => ∃ b a xs, x = .ref a ∧ Sq K b H1 a xs ∧ R (IB K b a) H1
section
variable {X : Cx} {tg : Expr}
theorem pi_seq {l : Expr} {tl : TE} (hl : PE X l tl) : PI X tg l (iSeq X.K tl) := by
  refine ⟨fun pins s σ H R I h => thn (hl.run pins s σ H _ I h) fun v s1 got => ?_⟩
  obtain ⟨x, H1, I1, rx, b, a, xs, rfl, hs, q⟩ := got
  obtain rfl : v = Value.ref a := rx
  cases b
  · obtain ⟨its, _, p, _⟩ := I1.tuple hs
    exact wpAny_pyIter_tuple (items := its.toArray) p (pi_one (tk := s1.toks) I1 _ (turn_tuple a _) ⟨_, Heap.get?_push_size _ rfl, rfl, rfl⟩ q)
  · obtain ⟨its, _, p, _⟩ := I1.list hs
    exact wpAny_pyIter_list p.isList (pi_one (tk := s1.toks) I1 _ (turn_list a _) ⟨_, Heap.get?_push_size _ rfl, rfl, rfl⟩ q)
end
/-! ### enumerate(tuple) -/
theorem meets_enumerate_newT (t : Addr) (items : Array Value) (n : Nat) (dct : Option Addr) (sl : Array (Option Value)) :
    Meets (Builtin.«enumerate.__new__» ⟨[.type "enumerate", .ref t], []⟩) (fun _ R s => s.heap.get? t = some { cls := .type "tuple", dict := dct, data := .seq items n, slots := sl } ∧
      R (.ok (.ret (.ref (s.heap.objs.size + 1))))
        { s with heap := (s.heap.push { cls := .type "tuple_iterator", data := .fields #[.ref t, .int 0 0] }).push { cls := .type "enumerate", data := .fields #[.none, .bool false, .ref s.heap.objs.size, rawInt 0, .none, .none] } }) :=
  .of_wp fun prog w A R s h => by
    obtain ⟨hp, g, d, tk, os⟩ := s
    obtain ⟨hl, h⟩ := h
    have two : (Heap.push hp { cls := .type "tuple_iterator", data := .fields #[.ref t, .int 0 0] }).objs.size = hp.objs.size + 1 := Heap.size_push ..
    rw [show (Shared.heap ⟨hp, g, d, tk, os⟩).objs.size + 1 = (Heap.push hp { cls := .type "tuple_iterator", data := .fields #[.ref t, .int 0 0] }).objs.size from two.symm] at h
    have hsub := sub_enumerate
    have hT : Heap.IsTuple (Shared.heap ⟨hp, g, d, tk, os⟩) t items := ⟨_, hl, rfl, n, rfl⟩
    wp_walk using wpAny_loadPart' hl
    refine wpAny_stack_any fun st => wpAny_pure ?_
    split
    · rename_i c _ _ _ _ _
      cases (c == Value.type "enumerate") <;> (wp_walk using wpAny_loadPart' hl, wpAny_pyIter_tuple hT; exact ⟨_, rfl, h⟩)
    · wp_walk using wpAny_loadPart' hl, wpAny_pyIter_tuple hT
      exact ⟨_, rfl, h⟩
section
variable {prog : Program} {w : World} {A : Around} {E : Value → Shared → Prop} {s : Shared}
theorem call_enumerate_tuple {t : Addr} {items : Array Value} {Q : Value → Shared → Prop} (hT : s.heap.IsTuple t items)
    (k : ∀ h', IsEnum h' (s.heap.objs.size + 1) s.heap.objs.size 0 .none → h'.IsTupleIter s.heap.objs.size t 0 → (∀ b o, s.heap.get? b = some o → h'.get? b = some o) → Q (.ref (s.heap.objs.size + 1)) { s with heap := h' }) :
    wpAny (model prog w) A (call (.type "enumerate") [.ref t]) Q E s := by
  obtain ⟨⟨c, dct, dt, sl⟩, at0, hc, n, hd⟩ := hT
  obtain rfl : c = .type "tuple" := hc
  obtain rfl : dt = .seq items n := hd
  have e1 := Heap.get?_push_size (s.heap.push { cls := .type "tuple_iterator", data := .fields #[.ref t, .int 0 0] }) (o := { cls := .type "enumerate", data := .fields #[.none, .bool false, .ref s.heap.objs.size, rawInt 0, .none, .none] }) rfl
  rw [Heap.size_push] at e1
  exact callType_new F.called_enumerate (by decide) (F.typeCall_enumerate_1 _) (F.newCall_enumerate_1 _) (fun obj => F.args_object_init_2 obj _) F.entry_enumerate_new (meets_enumerate_newT t items n dct sl)
    ⟨at0, ⟨_, e1, rfl⟩, k _ e1 ⟨_, Heap.get?_push_of_some _ (Heap.get?_push_size _ rfl), rfl, rfl⟩ fun b o q => Heap.get?_push_of_some _ (Heap.get?_push_of_some _ q)⟩
end
theorem enumT_end {prog : Program} {w : World} {A : Around} {E : Value → Shared → Prop} {s : Shared} {e it t : Addr} {i : Nat} {k : Int} {items : Array Value} {old : Value} {Q : Option Value → Shared → Prop} (hh : A.in1.handled = none) (he : IsEnum s.heap e it k old) (hit : s.heap.IsTupleIter it t i) (ht : s.heap.IsTuple t items) (hx : items[i]? = none)
    (hQ : ∀ h', Heap.ExtBut it s.heap h' → Q none { s with heap := h' }) : wpAny (model prog w) A (pyNext (.ref e)) Q E s := by
  have D : Draws prog w A.in1 it [it, t] i (fun _ _ => True) (fun j h => j = i ∧ h.IsTupleIter it t i ∧ h.IsTuple t items) :=
    { live := fun _ _ st => st.2.1.elim fun o q => ⟨o, q.1⟩
      frame := fun _ _ _ st hk => ⟨st.1, st.2.1.at fun o q => hk it (by simp) o q, st.2.2.at fun o q => hk t (by simp) o q⟩
      item := fun j s Q E lt st _ => absurd lt (by rw [st.1]; exact Nat.lt_irrefl _)
      done := fun s Q E st hE => wpAny_nextOf_tuple_end hh st.2.1 st.2.2 hx hE }
  exact wpAny_pyNext_enum_endD D he ⟨rfl, hit, ht⟩ hQ
def IteT (K : PySem.W.Frag) (a : Addr) : It where
  go i H := ∃ xs x, SqT K H a xs ∧ xs[i]? = some x
  yld i H v H' := ∃ T x, v = .ref T ∧ H T = none ∧ H' = upd H T (.tup [.int (i : Nat), x]) ∧ ∀ xs, SqT K H a xs → xs[i]? = some x
  stop i H := ∃ xs, SqT K H a xs ∧ xs.length ≤ i
def IeB (K : PySem.W.Frag) (b : Bool) (a : Addr) : It := if b = true then Ite K a else IteT K a
theorem walk_enumB {K : PySem.W.Frag} {b : Bool} {a : Addr} {xs : List V} : Walk (IeB K b a) xs.length (fun H => Sq K b H a xs) (YPair (fun i => some (.int (i : Nat))) (fun i => xs[i]?)) := by
  cases b
  · refine ⟨fun i H hi q => ⟨xs, xs[i], q, by simp [hi]⟩, fun H q => ⟨xs, q, Nat.le_refl _⟩, fun i H v H' hi q y => ?_⟩
    obtain ⟨T, x, e1, e2, e3, e4⟩ := y
    exact ⟨T, _, x, e1, e2, e3, rfl, e4 xs q⟩
  · exact walk_enum
theorem turn_enumT {P : Program} {w : World} {K : PySem.W.Frag} {elts : List Expr} {kk : Nat} {tpos : Pos} (a e it : Addr) (hai : a ≠ it) (hae : a ≠ e) :
    Turn P w K (.Tuple elts kk tpos) (IteT K a) [e, it] e (fun i h => (∃ old, IsEnum h e it ((i : Nat) : Int) old) ∧ h.IsTupleIter it a i ∧ e ≠ it) where
  mem := List.mem_cons_self
  obj := fun i h st b hb => by
    obtain ⟨⟨old, he⟩, ⟨o, ho, hc, hd⟩, _⟩ := st
    rcases List.mem_cons.mp hb with rfl | hb
    · exact ⟨_, he, fun v q => nomatch q⟩
    · obtain rfl := List.mem_singleton.mp hb
      exact ⟨o, ho, fun v q => nomatch (hd.symm.trans q)⟩
  keep := fun i h h' st k => by
    obtain ⟨⟨old, he⟩, ⟨o, ho, r⟩, ne⟩ := st
    exact ⟨⟨old, k e (by simp) _ he⟩, ⟨o, k it (by simp) _ ho, r⟩, ne⟩
  item := by
    rintro X rfl rfl rfl calm i pins s σ H E I apart st ⟨xs, x, hq, hx⟩
    obtain ⟨⟨old, he⟩, hit, ne⟩ := st
    obtain ⟨its, rv, p, small⟩ := I.tuple hq
    obtain ⟨u, hu, ru⟩ := rv.get hx
    have el : e < s.heap.objs.size := Heap.lt_size he
    have il : it < s.heap.objs.size := hit.elim fun o q => Heap.lt_size q.1
    have hp : s.heap.IsTuple a its.toArray := p
    have len : i < its.toArray.size := by
      have := (List.getElem?_eq_some_iff.mp hu).1
      simpa using this
    have D := Draws.tuple (prog := X.prog) (w := X.w) (A := X.A.in1) (I.ok.hd calm) it a hai its.toArray
    refine wpAny_pyNext_enum_itemD D he ⟨hit, hp⟩ len ne (by simp [ne, hae.symm]) fun v h' tk hv out st' pair sz keep => ⟨_, rfl, wpAny_letOwnedTupleGo_enum (s := { s with heap := h', toks := tk + 1 }) out fun h'' he' but => ?_⟩
    obtain rfl : v = u := Option.some.inj (hv.symm.trans (by simpa using hu))
    have pair' : h''.get? s.heap.objs.size = some { cls := .type "tuple", data := .seq #[.int i tk, v] } := (but.2 _ (Nat.ne_of_gt el)).trans pair
    have off : ∀ b, b ∉ [e, it] → b ≠ e ∧ b ≠ it := fun b hb => ⟨fun q => hb (by simp [q]), fun q => hb (by simp [q])⟩
    have I1 : Inv X pins σ (upd H s.heap.objs.size (.tup [.int (i : Nat), x])) { s with heap := h'', toks := tk + 1 } :=
      I.turnedNew (ch := [e, it]) (fun b ob hb q => (but.2 b (off b hb).1).trans (keep b ob (off b hb).1 (off b hb).2 q)) apart (Nat.le_refl _) ⟨by show 2 ≤ sizeLine; decide, [.int i tk, v], .cons ⟨_, rfl⟩ (.cons ru .nil), ⟨_, pair', rfl, _, rfl⟩⟩
    obtain ⟨⟨oi, hoi, ri⟩, _⟩ := st'
    have nxt : ((i + 1 : Nat) : Int) = (i : Int) + 1 := by omega
    refine ⟨.ref s.heap.objs.size, _, I1, rfl, ⟨_, x, rfl, I.hok.fresh (Nat.le_refl _), rfl, fun ys hy => ?_⟩, ⟨⟨v, by rw [nxt]; exact he'⟩, ⟨oi, (but.2 it ne.symm).trans hoi, ri⟩, ne⟩, fun b hb => ?_⟩
    · obtain rfl := I.tuple_inj hy hq
      exact hx
    · have lt : b < s.heap.objs.size := by
        rcases List.mem_cons.mp hb with rfl | hb
        · exact el
        · exact List.mem_singleton.mp hb ▸ il
      exact (upd_ne (Nat.ne_of_lt lt)).trans (apart b hb).1
  done := by
    rintro X rfl rfl rfl calm i pins s σ H E I apart st ⟨xs, hq, hx⟩
    obtain ⟨⟨old, he⟩, hit, ne⟩ := st
    obtain ⟨its, rv, p, small⟩ := I.tuple hq
    have hp : s.heap.IsTuple a its.toArray := p
    have none : its.toArray[i]? = none := by
      have l := rv.length
      rw [List.getElem?_toArray]
      exact List.getElem?_eq_none (by omega)
    have hd : X.A.in1.handled = .none := I.ok.hd calm
    obtain ⟨f0, f1, f2, f3, f4, f5⟩ := apart it (by simp)
    refine enumT_end hd he hit hp none fun h' eb => ⟨rfl, I.turned (t' := s.toks) (fun b o hb q => eb b o hb q) f0 f1 f3 f4 f5⟩
  self := fun A i s Q E st h => st.1.elim fun _ he => wpAny_pyIter_enum he h
def iEnumB (K : PySem.W.Frag) (ta : TA) : TI := fun σ H R => ta σ H fun vs H1 => ∃ b a xs, vs = [.ref a] ∧ Sq K b H1 a xs ∧ R (IeB K b a) H1
theorem pi_enumB {X : Cx} {e : Expr} {ta : TA} {p pos tpos : Pos} {elts : List Expr} {kk : Nat} (hg : Gl X "enumerate") (hm : X.mg "enumerate" = none) (ha : PA X [e] ta) (one : starEach [e] X.env = [(false, eval e X.env)] := by rfl) :
    PI X (.Tuple elts kk tpos) (.Call (.Name "enumerate" p) [e] [] pos) (iEnumB X.K ta) := by
  refine ⟨fun pins s σ H R I h => Call_ (ld_blt I hg hm boot_enumerate (PyProof.Rows.callWith_type1 (thn (ha.run pos pins s σ H _ I h) fun us s1 got => ?_) one rfl))⟩
  obtain ⟨vs, H1, I1, r1, b, a, xs, rfl, hs, q⟩ := got
  obtain ⟨u, rfl, ru⟩ : ∃ u, us = [u] ∧ RelV (.ref a) u := by
    cases r1 with
    | cons r rr => cases rr; exact ⟨_, rfl, r⟩
  obtain rfl : u = Value.ref a := ru
  have young : ∀ b ∈ [s1.heap.objs.size + 1, s1.heap.objs.size], s1.heap.objs.size ≤ b := fun b hb => by
    rcases List.mem_cons.mp hb with rfl | hb
    · exact Nat.le_add_right _ _
    · exact Nat.le_of_eq (List.mem_singleton.mp hb).symm
  have fp : ∀ b ∈ [s1.heap.objs.size + 1, s1.heap.objs.size], FpOk X pins H1 b := fun b hb => I1.fpOk (young b hb) (I1.hok.fresh (young b hb))
  cases b
  · obtain ⟨its, _, p, _⟩ := I1.tuple hs
    have hp : s1.heap.IsTuple a its.toArray := p
    have la : a < s1.heap.objs.size := hp.elim fun o q => Heap.lt_size q.1
    refine call_enumerate_tuple hp fun h' he hit keep => wpAny_pyIter_enum he ⟨s1.heap.objs.size + 1, _, _, _, H1, rfl, I1.kept (t' := s1.toks) keep, turn_enumT a (s1.heap.objs.size + 1) s1.heap.objs.size (Nat.ne_of_lt la) (Nat.ne_of_lt (Nat.lt_succ_of_lt la)), ⟨⟨.none, he⟩, hit, Nat.succ_ne_self _⟩, fp, q⟩
  · obtain ⟨its, _, p, _⟩ := I1.list hs
    exact call_enumerate_list p.isList fun h' he hit _ keep => wpAny_pyIter_enum he ⟨s1.heap.objs.size + 1, _, _, _, H1, rfl, I1.kept (t' := s1.toks) keep, turn_enum a (s1.heap.objs.size + 1) s1.heap.objs.size, ⟨⟨.none, he⟩, hit, Nat.succ_ne_self _⟩, fp, q⟩
/-- a comprehension of a dict over any walk -/
theorem dc_it {J : It} {n : Nat} {G : Hp → Prop} {Y : Nat → Hp → V → Hp → Prop} (w : Walk J n G Y) {g : TG} {tt : TT} {tk tv : TE} {vs : List Nat} {σ : L2.St} {H1 : Hp} {D : Addr} {o0 : HO} {Qd : Hp → Prop} (Pv : Nat → Hp → Prop) (start : Pv 0 (upd H1 D o0)) (stay : ∀ i H, i ≤ n → Pv i H → G H)
    (turn : ∀ i x H H', i < n → Pv i H → Y i H x H' → turnP D g tt tk tv vs σ (Pv (i + 1)) x H') (fin : ∀ H, Pv n H → Qd H) :
    ∃ W : Nat → Nat → Hp → Prop, (∃ m, W 0 m (upd H1 D o0)) ∧ ∀ i m H2, W i m H2 → (J.stop i H2 ∧ Qd H2) ∨ (J.go i H2 ∧ ∃ Nx : Hp → Prop, (∀ H3, Nx H3 → ∃ m', m' < m ∧ W (i + 1) m' H3) ∧ ∀ x H3, J.yld i H2 x H3 → turnP D g tt tk tv vs σ Nx x H3) := by
  refine ⟨fun i m H => i + m = n ∧ Pv i H, ⟨n, Nat.zero_add n, start⟩, fun i m H st => ?_⟩
  obtain ⟨sum, pv⟩ := st
  have g := stay i H (by omega) pv
  match m, sum with
  | 0, sum =>
    obtain rfl : i = n := sum
    exact .inl ⟨w.stops H g, fin H pv⟩
  | m + 1, sum => exact .inr ⟨w.goes i H (by omega) g, Pv (i + 1), fun H3 p3 => ⟨m, Nat.lt_succ_self m, by omega, p3⟩, fun x H3 y => turn i x H H3 (by omega) pv (w.yields i H x H3 (by omega) g y)⟩
end EV
namespace K6
open PySem PySem.Spec PyProof.Rows L2 LamX NdefX EV
def top (i : Nat) : Stmt := PySem.Challenge.pw_lastopen_k02_rules_made.main.body.getD i (.Pass ⟨0, 0, 0, 0⟩)
abbrev sDraw : Stmt := top 31
abbrev sPick : Stmt := top 32
abbrev sMixed : Stmt := top 33
abbrev sSame : Stmt := top 34
abbrev sFresh : Stmt := top 35
abbrev sNames : Stmt := top 36
abbrev sUp : Stmt := top 37
abbrev sFulls : Stmt := top 38
abbrev sDrawn : Stmt := top 39
abbrev sRight : Stmt := top 40
abbrev sUnlike : Stmt := top 41
abbrev sLaw : Stmt := top 42
abbrev sIsName : Stmt := top 11
abbrev sIsList : Stmt := top 12
abbrev sNameOf : Stmt := top 13
abbrev sChkNames : Stmt := top 14
abbrev sChkCount : Stmt := top 15
abbrev sLits : Stmt := top 17
abbrev sPlaces : Stmt := top 18
abbrev sInOrder : Stmt := top 19
abbrev sWrong : Stmt := top 20
abbrev sIsClause : Stmt := top 21
abbrev sIsFull : Stmt := top 22
abbrev sFullSettings : Stmt := top 24
/-! ### the stream of draws: at S a list of the cells' list at L, the digits' cell, the number of draws, the mixed number -/
def StreamAt (H : Hp) (S L : Addr) (c : Nat) : Prop := ∃ (ns : List Int) (a m : Int), H S = some (.lst [.ref L, .int a, .int (c : Int), .int m]) ∧ H L = some (.lst (ns.map V.int)) ∧ 0 ≤ a ∧ 0 ≤ m ∧ m < 2147483647 ∧ ns.length ≤ 63
theorem StreamAt.ne {H : Hp} {S L : Addr} {c : Nat} (h : StreamAt H S L c) : S ≠ L := by
  obtain ⟨ns, a, m, h1, h2, _⟩ := h
  refine ne_of h1 h2 fun z => ?_
  cases ns with
  | nil => cases z
  | cons n r => cases z
/-- all but the two objects of the stream stay -/
def Kept (S L : Addr) (H H' : Hp) : Prop := ∀ b o, H b = some o → b ≠ S → b ≠ L → H' b = some o
theorem Kept.refl {S L : Addr} (H : Hp) : Kept S L H H := fun _ _ h _ _ => h
theorem Kept.trans {S L : Addr} {H H1 H2 : Hp} (a : Kept S L H H1) (b : Kept S L H1 H2) : Kept S L H H2 := fun x o h h1 h2 => b x o (a x o h h1 h2) h1 h2
/-- a draw: a number from 0 to many - 1 -/
def spDraw : Sp := fun vs H Q _ => ∃ (S L : Addr) (many : Int) (c : Nat), vs = [.ref S, .int many] ∧ 0 < many ∧ many ≤ 1000 ∧ c ≤ 100000 ∧ StreamAt H S L c ∧
  ∀ (r : Int) (H' : Hp), 0 ≤ r → r < many → StreamAt H' S L (c + 1) → Kept S L H H' → Q (.int r) H'
section
variable {P : Program} {w : World} {K : PySem.W.Frag} {mg : Str → Option Value} {base : Heap}
theorem scDraw : FnScope ["_law_stream", "_law_many", "_law_digit", "_law_mixed_here"] ["_law_stream", "_law_many"] (defScope sDraw) := ⟨rfl, rfl, rfl, by decide +kernel, rfl, by decide +kernel, by decide +kernel⟩
theorem dp_ints {H : Hp} : ∀ ns : List Int, DpAll K H (ns.map V.int) (ns.map PyData.int)
  | [] => .nil
  | n :: r => .cons (.int n) (dp_ints r)
theorem lay_ints : ∀ ns : List Int, PyData.canLayAll0 (ns.map PyData.int) = true ∧ PyData.depthAll (ns.map PyData.int) ≤ 2
  | [] => ⟨rfl, Nat.zero_le _⟩
  | n :: r => by
    obtain ⟨h1, h2⟩ := lay_ints r
    refine ⟨?_, ?_⟩
    · simp only [List.map_cons, PyData.canLayAll0, PyData.canLay0, h1, Bool.and_self]
    · simp only [List.map_cons, PyData.depthAll, PyData.depth]
      omega
theorem shaped_ints (ns : List Int) : SeqAt.shaped (.list (ns.map PyData.int)) = true := by
  obtain ⟨h1, h2⟩ := lay_ints ns
  refine Bool.and_eq_true_iff.mpr ⟨?_, decide_eq_true ?_⟩
  · simp only [PyData.canLay0, h1]
  · simp only [PyData.depth]
    omega
theorem eqv_nil : ∀ ns : List Int, PyData.eqv (.list (ns.map PyData.int)) (.list []) = decide (ns = [])
  | [] => rfl
  | n :: r => by simp [PyData.eqv, PyData.eqvAll]
theorem ok_draw {f : Addr} {fd : FuncData} (F : Fun K "_law_draw" "_law_draw" sDraw f fd) (mi : mg "int" = none) : FnOk P w K mg base CX0 1 f fd ["_law_stream", "_law_many"] spDraw := by
  refine F.ok scDraw (fun vs H Q E h => ?_) (fun cdv A outer s H vs Q E hr h => ?_)
  · obtain ⟨S, L, many, c, rfl, _⟩ := h
    rfl
  · obtain ⟨S, L, many, c, rfl, m0, m1, hc, ⟨ns, a, m, hS, hL, a0, h0, h1, hn⟩, k⟩ := h
    have hu := hu_of hr
    have nSL : S ≠ L := StreamAt.ne ⟨ns, a, m, hS, hL, a0, h0, h1, hn⟩
    -- what stands behind the first if
    obtain ⟨tt, htt, hrest⟩ : ∃ tt, PSs (cxOf CX0 P w K mg base ["_law_stream", "_law_many", "_law_digit", "_law_mixed_here"] "_law_draw" (defScope sDraw) f cdv A outer s H E).nox ((defBody sDraw).drop 2) tt ∧
        ∀ (ns : List Int) (a m : Int) (H1 : Hp), H1 S = some (.lst [.ref L, .int a, .int ((c : Int) + 1), .int m]) → H1 L = some (.lst (ns.map V.int)) → 0 ≤ a → 0 ≤ m → m < 2147483647 → ns.length ≤ 63 → Kept S L H H1 →
          tt { nx := fun _ H' => Q .non H', rt := Q } [some (.ref S), some (.int many), none, none] H1 := by
      refine ⟨_, pss_cons (ps_if (pt_cmpR op_gt (pe_ix ix_list (pv 0) pe_int (fun _ _ => rfl)) pe_int (nomark _))
        (pss_cons (ps_set (i := 2) scDraw.nd rfl (.inl rfl) (pe_op op_modN (pe_callTy call_int1 (by rfl) mi (by decide +kernel) (pa_cons (pe_ix ix_list (pv 0) pe_int (fun _ _ => rfl)) pa_nil)) (pv 1)))
        (pss_cons (ps_asg (pe_op op_fdivN (pe_ix ix_list (pv 0) pe_int (fun _ _ => rfl)) (pv 1)) (pg_sub (pv 0) pe_int set_list))
        (pss_one (ps_ret (pv 2))))) pss_nil)
        (pss_cons (ps_set (i := 3) scDraw.nd rfl (.inl rfl) (pe_op op_mod (pe_op op_pow (pe_op op_add (pe_op op_add (pe_ix ix_list (pv 0) pe_int (fun _ _ => rfl)) (pe_op op_mul pe_int (pe_ix ix_list (pv 0) pe_int (fun _ _ => rfl)))) pe_int) pe_int) pe_int))
        (pss_one (ps_ret (pe_op op_modN (pe_op op_mod (pe_op op_pow (pe_op op_add (pe_op op_add (pe_op op_mul (pv 3) pe_int) (pe_op op_mul (pe_op op_mul pe_int (pe_ix ix_list (pv 0) pe_int (fun _ _ => rfl))) (pe_ix ix_list (pv 0) pe_int (fun _ _ => rfl)))) pe_int) pe_int) pe_int) (pv 1))))), fun ns a m H1 hS hL a0 h0 h1 hn hk => ?_⟩
      refine ⟨_, rfl, S, _, 1, _, rfl, rfl, SqL.of hS, rfl, _, _, rfl, rfl, _, rfl, ?_⟩
      refine ite2 (fun hp => ?_) (fun hp => ?_)
      · have ha : 0 < a := by simpa using hp
        refine ⟨_, rfl, S, _, 1, _, rfl, rfl, SqL.of hS, rfl, .inl ⟨_, rfl, _, rfl, _, _, rfl, rfl, (by omega), ?_⟩⟩
        refine ⟨_, rfl, S, _, 1, _, rfl, rfl, SqL.of hS, rfl, _, rfl, _, _, rfl, rfl, ⟨(by omega), (by omega)⟩, _, rfl, S, _, 1, 1, rfl, rfl, hS, rfl, _, rfl, ?_⟩
        have r0 := Int.fmod_nonneg_of_pos a m0
        have r1 := Int.fmod_lt_of_pos a m0
        refine k _ _ r0 r1 ⟨ns, a.fdiv many, m, upd_same, (upd_ne nSL.symm).trans hL, Int.fdiv_nonneg a0 (by omega), h0, h1, hn⟩ fun b o e n1 n2 => (upd_ne n1).trans (hk b o e n1 n2)
      · refine ⟨_, rfl, S, _, 3, _, rfl, rfl, SqL.of hS, rfl, _, rfl, S, _, 2, _, rfl, rfl, SqL.of hS, rfl, _, _, rfl, rfl, .inl ⟨(by decide), (by decide)⟩, _, _, rfl, rfl, _, _, rfl, rfl, _, _, rfl, rfl, ⟨(by decide), (by decide), ?_⟩, _, _, rfl, rfl, (by show (0 : Int) < 2147483629; decide), ?_⟩
        · show (m + 104729 * ((c : Int) + 1) + 17).natAbs < 2 ^ 64
          omega
        have g0 := Int.emod_nonneg ((m + 104729 * ((c : Int) + 1) + 17) ^ (5 : Int).toNat) (show (2147483629 : Int) ≠ 0 by decide)
        have g1 := Int.emod_lt_of_pos ((m + 104729 * ((c : Int) + 1) + 17) ^ (5 : Int).toNat) (show (0 : Int) < 2147483629 by decide)
        have hcc : ((c : Int) + 1) * ((c : Int) + 1) ≤ 100001 * 100001 := Int.mul_le_mul (by omega) (by omega) (by omega) (by omega)
        have hc0 : 0 ≤ ((c : Int) + 1) * ((c : Int) + 1) := Int.mul_nonneg (by omega) (by omega)
        have hca : 40503 * ((c : Int) + 1) * ((c : Int) + 1) = 40503 * (((c : Int) + 1) * ((c : Int) + 1)) := Int.mul_assoc ..
        refine ⟨_, rfl, _, _, rfl, rfl, .inl ⟨(by omega), (by omega)⟩, _, rfl, S, _, 2, _, rfl, rfl, SqL.of hS, rfl, _, _, rfl, rfl, .inl ⟨(by decide), (by decide)⟩, _, rfl, S, _, 2, _, rfl, rfl, SqL.of hS, rfl, _, _, rfl, rfl, .inl ⟨(by show -(2 ^ 64) < 40503 * ((c : Int) + 1); omega), (by show 40503 * ((c : Int) + 1) < 2 ^ 64; omega)⟩,
          _, _, rfl, rfl, _, _, rfl, rfl, _, _, rfl, rfl, ⟨(by decide), (by decide), ?_⟩, _, _, rfl, rfl, (by show (0 : Int) < 1000000007; decide), _, rfl, _, _, rfl, rfl, (by omega), ?_⟩
        · show ((m + 104729 * ((c : Int) + 1) + 17) ^ (5 : Int).toNat % 2147483629 * 48271 + 40503 * ((c : Int) + 1) * ((c : Int) + 1) + 13).natAbs < 2 ^ 64
          rw [hca]
          generalize ((m + 104729 * ((c : Int) + 1) + 17) ^ (5 : Int).toNat) % 2147483629 = y at g0 g1 ⊢
          omega
        exact k _ _ (Int.fmod_nonneg_of_pos _ m0) (Int.fmod_lt_of_pos _ m0) ⟨ns, a, m, hS, hL, a0, h0, h1, hn⟩ hk
    refine ⟨_, pss_cons (ps_asg (pe_op op_add (pe_ix ix_list (pv 0) pe_int (fun _ _ => rfl)) pe_int) (pg_sub (pv 0) pe_int set_list))
      (pss_cons (ps_if (PW.pt (pw_and (pt_cmpR op_eq (pe_ix ix_list (pv 0) pe_int (fun _ _ => rfl)) pe_int (nomark _)) (pw_and1 (pt_cmpR (op_neD hr.units) (pe_ix ix_list (pv 0) pe_int (fun _ _ => rfl)) (pe_lst pa_nil) (nomark _)))))
        (pss_cons (ps_asg (pe_bm PySem.F.plainAttrs_list PySem.F.slot_list_pop PySem.F.type_list_pop mt_popAt (pe_ix ix_list (pv 0) pe_int (fun _ _ => rfl)) (pa_cons pe_int pa_nil)) (pg_sub (pv 0) pe_int set_list))
        (pss_one (ps_if (pt_cmpR op_lt (pe_ix ix_list (pv 0) pe_int (fun _ _ => rfl)) (pe_op op_pow pe_int pe_int) (nomark _))
          (pss_cons (ps_asg (pe_op op_mod (pe_callTy call_int1 (by rfl) mi (by decide +kernel) (pa_cons (pe_op op_add (pe_op op_add (pe_op op_mul (pe_ix ix_list (pv 0) pe_int (fun _ _ => rfl)) pe_int) (pe_ix ix_list (pv 0) pe_int (fun _ _ => rfl))) pe_int) pa_nil)) pe_int) (pg_sub (pv 0) pe_int set_list))
          (pss_one (ps_asg pe_int (pg_sub (pv 0) pe_int set_list)))) pss_nil))) pss_nil) htt), ?_⟩
    refine ⟨_, rfl, S, _, 2, _, rfl, rfl, SqL.of hS, rfl, _, _, rfl, rfl, _, rfl, S, _, 2, 2, rfl, rfl, hS, rfl, ?_⟩
    have hS1 : upd H S (.lst [.ref L, .int a, .int ((c : Int) + 1), .int m]) S = some (.lst [.ref L, .int a, .int ((c : Int) + 1), .int m]) := upd_same
    have hL1 : upd H S (.lst [.ref L, .int a, .int ((c : Int) + 1), .int m]) L = some (.lst (ns.map V.int)) := (upd_ne nSL.symm).trans hL
    have hK1 : Kept S L H (upd H S (.lst [.ref L, .int a, .int ((c : Int) + 1), .int m])) := fun b o e n1 n2 => (upd_ne n1).trans e
    refine ⟨_, rfl, S, _, 1, _, rfl, rfl, SqL.of hS1, rfl, rfl, _, rfl, ?_⟩
    refine ite2 (fun he => ?_) (fun _ => hrest ns a m _ hS1 hL1 a0 h0 h1 hn hK1)
    -- the second half of the test: is the cells' list empty
    refine ⟨_, rfl, S, _, 0, _, rfl, rfl, SqL.of hS1, rfl, (by show 0 ≤ sizeLine; exact Nat.zero_le _), fun p hp => ?_⟩
    have nSp : S ≠ p := ne_of_none hS1 hp
    have nLp : L ≠ p := ne_of_none hL1 hp
    refine ⟨_, _, .lst (SqL.of ((upd_ne nLp).trans hL1)) (dp_ints ns), .lst (SqL.of upd_same) .nil, shaped_ints ns, rfl, _, rfl, ?_⟩
    have hS2 := (upd_ne (H := upd H S (.lst [.ref L, .int a, .int ((c : Int) + 1), .int m])) (o := HO.lst []) nSp).trans hS1
    have hL2 := (upd_ne (H := upd H S (.lst [.ref L, .int a, .int ((c : Int) + 1), .int m])) (o := HO.lst []) nLp).trans hL1
    have hK2 : Kept S L H (upd (upd H S (.lst [.ref L, .int a, .int ((c : Int) + 1), .int m])) p (.lst [])) := fun b o e n1 n2 => (upd_ne (ne_of_none (hK1 b o e n1 n2) hp)).trans (hK1 b o e n1 n2)
    rw [eqv_nil]
    cases ns with
    | nil => exact iteF (hrest [] a m _ hS2 hL2 a0 h0 h1 hn hK2)
    | cons z zs =>
      refine iteT ?_
      have hz : zs.length ≤ 62 := by rw [List.length_cons] at hn; omega
      -- the first cell is taken out and looked at
      refine ⟨_, rfl, S, _, 0, _, rfl, rfl, SqL.of hS2, rfl, .inl ⟨rfl, _, SqL.of hL2⟩, L, _, 0, 0, _, rfl, rfl, hL2, (by decide), (by decide), (by rw [List.length_map, List.length_cons]; unfold seqIndex?; simp), rfl, _, rfl, S, _, 1, 1, rfl, rfl, (upd_ne nSL).trans hS2, rfl, ?_⟩
      have hS3 : ∀ (H9 : Hp) (o : HO), upd H9 S o S = some o := fun _ _ => upd_same
      have hL3 : ∀ (H9 : Hp) (o o' : HO), upd (upd H9 L o) S o' L = some o := fun _ _ _ => (upd_ne nSL.symm).trans upd_same
      have hK3 : ∀ (o o' : HO), Kept S L H (upd (upd (upd (upd H S (.lst [.ref L, .int a, .int ((c : Int) + 1), .int m])) p (.lst [])) L o) S o') := fun o o' b u e n1 n2 => (upd_ne n1).trans ((upd_ne n2).trans (hK2 b u e n1 n2))
      refine ⟨_, rfl, S, _, 1, _, rfl, rfl, SqL.of (hS3 _ _), rfl, _, _, rfl, rfl, ⟨(by decide), (by decide), (by decide)⟩, _, _, rfl, rfl, _, rfl, ?_⟩
      refine ite2 (fun hlt => ?_) (fun hge => ?_)
      · refine ⟨_, rfl, S, _, 3, _, rfl, rfl, SqL.of (hS3 _ _), rfl, _, _, rfl, rfl, .inl ⟨(by omega), (by omega)⟩, _, rfl, S, _, 1, _, rfl, rfl, SqL.of (hS3 _ _), rfl, _, _, rfl, rfl, _, _, rfl, rfl, .inl ⟨_, rfl, _, _, rfl, rfl, (by show (0 : Int) < 2147483647; decide), _, rfl, S, _, 3, 3, rfl, rfl, hS3 _ _, rfl, _, rfl, S, _, 1, 1, rfl, rfl, hS3 _ _, rfl, ?_⟩⟩
        exact hrest zs 0 ((m * 31 + z + 7) % 2147483647) _ upd_same ((upd_ne nSL.symm).trans ((upd_ne nSL.symm).trans (hL3 _ _ _))) (by decide) (Int.emod_nonneg _ (by decide)) (Int.emod_lt_of_pos _ (by decide)) (by omega) fun b u e n1 n2 => (upd_ne n1).trans ((upd_ne n1).trans (hK3 _ _ b u e n1 n2))
      · have h9 : (10 : Int) ^ (18 : Int).toNat ≤ z := Int.not_lt.mp fun q => hge (decide_eq_true q)
        have e9 : (10 : Int) ^ (18 : Int).toNat = 1000000000000000000 := by decide
        exact hrest zs z m _ upd_same (hL3 _ _ _) (by omega) h0 h1 (by omega) (hK3 _ _)
end
/-! ### picks -/
def spPickL (K : PySem.W.Frag) : Sp := fun vs H Q _ => ∃ (S L T : Addr) (xs : List V) (c : Nat), vs = [.ref S, .ref T] ∧ SqL K H T xs ∧ (∀ H', Kept S L H H' → SqL K H' T xs) ∧ 0 < xs.length ∧ xs.length ≤ 1000 ∧ c ≤ 100000 ∧ StreamAt H S L c ∧
  ∀ (i : Nat) (v : V) (H' : Hp), xs[i]? = some v → StreamAt H' S L (c + 1) → Kept S L H H' → Q v H'
def spPickS : Sp := fun vs H Q _ => ∃ (S L : Addr) (z : Str) (c : Nat), vs = [.ref S, .str z] ∧ 0 < z.length ∧ z.length ≤ 1000 ∧ c ≤ 100000 ∧ StreamAt H S L c ∧
  ∀ (i : Nat) (ch : Nat) (H' : Hp), z.cps.toList[i]? = some ch → StreamAt H' S L (c + 1) → Kept S L H H' → Q (.str ⟨#[ch]⟩) H'
section
variable {P : Program} {w : World} {K : PySem.W.Frag} {mg : Str → Option Value} {base : Heap}
theorem scPick : FnScope ["_law_stream", "_law_things"] ["_law_stream", "_law_things"] (defScope sPick) := ⟨rfl, rfl, rfl, by decide +kernel, rfl, by decide +kernel, by decide +kernel⟩
theorem at_in {α : Type} {xs : List α} {r : Int} (h0 : 0 ≤ r) (h1 : r < xs.length) : ∃ v, xs[r.toNat]? = some v ∧ atI xs r = some v := by
  have hl : r.toNat < xs.length := by omega
  refine ⟨xs[r.toNat], List.getElem?_eq_getElem hl, ?_⟩
  have z := atI_nat (List.getElem?_eq_getElem hl)
  rwa [Int.toNat_of_nonneg h0] at z
variable {f fD : Addr} {fd fdD : FuncData}
theorem ok_pickL (F : Fun K "_law_pick" "_law_pick" sPick f fd) (GD : FnOk P w K mg base CX0 1 fD fdD ["_law_stream", "_law_many"] spDraw) (mD : mg "_law_draw" = some (.ref fD)) (kD : PySem.W.keepIn K (.ref fD) = true) (bD : L2.Binds K fdD ["_law_stream", "_law_many"] []) (ml : mg "len" = none) :
    FnOk P w K mg base CX0 2 f fd ["_law_stream", "_law_things"] (spPickL K) := by
  refine F.ok scPick (fun vs H Q E h => ?_) (fun cdv A outer s H vs Q E hr h => ?_)
  · obtain ⟨S, L, T, xs, c, rfl, _⟩ := h
    rfl
  · obtain ⟨S, L, T, xs, c, rfl, hT, hT', x0, x1, hc, hS, k⟩ := h
    refine ⟨_, pss_one (ps_ret (pe_ix ix_seq (pv 1) (pe_call GD hr (by rfl) mD kD bD .nil pass0 (pa_cons (pv 0) (pa_cons (pe_callB call_len (by rfl) ml PySem.boot_len (pa_cons (pv 1) pa_nil)) pa_nil))) (fun _ _ => rfl))), ?_⟩
    refine ⟨_, rfl, _, rfl, _, rfl, _, xs.length, rfl, .inl ⟨xs, hT, rfl⟩, S, L, _, c, rfl, by omega, by omega, hc, hS, fun r H' r0 r1 hS' hk => ?_⟩
    obtain ⟨v, e1, e2⟩ := at_in r0 r1
    exact .inl ⟨T, xs, r, v, rfl, rfl, hT' H' hk, e2, k _ v H' e1 hS' hk⟩
theorem ok_pickS (F : Fun K "_law_pick" "_law_pick" sPick f fd) (GD : FnOk P w K mg base CX0 1 fD fdD ["_law_stream", "_law_many"] spDraw) (mD : mg "_law_draw" = some (.ref fD)) (kD : PySem.W.keepIn K (.ref fD) = true) (bD : L2.Binds K fdD ["_law_stream", "_law_many"] []) (ml : mg "len" = none) :
    FnOk P w K mg base CX0 2 f fd ["_law_stream", "_law_things"] spPickS := by
  refine F.ok scPick (fun vs H Q E h => ?_) (fun cdv A outer s H vs Q E hr h => ?_)
  · obtain ⟨S, L, z, c, rfl, _⟩ := h
    rfl
  · obtain ⟨S, L, z, c, rfl, x0, x1, hc, hS, k⟩ := h
    refine ⟨_, pss_one (ps_ret (pe_ix ix_seq (pv 1) (pe_call GD hr (by rfl) mD kD bD .nil pass0 (pa_cons (pv 0) (pa_cons (pe_callB call_len (by rfl) ml PySem.boot_len (pa_cons (pv 1) pa_nil)) pa_nil))) (fun _ _ => rfl))), ?_⟩
    have hz : z.length ≤ sizeLine := by rw [sizeLine_eq]; omega
    refine ⟨_, rfl, _, rfl, _, rfl, _, z.length, rfl, ⟨hz, rfl⟩, S, L, _, c, rfl, by omega, by omega, hc, hS, fun r H' r0 r1 hS' hk => ?_⟩
    obtain ⟨ch, e1, e2⟩ := at_in (xs := z.cps.toList) r0 (by rw [Array.length_toList]; exact r1)
    exact .inr (.inr ⟨z, r, ch, rfl, rfl, hz, e2, k _ ch H' e1 hS' hk⟩)
/-! ### the same shown text -/
def spSame (K : PySem.W.Frag) : Sp := fun vs H Q _ => ∃ (x y : V) (d : PyData), vs = [x, y] ∧ Dq K H x d ∧ Dq K H y d ∧ d.showable = true ∧ d.shown.length ≤ sizeLine ∧ d.depth ≤ 60 ∧ Q (.bl true) H
theorem scSame : FnScope ["_law_found", "_law_due"] ["_law_found", "_law_due"] (defScope sSame) := ⟨rfl, rfl, rfl, by decide +kernel, rfl, by decide +kernel, by decide +kernel⟩
theorem ok_same (F : Fun K "_law_same" "_law_same" sSame f fd) (mr : mg "repr" = none) : FnG P w K mg base 1 f fd ["_law_found", "_law_due"] (spSame K) := by
  refine fng_of F scSame (fun vs H Q E h => ?_) (fun cdv A outer s H vs Q E hg hr h => ?_)
  · obtain ⟨x, y, d, rfl, _⟩ := h
    rfl
  · obtain ⟨x, y, d, rfl, hx, hy, h1, h2, h3, k⟩ := h
    refine ⟨_, pss_one (ps_ret (pe_cmpR op_eq (pe_callB (call_reprD hg hr.units) (by rfl) mr (by decide +kernel) (pa_cons (pv 0) pa_nil)) (pe_callB (call_reprD hg hr.units) (by rfl) mr (by decide +kernel) (pa_cons (pv 1) pa_nil)) (nomark _))), ?_⟩
    refine ⟨_, rfl, _, d, rfl, hx, h1, h2, h3, _, rfl, _, d, rfl, hy, h1, h2, h3, rfl, ?_⟩
    show Q (.bl (decide (V.str d.shown = V.str d.shown))) H
    rw [decide_eq_true rfl]
    exact k
end
end K6
namespace K6
open PySem PySem.Spec PyProof.Rows L2 LamX NdefX EV
theorem StreamAt.new {H : Hp} {S L p : Addr} {c : Nat} {o : HO} (h : StreamAt H S L c) (hp : H p = none) : StreamAt (upd H p o) S L c := by
  obtain ⟨ns, a, m, e1, e2, r⟩ := h
  exact ⟨ns, a, m, (upd_ne (ne_of_none e1 hp)).trans e1, (upd_ne (ne_of_none e2 hp)).trans e2, r⟩
theorem StreamAt.off {H : Hp} {S L p : Addr} {c : Nat} (h : StreamAt H S L c) (hp : H p = none) : p ≠ S ∧ p ≠ L := by
  obtain ⟨ns, a, m, e1, e2, r⟩ := h
  exact ⟨(ne_of_none e1 hp).symm, (ne_of_none e2 hp).symm⟩
theorem StreamAt.put {H : Hp} {S L p : Addr} {c : Nat} {o : HO} (h : StreamAt H S L c) (n1 : p ≠ S) (n2 : p ≠ L) : StreamAt (upd H p o) S L c := by
  obtain ⟨ns, a, m, e1, e2, r⟩ := h
  exact ⟨ns, a, m, (upd_ne n1.symm).trans e1, (upd_ne n2.symm).trans e2, r⟩
theorem Kept.new {S L p : Addr} {H H' : Hp} {o : HO} (k : Kept S L H H') (hp : H p = none) : Kept S L H (upd H' p o) := fun b u e n1 n2 => (upd_ne (ne_of_none e hp)).trans (k b u e n1 n2)
theorem Kept.none {S L p : Addr} {H H' : Hp} (k : Kept S L H H') (h : H' p = none) (n1 : p ≠ S) (n2 : p ≠ L) : H p = none := by
  cases e : H p with
  | none => rfl
  | some o =>
    have z := k p o e n1 n2
    rw [h] at z
    exact nomatch z
section
variable {X : Cx} {Kf : PySem.W.Frag} {T name id : String} {o e : Expr} {es : List Expr} {apos cpos : Pos} {to : TE} {t : TA} {r : List V → Hp → VK → Prop}
/-- as the library's rules, the fragment named: so they serve within a comprehension's block -/
theorem len_k (hK : X.K = Kf := by rfl) : CallR X (.builtin "len") (fun xs H Q => ∃ x n, xs = [x] ∧ LenV Kf x H n ∧ Q (.int n) H) := by
  subst hK
  exact call_len
end
theorem seq_at {r : Int} {n : Nat} (h0 : 0 ≤ r) (h1 : r < n) : seqIndex? r n = some r.toNat := by
  unfold seqIndex?
  simp only [show ¬ r < 0 by omega, if_false]
  rw [if_pos (by simp; omega)]
theorem perm_erase {α : Type} : ∀ (xs : List α) (i : Nat) (v : α), xs[i]? = some v → (v :: xs.eraseIdx i).Perm xs
  | [], i, v, h => by simp at h
  | x :: r, 0, v, h => by
    obtain rfl : x = v := by simpa using h
    exact .refl _
  | x :: r, i + 1, v, h => (List.Perm.swap x v _).trans ((perm_erase r i v (by simpa using h)).cons x)
/-! ### a list in another order -/
def spMixed (K : PySem.W.Frag) : Sp := fun vs H Q _ => ∃ (S L T : Addr) (b : Bool) (xs : List V) (c : Nat), vs = [.ref S, .ref T] ∧ Sq K b H T xs ∧ xs.length ≤ 1000 ∧ c + xs.length ≤ 100000 ∧ StreamAt H S L c ∧
  ∀ (ys : List V) (p : Addr) (H' : Hp), ys.Perm xs → H p = none → H' p = some (.lst ys) → StreamAt H' S L (c + xs.length) → Kept S L H H' → Q (.ref p) H'
section
variable {P : Program} {w : World} {K : PySem.W.Frag} {mg : Str → Option Value} {base : Heap} {f fD : Addr} {fd fdD : FuncData}
abbrev nMixed : List Str := ["_law_stream", "_law_things", "_law_left", "_law_k"]
theorem scMixed : FnScope nMixed ["_law_stream", "_law_things"] (defScope sMixed) := ⟨rfl, rfl, rfl, by decide +kernel, rfl, by decide +kernel, by decide +kernel⟩
theorem ok_mixed (F : Fun K "_law_mixed" "_law_mixed" sMixed f fd) (GD : FnOk P w K mg base CX0 1 fD fdD ["_law_stream", "_law_many"] spDraw) (mD : mg "_law_draw" = some (.ref fD)) (kD : PySem.W.keepIn K (.ref fD) = true) (bD : L2.Binds K fdD ["_law_stream", "_law_many"] []) (ml : mg "len" = none) (mr : mg "range" = none) (mli : mg "list" = none) :
    FnOk P w K mg base CX0 2 f fd ["_law_stream", "_law_things"] (spMixed K) := by
  refine F.ok scMixed (fun vs H Q E h => ?_) (fun cdv A outer s H vs Q E hr h => ?_)
  · obtain ⟨S, L, T, b, xs, c, rfl, _⟩ := h
    rfl
  · obtain ⟨S, L, T, b, xs, c, rfl, hT, hx, hc, hS, k⟩ := h
    refine ⟨_, pss_cons (ps_set (i := 2) scMixed.nd rfl (.inr rfl) (pe_callTy call_list_of (by rfl) mli (by decide +kernel) (pa_cons (pv 1) pa_nil)))
      (pss_one (ps_ret (pe_lc (own := [("_law_k", 3)]) (g := gName 3) (tt := tYes) rfl scMixed.nd (pi_range1 (by rfl) mr (pa_cons (pe_callB call_len (by rfl) ml PySem.boot_len (pa_cons (pv 2) pa_nil)) pa_nil)) (blkOk_by (N := nMixed) (sc := defScope sMixed) (by decide +kernel))
          (fun _ _ _ _ _ => pg_name (i := 3) scMixed.nd rfl (.inl rfl)) (fun _ _ _ _ _ => pts_nil)
          (fun _ _ _ _ _ => show PE _ _ (tBM K _ _ _ _) from pe_bm PySem.F.plainAttrs_list PySem.F.slot_list_pop PySem.F.type_list_pop mt_popAt (pv 2) (pa_cons (pe_call GD hr (by rfl) mD kD bD .nil pass0 (pa_cons (pv 0) (pa_cons (pe_callB (len_k (Kf := K)) (by rfl) ml PySem.boot_len (pa_cons (pv 2) pa_nil)) pa_nil))) pa_nil))))), ?_⟩
    refine ⟨_, rfl, T, xs, rfl, hT.any, fun l hl => ?_⟩
    have lS := hS.off hl
    refine ⟨_, rfl, _, xs.length, rfl, .inl ⟨xs, SqL.of upd_same, rfl⟩, _, rfl, by omega, by omega, fun D hD => lc_range (lo := 0) (n := xs.length) (fun i H2 => ∃ acc rest : List V, (acc ++ rest).Perm xs ∧ acc.length = i ∧ H2 l = some (.lst rest) ∧ H2 D = some (.lst acc) ∧ StreamAt H2 S L (c + i) ∧ Kept S L H H2) ?_ ?_ ?_⟩
    · have nD : l ≠ D := ne_of_none upd_same hD
      exact ⟨[], xs, .refl _, rfl, (upd_ne nD).trans upd_same, upd_same, (hS.new hl).new hD, ((Kept.refl H).new hl).new ((Kept.none ((Kept.refl H).new hl) hD ((hS.new hl).off hD).1 ((hS.new hl).off hD).2))⟩
    · rintro i H2 hi ⟨acc, rest, hp, ha, hl2, hD2, hS2, hk2⟩
      have len : acc.length + rest.length = xs.length := by rw [← List.length_append]; exact hp.length_eq
      have nD : D ≠ S ∧ D ≠ L := (hS.new hl).off hD
      refine ⟨rfl, _, rfl, .inl ⟨rfl, _, SqL.of hl2⟩, _, rfl, _, rfl, _, rest.length, rfl, .inl ⟨rest, SqL.of hl2, rfl⟩, S, L, _, _, rfl, by omega, by omega, by omega, hS2, fun r H3 r0 r1 hS3 hk3 => ?_⟩
      have hl3 := hk3 _ _ hl2 lS.1 lS.2
      have hD3 := hk3 _ _ hD2 nD.1 nD.2
      obtain ⟨v, e1, e2⟩ := at_in r0 r1
      have lt : r.toNat < rest.length := (List.getElem?_eq_some_iff.mp e1).1
      have nlD : D ≠ l := (ne_of_none (show upd H l (.lst xs) l = some (.lst xs) from upd_same) hD).symm
      refine ⟨l, rest, r, r.toNat, v, rfl, rfl, hl3, by omega, by omega, ?_, e1, acc, (upd_ne nlD).trans hD3, by rw [sizeLine_eq]; omega, acc ++ [v], rest.eraseIdx r.toNat, ?_, by rw [List.length_append, ha]; rfl, ?_, upd_same, ?_, ?_⟩
      · exact seq_at r0 r1
      · have z := perm_erase rest r.toNat v e1
        rw [List.append_assoc]
        exact ((List.perm_append_left_iff acc).mpr z).trans hp
      · exact (upd_ne nlD.symm).trans upd_same
      · have z := (hS3.put (o := .lst (rest.eraseIdx r.toNat)) lS.1 lS.2).put (o := .lst (acc ++ [v])) nD.1 nD.2
        exact z
      · exact fun b u e n1 n2 => (upd_ne (ne_of_none ((upd_ne (ne_of_none e hl)).trans e) hD)).trans ((upd_ne (ne_of_none e hl)).trans (hk3 b u (hk2 b u e n1 n2) n1 n2))
    · rintro H2 ⟨acc, rest, hp, ha, hl2, hD2, hS2, hk2⟩
      have len : acc.length + rest.length = xs.length := by rw [← List.length_append]; exact hp.length_eq
      obtain rfl : rest = [] := List.eq_nil_of_length_eq_zero (by omega)
      rw [List.append_nil] at hp
      exact k acc D H2 hp (Kept.none ((Kept.refl H).new hl) hD ((hS.new hl).off hD).1 ((hS.new hl).off hD).2) hD2 hS2 hk2
end
end K6
namespace K6
open PySem PySem.Spec PyProof.Rows L2 LamX NdefX EV
/-! ### names -/
/-- one to eight small letters -/
def Name1 (z : Str) : Prop := 1 ≤ z.length ∧ z.length ≤ 8 ∧ ∀ ch ∈ z.cps.toList, 97 ≤ ch ∧ ch ≤ 122
theorem join_nil : ∀ l : List Nat, TL.joinL [] (l.map fun c => [c]) = l
  | [] => rfl
  | [_] => rfl
  | a :: b :: r => by
    have z := join_nil (b :: r)
    show [a] ++ ([] ++ TL.joinL [] ((b :: r).map fun c => [c])) = a :: b :: r
    rw [z]
    rfl
def signs (l : List Nat) : List Str := l.map fun c => ⟨#[c]⟩
theorem len_signs : ∀ l : List Nat, ((signs l).map (·.length)).sum = l.length
  | [] => rfl
  | a :: r => by
    have z := len_signs r
    show 1 + ((signs r).map (·.length)).sum = r.length + 1
    rw [z]
    omega
theorem join_signs (l : List Nat) : (Txt.join (Str.ofString "") (signs l)).cps.toList = l := by
  rw [TL.join_eq]
  have z := TL.tl_join (Str.ofString "") (signs l)
  have e : (signs l).map TL.tl = l.map fun c => [c] := by
    unfold signs
    rw [List.map_map]
    rfl
  rw [e] at z
  exact z.trans (join_nil l)
theorem nodup_le {α : Type} [DecidableEq α] : ∀ (xs ys : List α), xs.Nodup → (∀ x ∈ xs, x ∈ ys) → xs.length ≤ ys.length
  | [], ys, _, _ => Nat.zero_le _
  | x :: r, ys, nd, sub => by
    have nd' := List.nodup_cons.mp nd
    have z := nodup_le r (ys.erase x) nd'.2 fun y hy => (List.mem_erase_of_ne (fun e : y = x => nd'.1 (e ▸ hy))).mpr (sub y (List.mem_cons_of_mem _ hy))
    rw [List.length_erase_of_mem (sub x List.mem_cons_self)] at z
    have pos : 0 < ys.length := List.length_pos_of_mem (sub x List.mem_cons_self)
    show r.length + 1 ≤ _
    omega
theorem inV_str (z : Str) : ∀ ns : List Str, inV (.str z) (ns.map V.str) = decide (z ∈ ns)
  | [] => by simp [inV]
  | n :: r => by
    have h := inV_str z r
    unfold inV at h ⊢
    rw [List.map_cons, List.any_cons, h]
    show ((n == z) || decide (z ∈ r)) = decide (z ∈ n :: r)
    by_cases e : n = z
    · subst e; simp
    · rw [beq_eq_false_iff_ne.mpr e]
      have e2 : z ≠ n := fun q => e q.symm
      simp [e2]
theorem flat_str (ns : List Str) : (ns.map V.str).all flatV = true := by
  rw [List.all_map]
  exact List.all_eq_true.mpr fun _ _ => rfl
def letters : Str := Str.ofString "abcdefghijklmnopqrstuvwxyz"
def words : List Str := ["sign", "helper", "clause", "dead", "forced", "all", "found"]
theorem words_good : ∀ z ∈ words, Name1 z := by
  have all : ∀ z ∈ words, 1 ≤ z.length ∧ z.length ≤ 8 ∧ ∀ ch ∈ z.cps.toList, 97 ≤ ch ∧ ch ≤ 122 := by decide +kernel
  exact all
theorem letter_at : ∀ i < 26, letters.cps.toList[i]? = some (97 + i) := by decide +kernel
def spare (j : Nat) : Str := (Str.ofString "q" ++ ⟨#[97 + j / 26]⟩) ++ ⟨#[97 + j % 26]⟩
theorem spare_list (j : Nat) : (spare j).cps.toList = [113, 97 + j / 26, 97 + j % 26] := rfl
theorem spare_good {j : Nat} (h : j < 676) : Name1 (spare j) := by
  refine ⟨by show 1 ≤ 3; decide, by show 3 ≤ 8; decide, fun ch hc => ?_⟩
  rw [spare_list] at hc
  have h2 : j / 26 < 26 := by omega
  have h3 : j % 26 < 26 := by omega
  simp only [List.mem_cons, List.not_mem_nil, or_false] at hc
  omega
theorem spare_inj {i j : Nat} (h : spare i = spare j) : i = j := by
  have z := congrArg (fun s : Str => s.cps.toList) h
  replace z : [113, 97 + i / 26, 97 + i % 26] = [113, 97 + j / 26, 97 + j % 26] := z
  injection z with _ z
  injection z with z1 z
  injection z with z2 _
  omega
theorem spare_free {ns : List Str} (small : ns.length ≤ 600) (all : ∀ j < 676, spare j ∈ ns) : False := by
  have nd : ((List.range 676).map spare).Nodup := List.nodup_range.map spare fun i j ne e => ne (spare_inj e)
  have z := nodup_le _ ns nd fun x hx => by
    obtain ⟨j, hj, rfl⟩ := List.mem_map.mp hx
    exact all j (List.mem_range.mp hj)
  rw [List.length_map, List.length_range] at z
  omega
def spFresh (K : PySem.W.Frag) : Sp := fun vs H Q _ => ∃ (S L T : Addr) (ns : List Str) (c : Nat), vs = [.ref S, .ref T] ∧ SqL K H T (ns.map V.str) ∧ (∀ H', Kept S L H H' → SqL K H' T (ns.map V.str)) ∧ ns.length ≤ 600 ∧ c ≤ 90000 ∧ StreamAt H S L c ∧
  ∀ (z : Str) (c' : Nat) (H' : Hp), c' ≤ c + 11 → Name1 z → z ∉ ns → StreamAt H' S L c' → Kept S L H H' → Q (.str z) H'
section
variable {P : Program} {w : World} {K : PySem.W.Frag} {mg : Str → Option Value} {base : Heap} {f fD fP : Addr} {fd fdD fdP : FuncData}
abbrev nFresh : List Str := ["_law_stream", "_law_taken", "_law_letters", "_law_words", "_law_k", "_law_name", "_law_spare"]
theorem scFresh : FnScope nFresh ["_law_stream", "_law_taken"] (defScope sFresh) := ⟨rfl, rfl, rfl, by decide +kernel, rfl, by decide +kernel, by decide +kernel⟩
theorem ok_fresh (F : Fun K "_law_fresh" "_law_fresh" sFresh f fd) (GD : FnOk P w K mg base CX0 1 fD fdD ["_law_stream", "_law_many"] spDraw) (mD : mg "_law_draw" = some (.ref fD)) (kD : PySem.W.keepIn K (.ref fD) = true) (bD : L2.Binds K fdD ["_law_stream", "_law_many"] [])
    (GL : FnOk P w K mg base CX0 2 fP fdP ["_law_stream", "_law_things"] (spPickL K)) (mP : mg "_law_pick" = some (.ref fP)) (kP : PySem.W.keepIn K (.ref fP) = true) (bP : L2.Binds K fdP ["_law_stream", "_law_things"] []) (mr : mg "range" = none) (mi : mg "int" = none) :
    FnOk P w K mg base CX0 3 f fd ["_law_stream", "_law_taken"] (spFresh K) := by
  refine F.ok scFresh (fun vs H Q E h => ?_) (fun cdv A outer s H vs Q E hr h => ?_)
  · obtain ⟨S, L, T, ns, c, rfl, _⟩ := h
    rfl
  · obtain ⟨S, L, T, ns, c, rfl, hT, hT', hn, hc, hS, k⟩ := h
    have hr1 : Room 1 _ := hr.mono (by decide)
    have rest : ∃ tt, PSs (cxOf CX0 P w K mg base nFresh "_law_fresh" (defScope sFresh) f cdv A outer s H E).nox ((defBody sFresh).drop 3) tt ∧
        ∀ (z : Str) (c' : Nat) (H1 : Hp) (W : Addr) (o4 : Option V), c' ≤ c + 11 → Name1 z → StreamAt H1 S L c' → Kept S L H H1 → tt { nx := fun _ H' => Q .non H', rt := Q } [some (.ref S), some (.ref T), some (.str letters), some (.ref W), o4, some (.str z), none] H1 := by
      refine ⟨_, pss_cons (ps_for PassesOwn.never rfl (pi_range1 (by rfl) mr (pa_cons (pe_op op_mul pe_int (pe_callTy call_int1 (by rfl) mi (by decide +kernel) (pa_cons (pe_cmpR op_in_seq (pv 5) (pv 1) rfl) pa_nil))) pa_nil)) (pg_name (i := 4) scFresh.nd rfl (.inl rfl))
        (pss_cons (ps_set (i := 6) scFresh.nd rfl (.inl rfl) (pe_op op_add_str (pe_op op_add_str pe_str (pe_ix ix_seq (pv 2) (pe_op op_fdiv (pv 4) pe_int) (fun _ _ => rfl))) (pe_ix ix_seq (pv 2) (pe_op op_mod (pv 4) pe_int) (fun _ _ => rfl))))
        (pss_one (ps_if (pt_cmpR op_notIn_seq (pv 6) (pv 1) rfl) (pss_one (ps_ret (pv 6))) pss_nil))))
        (pss_one (ps_ret (pv 5))), fun z c' H1 W o4 hc' good hS1 hk1 => ?_⟩
      have hT1 := hT' H1 hk1
      refine ⟨_, rfl, _, rfl, T, _, rfl, .inl hT1, rfl, flat_str ns, .inr ⟨_, rfl, ?_⟩⟩
      rw [inV_str]
      by_cases hz : z ∈ ns
      · rw [decide_eq_true hz]
        refine ⟨_, _, rfl, rfl, .inl ⟨by decide, by decide⟩, _, rfl, by decide, by decide, ?_⟩
        refine for_range (lo := 0) (n := 676) (fun i σ H2 => H2 = H1 ∧ (∀ j < i, spare j ∈ ns) ∧ ∃ o4 o6, σ = [some (.ref S), some (.ref T), some (.str letters), some (.ref W), o4, some (.str z), o6]) ⟨rfl, fun j hj => absurd hj (Nat.not_lt_zero j), _, _, rfl⟩ ?_ ?_
        · rintro i σ H2 hi ⟨rfl, hj, _, _, rfl⟩
          have h26 : (26 : Int) ≠ 0 := by decide
          have a1 : (0 + (i : Int)) / 26 = ((i / 26 : Nat) : Int) := by omega
          have a2 : (0 + (i : Int)) % 26 = ((i % 26 : Nat) : Int) := by omega
          have b1 : i / 26 < 26 := by omega
          have b2 : i % 26 < 26 := by omega
          have len : letters.length ≤ sizeLine := by show 26 ≤ sizeLine; decide
          refine ⟨_, rfl, _, rfl, _, _, rfl, rfl, ⟨by decide, by decide⟩, ?_⟩
          refine .inr (.inr ⟨letters, _, 97 + i / 26, rfl, rfl, len, by rw [a1]; exact atI_nat (letter_at _ b1), ?_⟩)
          refine ⟨_, _, rfl, rfl, by show 1 + 1 ≤ sizeLine; decide, _, rfl, _, rfl, _, _, rfl, rfl, by show (0 : Int) < 26; decide, ?_⟩
          refine .inr (.inr ⟨letters, _, 97 + i % 26, rfl, rfl, len, by rw [a2]; exact atI_nat (letter_at _ b2), ?_⟩)
          refine ⟨_, _, rfl, rfl, by show 2 + 1 ≤ sizeLine; decide, _, rfl, _, rfl, T, _, rfl, .inl hT1, rfl, flat_str ns, _, rfl, ?_⟩
          rw [if_pos rfl, inV_str]
          by_cases hs : spare i ∈ ns
          · have e : decide ((Str.ofString "q" ++ (⟨#[97 + i / 26]⟩ : Str)) ++ (⟨#[97 + i % 26]⟩ : Str) ∈ ns) = true := decide_eq_true hs
            rw [e]
            refine iteF ⟨rfl, fun j hj' => ?_, _, _, rfl⟩
            rcases Nat.lt_succ_iff_lt_or_eq.mp hj' with q | q
            · exact hj j q
            · exact q ▸ hs
          · have e : decide ((Str.ofString "q" ++ (⟨#[97 + i / 26]⟩ : Str)) ++ (⟨#[97 + i % 26]⟩ : Str) ∈ ns) = false := decide_eq_false hs
            rw [e]
            exact iteT ⟨_, rfl, k (spare i) c' _ hc' (spare_good hi) hs hS1 hk1⟩
        · rintro σ H2 ⟨rfl, hj, _⟩
          exact (spare_free hn hj).elim
      · rw [decide_eq_false hz]
        refine ⟨_, _, rfl, rfl, .inl ⟨by decide, by decide⟩, _, rfl, by decide, by decide, ?_⟩
        refine for_range (lo := 0) (n := 0) (fun i σ H2 => H2 = H1 ∧ ∃ o4 o6, σ = [some (.ref S), some (.ref T), some (.str letters), some (.ref W), o4, some (.str z), o6]) ⟨rfl, _, _, rfl⟩ (fun i _ _ hi _ => absurd hi (Nat.not_lt_zero i)) ?_
        rintro σ H2 ⟨rfl, _, _, rfl⟩
        exact ⟨_, rfl, k z c' _ hc' good hz hS1 hk1⟩
    obtain ⟨tt, htt, hrest⟩ := rest
    refine ⟨_, pss_cons (ps_asg (pe_tup (pa_cons pe_str (pa_cons (pe_lst (pa_cons pe_str (pa_cons pe_str (pa_cons pe_str (pa_cons pe_str (pa_cons pe_str (pa_cons pe_str (pa_cons pe_str pa_nil)))))))) pa_nil))) (pg_tup rfl (pgs_cons (pg_name (i := 2) scFresh.nd rfl (.inr rfl)) (pgs_cons (pg_name (i := 3) scFresh.nd rfl (.inl rfl)) pgs_nil))))
      (pss_cons (ps_set (i := 5) scFresh.nd rfl (.inl rfl) (pe_join pe_str (pe_lc (own := [("_law_k", 4)]) (g := gName 4) (tt := tYes) rfl scFresh.nd (pi_range1 (by rfl) mr (pa_cons (pe_ix ix_list (pe_lst (pa_cons pe_int (pa_cons pe_int (pa_cons pe_int (pa_cons pe_int (pa_cons pe_int (pa_cons pe_int pa_nil))))))) (pe_call GD hr1 (by rfl) mD kD bD .nil pass0 (pa_cons (pv 0) (pa_cons pe_int pa_nil))) (fun _ _ => rfl)) pa_nil)) (blkOk_by (N := nFresh) (sc := defScope sFresh) (by decide +kernel))
          (fun _ _ _ _ _ => pg_name (i := 4) scFresh.nd rfl (.inl rfl)) (fun _ _ _ _ _ => pts_nil) (fun _ _ _ _ _ => show PE _ _ (tOp (rIx K) _ _) from pe_ix ix_seq (pv 2) (pe_call GD hr1 (by rfl) mD kD bD .nil pass0 (pa_cons (pv 0) (pa_cons pe_int pa_nil))) (fun _ _ => rfl)))))
      (pss_cons (ps_set (i := 5) scFresh.nd rfl (.inl rfl) (pe_ifExp (pt_cmpR op_eq (pe_call GD hr1 (by rfl) mD kD bD .nil pass0 (pa_cons (pv 0) (pa_cons pe_int pa_nil))) pe_int (nomark _)) (pe_call GL hr (by rfl) mP kP bP .nil pass0 (pa_cons (pv 0) (pa_cons (pv 3) pa_nil))) (pv 5)))
      htt)), ?_⟩
    refine ⟨(by show 7 ≤ sizeLine; decide), fun W hW => ⟨(by show 2 ≤ sizeLine; decide), fun t ht => ⟨t, _, rfl, SqT.of upd_same, rfl, _, _, rfl, _, _, rfl, rfl, ?_⟩⟩⟩
    have offW := hS.off hW
    have hS1 := hS.new (o := .lst (words.map V.str)) hW
    have offt := hS1.off ht
    have hS2 := hS1.new (o := .tup [.str letters, .ref W]) ht
    refine ⟨⟨_, rfl⟩, (by show 6 ≤ sizeLine; decide), fun l hl => ⟨_, rfl, S, L, 6, c, rfl, by decide, by decide, by omega, hS2.new hl, fun r H1 r0 r1 hS3 hk1 => ?_⟩⟩
    have offl := hS2.off hl
    have six : ∃ n : Nat, atI [V.int 1, V.int 1, V.int 1, V.int 2, V.int 3, V.int 8] r = some (.int (n : Int)) ∧ 1 ≤ n ∧ n ≤ 8 := by
      have hh : r = 0 ∨ r = 1 ∨ r = 2 ∨ r = 3 ∨ r = 4 ∨ r = 5 := by omega
      rcases hh with rfl | rfl | rfl | rfl | rfl | rfl
      · exact ⟨1, rfl, by decide, by decide⟩
      · exact ⟨1, rfl, by decide, by decide⟩
      · exact ⟨1, rfl, by decide, by decide⟩
      · exact ⟨2, rfl, by decide, by decide⟩
      · exact ⟨3, rfl, by decide, by decide⟩
      · exact ⟨8, rfl, by decide, by decide⟩
    obtain ⟨n, hn6, n0, n8⟩ := six
    have hl1 := hk1 _ _ upd_same offl.1 offl.2
    refine ⟨l, _, r, _, rfl, rfl, SqL.of hl1, hn6, _, rfl, by omega, by omega, fun D hD => lc_range (lo := 0) (n := n) (fun i H2 => ∃ cs : List Nat, cs.length = i ∧ (∀ ch ∈ cs, 97 ≤ ch ∧ ch ≤ 122) ∧ H2 D = some (.lst ((K6.signs cs).map V.str)) ∧ StreamAt H2 S L (c + 1 + i) ∧ Kept S L H1 H2)
      ⟨[], rfl, fun _ h => (nomatch h), upd_same, hS3.new hD, (Kept.refl H1).new hD⟩ ?_ ?_⟩
    · rintro i H2 hi ⟨cs, hcs, hch, hD2, hS4, hk2⟩
      have offD := hS3.off hD
      refine ⟨rfl, _, rfl, _, rfl, S, L, 26, _, rfl, by decide, by decide, by omega, hS4, fun q H3 q0 q1 hS5 hk3 => .inr (.inr ⟨letters, q, 97 + q.toNat, rfl, rfl, by show 26 ≤ sizeLine; decide, ?_, _, hk3 _ _ hD2 offD.1 offD.2, ?_, cs ++ [97 + q.toNat], ?_, ?_, ?_, hS5.put offD.1 offD.2, ?_⟩)⟩
      · have z := atI_nat (letter_at q.toNat (by omega))
        rwa [Int.toNat_of_nonneg q0] at z
      · rw [List.length_map]
        unfold K6.signs
        rw [List.length_map, sizeLine_eq]
        omega
      · rw [List.length_append, hcs]
        rfl
      · intro x hx
        rcases List.mem_append.mp hx with z | z
        · exact hch x z
        · rw [List.mem_singleton.mp z]
          omega
      · rw [upd_same]
        unfold K6.signs
        rw [List.map_append, List.map_append]
        rfl
      · exact fun b o e n1 n2 => (upd_ne (ne_of_none e hD)).trans (hk3 b o (hk2 b o e n1 n2) n1 n2)
    · rintro H2 ⟨cs, hcs, hch, hD2, hS4, hk2⟩
      refine ⟨_, D, K6.signs cs, rfl, rfl, .inl (SqL.of hD2), ?_, ?_⟩
      · rw [len_signs, hcs]
        show n + (K6.signs cs).length * 0 ≤ 16777216
        omega
      have good : Name1 (Txt.join (Str.ofString "") (K6.signs cs)) := by
        have e := join_signs cs
        have el : (Txt.join (Str.ofString "") (K6.signs cs)).length = n := by
          show (Txt.join (Str.ofString "") (K6.signs cs)).cps.size = n
          rw [← Array.length_toList, e, hcs]
        exact ⟨by omega, by omega, fun ch h => hch ch (e ▸ h)⟩
      have same3 : Kept S L H H2 := ((((Kept.refl H).new hW).trans ((Kept.refl _).new ht)).trans ((Kept.refl _).new hl)).trans (hk1.trans hk2)
      have hWs : ∀ H', Kept S L H2 H' → H' W = some (.lst (words.map V.str)) := fun H' hk' => hk' _ _ (hk2 _ _ (hk1 _ _ ((upd_ne (ne_of_none (show upd (upd H W (.lst (words.map V.str))) t _ W = some (.lst (words.map V.str)) from (upd_ne (ne_of_none upd_same ht)).trans upd_same) hl)).trans ((upd_ne (ne_of_none upd_same ht)).trans upd_same)) offW.1 offW.2) offW.1 offW.2) offW.1 offW.2
      refine ⟨_, rfl, S, L, 9, _, rfl, by decide, by decide, by omega, hS4, fun q H3 q0 q1 hS5 hk3 => ⟨rfl, _, rfl, ?_⟩⟩
      refine ite2 (fun _ => ?_) (fun _ => ?_)
      · refine ⟨_, rfl, _, rfl, S, L, W, words.map V.str, _, rfl, SqL.of (hWs H3 hk3), fun H' hk' => SqL.of (hWs H' (hk3.trans hk')), by decide, by decide, by omega, hS5, fun i v H4 hi hS6 hk4 => ?_⟩
        obtain ⟨z, hz, rfl⟩ : ∃ z ∈ words, v = .str z := by
          obtain ⟨z, h1, h2⟩ := List.mem_map.mp (List.mem_of_getElem? hi)
          exact ⟨z, h1, h2.symm⟩
        exact hrest z _ H4 W _ (by omega) (words_good z hz) hS6 ((same3.trans hk3).trans hk4)
      · exact ⟨_, rfl, hrest _ _ H3 W _ (by omega) good hS5 (same3.trans hk3)⟩
end
end K6
namespace K6
open PySem PySem.Spec PyProof.Rows L2 LamX NdefX EV
def spNames : Sp := fun vs H Q _ => ∃ (S L : Addr) (m c : Nat), vs = [.ref S, .int (m : Int)] ∧ m ≤ 60 ∧ c ≤ 80000 ∧ StreamAt H S L c ∧
  ∀ (ns : List Str) (p : Addr) (c' : Nat) (H' : Hp), ns.length = m → ns.Nodup → (∀ z ∈ ns, Name1 z) → H p = none → H' p = some (.lst (ns.map V.str)) → c' ≤ c + 11 * m → StreamAt H' S L c' → Kept S L H H' → Q (.ref p) H'
section
variable {P : Program} {w : World} {K : PySem.W.Frag} {mg : Str → Option Value} {base : Heap} {f fD fF : Addr} {fd fdD fdF : FuncData}
abbrev nNames : List Str := ["_law_stream", "_law_many", "_law_found", "_law_k"]
theorem scNames : FnScope nNames ["_law_stream", "_law_many"] (defScope sNames) := ⟨rfl, rfl, rfl, by decide +kernel, rfl, by decide +kernel, by decide +kernel⟩
theorem ok_names (F : Fun K "_law_names" "_law_names" sNames f fd) (GF : FnOk P w K mg base CX0 3 fF fdF ["_law_stream", "_law_taken"] (spFresh K)) (mF : mg "_law_fresh" = some (.ref fF)) (kF : PySem.W.keepIn K (.ref fF) = true) (bF : L2.Binds K fdF ["_law_stream", "_law_taken"] []) (mr : mg "range" = none) :
    FnOk P w K mg base CX0 4 f fd ["_law_stream", "_law_many"] spNames := by
  refine F.ok scNames (fun vs H Q E h => ?_) (fun cdv A outer s H vs Q E hr h => ?_)
  · obtain ⟨S, L, m, c, rfl, _⟩ := h
    rfl
  · obtain ⟨S, L, m, c, rfl, hm, hc, hS, k⟩ := h
    refine ⟨_, pss_cons (ps_set (i := 2) scNames.nd rfl (.inl rfl) (pe_lst pa_nil))
      (pss_cons (ps_for PassesOwn.never rfl (pi_range1 (by rfl) mr (pa_cons (pv 1) pa_nil)) (pg_name (i := 3) scNames.nd rfl (.inl rfl))
        (pss_one (ps_expr (pe_bm PySem.F.plainAttrs_list PySem.F.slot_list_append PySem.F.type_list_append mt_append (pv 2) (pa_cons (pe_call GF hr (by rfl) mF kF bF .nil pass0 (pa_cons (pv 0) (pa_cons (pv 2) pa_nil))) pa_nil)))))
      (pss_one (ps_ret (pv 2)))), ?_⟩
    refine ⟨by show 0 ≤ sizeLine; exact Nat.zero_le _, fun p hp => ⟨_, rfl, _, rfl, by omega, by omega, for_range (lo := 0) (n := m) (fun i σ H2 => ∃ (ns : List Str) (c' : Nat) (o3 : Option V), σ = [some (.ref S), some (.int (m : Int)), some (.ref p), o3] ∧ ns.length = i ∧ ns.Nodup ∧ (∀ z ∈ ns, Name1 z) ∧ H2 p = some (.lst (ns.map V.str)) ∧ c' ≤ c + 11 * i ∧ StreamAt H2 S L c' ∧ Kept S L H H2)
      ⟨[], c, _, rfl, rfl, List.nodup_nil, (fun _ h => nomatch h), upd_same, by omega, hS.new hp, (Kept.refl H).new hp⟩ ?_ ?_⟩⟩
    · rintro i σ H2 hi ⟨ns, c', o3, rfl, hl, nd, good, hp2, hc', hS2, hk2⟩
      have off := hS.off hp
      refine ⟨_, rfl, .inl ⟨rfl, _, SqL.of hp2⟩, _, rfl, _, rfl, S, L, p, ns, c', rfl, SqL.of hp2, fun H' hk' => SqL.of (hk' _ _ hp2 off.1 off.2), by omega, by omega, hS2, fun z c2 H3 hc2 hz hn hS3 hk3 => ?_⟩
      have hp3 := hk3 _ _ hp2 off.1 off.2
      refine ⟨p, _, _, rfl, rfl, hp3, by rw [List.length_map, sizeLine_eq]; omega, ns ++ [z], c2, _, rfl, by rw [List.length_append, hl]; rfl, ?_, ?_, ?_, by omega, hS3.put off.1 off.2, ?_⟩
      · exact List.nodup_append.mpr ⟨nd, List.nodup_cons.mpr ⟨fun h => (nomatch h), List.nodup_nil⟩, fun a ha b hb e => hn (by rw [← List.mem_singleton.mp hb, ← e]; exact ha)⟩
      · intro y hy
        rcases List.mem_append.mp hy with q | q
        · exact good y q
        · exact List.mem_singleton.mp q ▸ hz
      · rw [upd_same, List.map_append]
        rfl
      · exact fun b o e n1 n2 => (upd_ne (ne_of_none e hp)).trans (hk3 b o (hk2 b o e n1 n2) n1 n2)
    · rintro σ H2 ⟨ns, c', o3, rfl, hl, nd, good, hp2, hc', hS2, hk2⟩
      exact ⟨_, rfl, k ns p c' H2 hl nd good hp hp2 hc' hS2 hk2⟩
end
theorem same_new {H : Hp} {p : Addr} {o : HO} (h : H p = none) : Same H (upd H p o) := fun _ _ e => (upd_ne (ne_of_none e h)).trans e
/-! ### literals, ascending -/
def neg (n : Str) : Str := Str.ofString "-" ++ n
def lits (ns : List Str) : List Str := ns.flatMap fun n => [n, neg n]
def asc (ns some : List Str) : List Str := (lits ns).filter fun l => decide (l ∈ some)
theorem neg_list (n : Str) : (neg n).cps.toList = 45 :: n.cps.toList := by
  show (#[45] ++ n.cps).toList = _
  rw [Array.toList_append]
  rfl
theorem neg_len (n : Str) : (neg n).length = n.length + 1 := by
  show (neg n).cps.size = n.cps.size + 1
  rw [← Array.length_toList, neg_list, List.length_cons, Array.length_toList]
theorem lits_len (ns : List Str) : (lits ns).length = 2 * ns.length := by
  unfold lits
  induction ns with
  | nil => rfl
  | cons n r ih => rw [List.flatMap_cons, List.length_append, ih]; show 2 + 2 * r.length = 2 * (r.length + 1); omega
theorem asc_len (ns some : List Str) : (asc ns some).length ≤ 2 * ns.length := Nat.le_trans (List.length_filter_le ..) (Nat.le_of_eq (lits_len ns))
def spUp (K : PySem.W.Frag) : Sp := fun vs H Q _ => ∃ (A B : Addr) (b : Bool) (ss ns : List Str), vs = [.ref A, .ref B] ∧ Sq K b H A (ss.map V.str) ∧ (∀ H', Same H H' → Sq K b H' A (ss.map V.str)) ∧ SqL K H B (ns.map V.str) ∧ (∀ H', Same H H' → SqL K H' B (ns.map V.str)) ∧ ns.length ≤ 60 ∧ (∀ z ∈ ns, z.length ≤ 8) ∧
  ∀ (p : Addr) (H' : Hp), H p = none → H' p = some (.tup ((asc ns ss).map V.str)) → Same H H' → Q (.ref p) H'
section
variable {P : Program} {w : World} {K : PySem.W.Frag} {mg : Str → Option Value} {base : Heap} {f : Addr} {fd : FuncData}
abbrev nUp : List Str := ["_law_some", "_law_names_here", "_law_found", "_law_name", "_law_one"]
theorem scUp : FnScope nUp ["_law_some", "_law_names_here"] (defScope sUp) := ⟨rfl, rfl, rfl, by decide +kernel, rfl, by decide +kernel, by decide +kernel⟩
theorem ok_up (F : Fun K "_law_up" "_law_up" sUp f fd) (mt : mg "tuple" = none) : FnOk P w K mg base CX0 1 f fd ["_law_some", "_law_names_here"] (spUp K) := by
  refine F.ok scUp (fun vs H Q E h => ?_) (fun cdv A outer s H vs Q E hr h => ?_)
  · obtain ⟨A, B, b, ss, ns, rfl, _⟩ := h
    rfl
  · obtain ⟨A, B, b, ss, ns, rfl, hA, hA', hB, hB', hn, h8, k⟩ := h
    refine ⟨_, pss_cons (ps_set (i := 2) scUp.nd rfl (.inl rfl) (pe_lst pa_nil))
      (pss_cons (ps_for PassesOwn.never rfl (pi_list (pv 1)) (pg_name (i := 3) scUp.nd rfl (.inl rfl))
        (pss_one (ps_expr (pe_bm PySem.F.plainAttrs_list PySem.F.slot_list_extend PySem.F.type_list_extend mt_extend (pv 2) (pa_cons (pe_lc (own := [("_law_one", 4)]) (g := gName 4) rfl scUp.nd (pi_tup (pe_tup (pa_cons (pv 3) (pa_cons (pe_op op_add_str pe_str (pv 3)) pa_nil)))) (blkOk_by (N := nUp) (sc := defScope sUp) (by decide +kernel))
          (fun _ _ _ _ _ => pg_name (i := 4) scUp.nd rfl (.inl rfl)) (fun _ _ _ _ _ => pts_one (show PT _ _ (tTest (tOp (rIn K false) _ _)) from pt_cmpR op_in_seq (pv 4) (pv 0) rfl)) (fun _ _ _ _ _ => pv 4)) pa_nil)))))
      (pss_one (ps_ret (pe_tupleOf (by rfl) mt (pv 2))))), ?_⟩
    refine ⟨by show 0 ≤ sizeLine; exact Nat.zero_le _, fun p hp => ⟨_, rfl, B, rfl, ⟨_, hB' _ (same_new hp)⟩, for_list (K := K) (a := B) (xs := ns.map V.str) (fun i σ H2 => ∃ (o3 o4 : Option V), σ = [some (.ref A), some (.ref B), some (.ref p), o3, o4] ∧ Same H H2 ∧ H2 p = some (.lst ((asc (ns.take i) ss).map V.str)))
      ⟨_, _, rfl, same_new hp, upd_same⟩ (fun i σ H2 hi ⟨_, _, _, sm, _⟩ => hB' _ sm) ?_ ?_⟩⟩
    · rintro i x σ H2 hx ⟨o3, o4, rfl, sm, hp2⟩
      obtain ⟨n, hn', rfl⟩ : ∃ n, ns[i]? = some n ∧ x = .str n := by
        rw [List.getElem?_map] at hx
        cases e : ns[i]? with
        | none => rw [e] at hx; cases hx
        | some n => rw [e] at hx; exact ⟨n, rfl, (Option.some.inj hx).symm⟩
      have n8 := h8 n (List.mem_of_getElem? hn')
      have ilt : i < ns.length := (List.getElem?_eq_some_iff.mp hn').1
      refine ⟨_, rfl, .inl ⟨rfl, _, SqL.of hp2⟩, _, rfl, _, rfl, _, _, rfl, rfl, ?_, by show 2 ≤ sizeLine; decide, fun t ht => ⟨t, rfl, ⟨_, SqT.of upd_same⟩, fun D hD => lc_tup (K := K) (a := t) (xs := [.str n, .str (neg n)]) (fun j H3 => Same (upd H2 t (.tup [.str n, .str (neg n)])) H3 ∧ H3 D = some (.lst (([n, neg n].take j).filter (fun l => decide (l ∈ ss)) |>.map V.str)))
        ⟨same_new hD, upd_same⟩ (fun j H3 _ hh => SqT.of (hh.1 _ _ upd_same)) ?_ ?_⟩⟩
      · show 1 + n.length ≤ sizeLine
        rw [sizeLine_eq]; omega
      · rintro j y H3 hy ⟨sm3, hD3⟩
        obtain ⟨l, hl, rfl⟩ : ∃ l, [n, neg n][j]? = some l ∧ y = .str l := by
          match j, hy with
          | 0, hy => exact ⟨n, rfl, (Option.some.inj hy).symm⟩
          | 1, hy => exact ⟨neg n, rfl, (Option.some.inj hy).symm⟩
          | j + 2, hy => simp at hy
        have sm2 : Same H H3 := (sm.trans (same_new ht)).trans sm3
        have e : [n, neg n].take (j + 1) = [n, neg n].take j ++ [l] := by rw [List.take_succ, hl]; rfl
        refine ⟨rfl, _, rfl, _, rfl, A, _, rfl, (hA' _ sm2).any, rfl, flat_str ss, _, rfl, ?_⟩
        rw [if_neg (by decide), inV_str]
        by_cases q : l ∈ ss
        · rw [decide_eq_true q]
          refine iteT ⟨_, rfl, _, hD3, ?_, fun b o h => (upd_ne (ne_of_none h hD)).trans (sm3 b o h), ?_⟩
          · rw [List.length_map, sizeLine_eq]
            have l3 : (([n, neg n].take j).filter fun l => decide (l ∈ ss)).length ≤ ([n, neg n].take j).length := List.length_filter_le _ _
            have l4 := List.length_take_le' j [n, neg n]
            have l5 : [n, neg n].length = 2 := rfl
            omega
          · rw [upd_same, e, List.filter_append, List.map_append]
            simp [q]
        · rw [decide_eq_false q]
          refine iteF ⟨sm3, ?_⟩
          rw [hD3, e, List.filter_append, List.map_append]
          simp [q]
      · rintro H3 ⟨sm3, hD3⟩
        have sm2 : Same H H3 := (sm.trans (same_new ht)).trans sm3
        have np : p ≠ D := ne_of_none (show upd H2 t (.tup [.str n, .str (neg n)]) p = some _ from (upd_ne (ne_of_none hp2 ht)).trans hp2) hD
        refine ⟨p, D, _, _, rfl, rfl, sm3 _ _ ((upd_ne (ne_of_none hp2 ht)).trans hp2), hD3, ?_, _, _, rfl, fun b o e => (upd_ne (ne_of_none e hp)).trans (sm2 b o e), ?_⟩
        · rw [List.length_map, List.length_map, sizeLine_eq]
          have l1 := asc_len (ns.take i) ss
          have l2 := List.length_take_le i ns
          have l3 : ((([n, neg n].take 2).filter fun l => decide (l ∈ ss))).length ≤ 2 := List.length_filter_le _ _
          have l4 : (List.map V.str [n, neg n]).length = 2 := rfl
          show _ + ((([n, neg n].take 2).filter fun l => decide (l ∈ ss))).length ≤ _
          omega
        · rw [upd_same]
          have e : ns.take (i + 1) = ns.take i ++ [n] := by rw [List.take_succ, hn']; rfl
          unfold asc lits
          rw [e, List.flatMap_append, List.filter_append, List.map_append]
          simp
    · rintro σ H2 ⟨o3, o4, rfl, sm, hp2⟩
      refine ⟨_, rfl, .inl ⟨p, _, rfl, SqL.of hp2, fun q hq => ?_⟩⟩
      rw [List.length_map, List.take_length]
      exact k q _ (sm.free hq) upd_same (sm.trans (same_new hq))
end
end K6
namespace K6
open PySem PySem.Spec PyProof.Rows L2 LamX NdefX EV
/-- a literal: a name, or its other side -/
def lit (q : Bool × Str) : Str := if q.1 = true then neg q.2 else q.2
/-- literals of distinct names of these -/
structure Lits (ns : List Str) (qs : List (Bool × Str)) : Prop where
  nd : (qs.map Prod.snd).Nodup
  sub : ∀ q ∈ qs, q.2 ∈ ns
theorem Kept.add {S L p : Addr} {H H' : Hp} {o : HO} (k : Kept S L H H') (h : H' p = Option.none) (off : p ≠ S ∧ p ≠ L) : Kept S L H (upd H' p o) := k.new (k.none h off.1 off.2)
theorem empty_add (n : Str) : Str.ofString "" ++ n = n := by
  obtain ⟨c⟩ := n
  show Str.mk (#[] ++ c) = _
  rw [Array.empty_append]
theorem unmap_str : ∀ (ys : List V) (xs : List Str), ys.Perm (xs.map V.str) → ∃ ms : List Str, ys = ms.map V.str ∧ ms.Perm xs := by
  intro ys xs h
  let un : V → Str := fun v => match v with | .str z => z | _ => Str.ofString ""
  have all : ∀ y ∈ ys, V.str (un y) = y := fun y hy => by
    obtain ⟨z, _, rfl⟩ := List.mem_map.mp (h.mem_iff.mp hy)
    rfl
  refine ⟨ys.map un, ?_, ?_⟩
  · rw [List.map_map]
    exact ((List.map_congr_left (f := V.str ∘ un) (g := id) all).trans (List.map_id ys)).symm
  · have z := h.map un
    rw [List.map_map] at z
    have e : xs.map (un ∘ V.str) = xs := (List.map_congr_left (g := id) fun _ _ => rfl).trans (List.map_id xs)
    rwa [e] at z
theorem dp_strs {K : PySem.W.Frag} {H : Hp} : ∀ ns : List Str, DpAll K H (ns.map V.str) (ns.map PyData.str)
  | [] => .nil
  | n :: r => .cons (.str n) (dp_strs r)
/-- a text of code points that are few enough -/
def Fit (z : Str) : Prop := ∀ ch ∈ z.cps.toList, ch < 128
theorem Fit.ok {z : Str} (h : Fit z) : PyData.strOk z = true := by
  show z.cps.all (fun c => decide (c < 0x110000)) = true
  rw [← Array.all_toList]
  exact List.all_eq_true.mpr fun c hc => decide_eq_true (Nat.lt_trans (h c hc) (by decide))
theorem Name1.fit {z : Str} (h : Name1 z) : Fit z := fun ch hc => Nat.lt_of_le_of_lt (h.2.2 ch hc).2 (by decide)
theorem Fit.neg {z : Str} (h : Fit z) : Fit (neg z) := fun ch hc => by
  rw [neg_list] at hc
  rcases List.mem_cons.mp hc with rfl | q
  · decide
  · exact h ch q
theorem Fit.lit {q : Bool × Str} (h : Fit q.2) : Fit (lit q) := by
  unfold K6.lit
  split
  · exact h.neg
  · exact h
theorem lay_strs : ∀ ns : List Str, (∀ z ∈ ns, Fit z) → PyData.canLayAll0 (ns.map PyData.str) = true ∧ PyData.depthAll (ns.map PyData.str) ≤ 2
  | [], _ => ⟨rfl, Nat.zero_le _⟩
  | n :: r, f => by
    obtain ⟨h1, h2⟩ := lay_strs r fun z h => f z (List.mem_cons_of_mem _ h)
    have h0 := (f n List.mem_cons_self).ok
    refine ⟨?_, ?_⟩
    · simp only [List.map_cons, PyData.canLayAll0, PyData.canLay0, h1, h0, Bool.and_self]
    · simp only [List.map_cons, PyData.depthAll, PyData.depth]
      omega
theorem shaped_strs (ns : List Str) (f : ∀ z ∈ ns, Fit z) : SeqAt.shaped (.list (ns.map PyData.str)) = true := by
  obtain ⟨h1, h2⟩ := lay_strs ns f
  refine Bool.and_eq_true_iff.mpr ⟨?_, decide_eq_true ?_⟩
  · simp only [PyData.canLay0, h1]
  · simp only [PyData.depth]
    omega
theorem eqv_nilS : ∀ ns : List Str, PyData.eqv (.list (ns.map PyData.str)) (.list []) = decide (ns = [])
  | [] => rfl
  | n :: r => by simp [PyData.eqv, PyData.eqvAll]
theorem cutV_take (xs : List V) (k : Nat) : cutV xs none (some (k : Int)) = xs.take k := by
  unfold cutV
  rw [HT.sIx_none, HT.sIx_nat, List.drop_zero, Nat.sub_zero]
  by_cases h : k ≤ xs.length
  · rw [Nat.min_eq_left h]
  · rw [Nat.min_eq_right (by omega), List.take_of_length_le (Nat.le_refl _), List.take_of_length_le (by omega)]
theorem cutV_drop (xs : List V) (k : Nat) : cutV xs (some (k : Int)) none = xs.drop k := by
  unfold cutV
  rw [HT.sIx_none, HT.sIx_nat]
  by_cases h : k ≤ xs.length
  · rw [Nat.min_eq_left h, List.take_of_length_le (by rw [List.length_drop]; exact Nat.le_refl _)]
  · rw [Nat.min_eq_right (by omega), Nat.sub_self, List.take_zero, List.drop_eq_nil_of_le (by omega)]
section
variable {P : Program} {w : World} {K : PySem.W.Frag} {mg : Str → Option Value} {base : Heap} {f fD fM fS : Addr} {fd fdD fdM fdS : FuncData}
end
end K6
namespace K6
open PySem PySem.Spec PyProof.Rows L2 LamX NdefX EV
theorem hu65 {A : Around} {k : Nat} (hr : Room k A) : A.units + 65 < cLine := by
  have := hr.un
  omega
/-! ### rows: tuples of texts that stand in the heap -/
def TupAt (H : Hp) (t : Addr) (r : List Str) : Prop := H t = some (.tup (r.map V.str))
abbrev RowsAt (H : Hp) : List Addr → List (List Str) → Prop := Paired (TupAt H)
theorem RowsAt.same {H H' : Hp} (sm : Same H H') {ts : List Addr} {rs : List (List Str)} (h : RowsAt H ts rs) : RowsAt H' ts rs := by
  induction h with
  | nil => exact .nil
  | cons a _ ih => exact .cons (sm _ _ a) ih
theorem RowsAt.get {H : Hp} : ∀ {ts : List Addr} {rs : List (List Str)}, RowsAt H ts rs → ∀ (i : Nat) (t : Addr), ts[i]? = some t → ∃ r, rs[i]? = some r ∧ TupAt H t r
  | _, _, .nil, i, t, h => by simp at h
  | _, _, .cons a _, 0, t, h => ⟨_, rfl, by simp at h; exact h ▸ a⟩
  | _, _, .cons _ q, i + 1, t, h => by simpa using RowsAt.get q i t (by simpa using h)
theorem RowsAt.put {H : Hp} {p : Addr} {xs : List V} {o : HO} (hp : H p = some (.lst xs)) {ts : List Addr} {rs : List (List Str)} (h : RowsAt H ts rs) : RowsAt (upd H p o) ts rs := by
  induction h with
  | nil => exact .nil
  | cons a _ ih => exact .cons ((upd_ne (ne_of a hp fun z => nomatch z)).trans a) ih
theorem RowsAt.lift {K : PySem.W.Frag} {H : Hp} : ∀ {ts : List Addr} {rs : List (List Str)}, RowsAt H ts rs → DpAll K H (ts.map V.ref) (rs.map fun r => PyData.tuple (r.map PyData.str))
  | _, _, .nil => .nil
  | _, _, .cons a q => .cons (.tup (SqT.of a) (dp_strs _)) (RowsAt.lift q)
theorem lay_rows : ∀ rs : List (List Str), (∀ r ∈ rs, ∀ z ∈ r, Fit z) → PyData.canLayAll0 (rs.map fun r => PyData.tuple (r.map PyData.str)) = true ∧ PyData.depthAll (rs.map fun r => PyData.tuple (r.map PyData.str)) ≤ 5
  | [], _ => ⟨rfl, Nat.zero_le _⟩
  | r :: rs, f => by
    obtain ⟨h1, h2⟩ := lay_rows rs fun r h => f r (List.mem_cons_of_mem _ h)
    obtain ⟨h3, h4⟩ := lay_strs r (f r List.mem_cons_self)
    refine ⟨?_, ?_⟩
    · simp only [List.map_cons, PyData.canLayAll0, PyData.canLay0, h1, h3, Bool.and_self]
    · simp only [List.map_cons, PyData.depthAll, PyData.depth]
      omega
theorem shaped_row (r : List Str) (f : ∀ z ∈ r, Fit z) : SeqAt.shaped (.tuple (r.map PyData.str)) = true := by
  obtain ⟨h1, h2⟩ := lay_strs r f
  refine Bool.and_eq_true_iff.mpr ⟨?_, decide_eq_true ?_⟩
  · simp only [PyData.canLay0, h1]
  · simp only [PyData.depth]
    omega
theorem shaped_rows (rs : List (List Str)) (f : ∀ r ∈ rs, ∀ z ∈ r, Fit z) : SeqAt.shaped (.list (rs.map fun r => PyData.tuple (r.map PyData.str))) = true := by
  obtain ⟨h1, h2⟩ := lay_rows rs f
  refine Bool.and_eq_true_iff.mpr ⟨?_, decide_eq_true ?_⟩
  · simp only [PyData.canLay0, h1]
  · simp only [PyData.depth]
    omega
theorem eqvAll_strs : ∀ a b : List Str, PyData.eqvAll (a.map PyData.str) (b.map PyData.str) = decide (a = b)
  | [], [] => rfl
  | [], _ :: _ => by simp [PyData.eqvAll]
  | _ :: _, [] => by simp [PyData.eqvAll]
  | x :: a, y :: b => by
    have h := eqvAll_strs a b
    simp only [List.map_cons, PyData.eqvAll, PyData.eqv, h]
    by_cases e : x = y
    · subst e; simp
    · simp [e]
theorem eqv_row (a b : List Str) : PyData.eqv (.tuple (a.map PyData.str)) (.tuple (b.map PyData.str)) = decide (a = b) := by
  rw [PyData.eqv]
  exact eqvAll_strs a b
theorem any_rows (r : List Str) : ∀ rs : List (List Str), ((rs.map fun r => PyData.tuple (r.map PyData.str)).any fun z => PyData.eqv z (.tuple (r.map PyData.str))) = decide (r ∈ rs)
  | [] => by simp
  | x :: rs => by
    rw [List.map_cons, List.any_cons, any_rows r rs, eqv_row]
    by_cases e : x = r
    · subst e; simp
    · have e2 : r ≠ x := fun q => e q.symm
      simp [e, e2]
theorem lits_fit {ns : List Str} (f : ∀ z ∈ ns, Fit z) : ∀ l ∈ lits ns, Fit l := fun l h => by
  obtain ⟨n, hn, hl⟩ := List.mem_flatMap.mp h
  rcases List.mem_cons.mp hl with rfl | hl
  · exact f _ hn
  · exact List.mem_singleton.mp hl ▸ (f n hn).neg
theorem asc_fit {ns ls : List Str} (f : ∀ z ∈ ns, Fit z) : ∀ l ∈ asc ns ls, Fit l := fun l h => lits_fit f l ((List.mem_filter.mp h).1)
section
variable {P : Program} {w : World} {K : PySem.W.Frag} {mg : Str → Option Value} {base : Heap} {f fU : Addr} {fd fdU : FuncData}
theorem get_map {α β : Type} {g : α → β} {xs : List α} {i : Nat} {y : β} (h : (xs.map g)[i]? = some y) : ∃ x, xs[i]? = some x ∧ y = g x := by
  rw [List.getElem?_map] at h
  cases e : xs[i]? with
  | none => rw [e] at h; cases h
  | some x => rw [e] at h; exact ⟨x, rfl, (Option.some.inj h).symm⟩
theorem paired_get {α β : Type} {R : α → β → Prop} : ∀ {xs : List α} {ys : List β}, Paired R xs ys → ∀ (i : Nat) (x : α), xs[i]? = some x → ∃ y, ys[i]? = some y ∧ R x y
  | _, _, .nil, i, x, h => by simp at h
  | _, _, .cons a _, 0, x, h => ⟨_, rfl, by simp at h; exact h ▸ a⟩
  | _, _, .cons _ q, i + 1, x, h => by simpa using paired_get q i x (by simpa using h)
end
end K6
namespace K6
open PySem PySem.Spec PyProof.Rows L2 LamX NdefX EV
/-- a row of a code: the ascending literals of a clause over these names -/
def RowOf (ns r : List Str) : Prop := ∃ qs, Lits ns qs ∧ r = asc ns (qs.map lit)
section
variable {P : Program} {w : World} {K : PySem.W.Frag} {mg : Str → Option Value} {base : Heap} {f fD fN fC fO : Addr} {fd fdD fdN fdC fdO : FuncData}
end
end K6
namespace K6
open PySem PySem.Spec PyProof.Rows L2 LamX NdefX EV
/-! ### the program: names and literals -/
theorem in_letters {ch : Nat} (h : 97 ≤ ch ∧ ch ≤ 122) : ch ∈ letters.cps.toList := by
  have z := letter_at (ch - 97) (by omega)
  have e : 97 + (ch - 97) = ch := by omega
  rw [e] at z
  exact List.mem_of_getElem? z
def spIsName : Sp := fun vs H Q _ => ∃ z : Str, vs = [.str z] ∧ Name1 z ∧ ∀ H', Same H H' → Q (.bl true) H'
section
variable {P : Program} {w : World} {K : PySem.W.Frag} {mg : Str → Option Value} {base : Heap} {f fI : Addr} {fd fdI : FuncData}
abbrev nIsName : List Str := ["thing", "letter"]
theorem scIsName : FnScope nIsName ["thing"] (defScope sIsName) := ⟨rfl, rfl, rfl, by decide +kernel, rfl, by decide +kernel, by decide +kernel⟩
theorem ok_isName (F : Fun K "is_name" "is_name" sIsName f fd) (mi : mg "isinstance" = none) (ms : mg "str" = none) (ml : mg "len" = none) (ma : mg "all" = none) (mL : ∃ t, mg "LETTERS" = some (.str letters t)) (mM : ∃ t, mg "MOST_LETTERS" = some (.int 8 t)) :
    FnOk P w K mg base CX0 1 f fd ["thing"] spIsName := by
  obtain ⟨tL, mL⟩ := mL
  obtain ⟨tM, mM⟩ := mM
  refine F.ok scIsName (fun vs H Q E h => ?_) (fun cdv A outer s H vs Q E hr h => ?_)
  · obtain ⟨z, rfl, _⟩ := h
    rfl
  · obtain ⟨z, rfl, good, k⟩ := h
    refine ⟨_, pss_cons (ps_if (PW.pt (pw_or (pt_not (pt_val (pe_callB call_isi (by rfl) mi (by decide +kernel) (pa_cons (pv 0) (pa_cons (pe_bltn (v := .ty "str") (by rfl) ms (by decide +kernel) rfl) pa_nil))))) (pw_or1 (pt_not (pt_chain op_le op_le pe_int (pe_callB call_len (by rfl) ml PySem.boot_len (pa_cons (pv 0) pa_nil)) (pe_glob (v := .int 8) (by rfl) mM ⟨_, rfl⟩))))))
        (pss_one (ps_ret pe_bl)) pss_nil)
      (pss_one (ps_ret (pe_callB (cr_all rfl) (by rfl) ma (by decide +kernel) (pa_cons (pe_lc (own := [("letter", 1)]) (g := gName 1) (tt := tYes) rfl scIsName.nd (pi_str (pv 0)) (blkOk_by (N := nIsName) (sc := defScope sIsName) (by decide +kernel))
          (fun _ _ _ _ _ => pg_name (i := 1) scIsName.nd rfl (.inl rfl)) (fun _ _ _ _ _ => pts_nil) (fun _ _ _ _ _ => pe_cmpR op_in_sign (pv 1) (pe_glob (v := .str letters) (by rfl) mL ⟨_, rfl⟩) rfl)) pa_nil)))), ?_⟩
    have g1 := good.1
    have g2 := good.2.1
    have lz : z.length ≤ sizeLine := by rw [sizeLine_eq]; omega
    refine ⟨_, rfl, _, _, _, _, true, rfl, .ty "str", .base (.str z), kit_ty (by decide +kernel), _, rfl, ?_⟩
    refine iteF ⟨_, rfl, _, z.length, rfl, ⟨lz, rfl⟩, ?_⟩
    refine ⟨_, _, rfl, rfl, _, rfl, ?_⟩
    have d1 : decide ((1 : Int) ≤ ((z.length : Nat) : Int)) = true := decide_eq_true (by omega)
    have d2 : decide (((z.length : Nat) : Int) ≤ 8) = true := decide_eq_true (by omega)
    rw [d1]
    refine iteT ⟨_, _, rfl, rfl, _, rfl, ?_⟩
    rw [d2]
    refine iteF ⟨_, rfl, z, rfl, fun D hD => lc_it walk_str (fun i H2 => Same H H2 ∧ H2 D = some (.lst ((List.replicate i true).map V.bl))) ⟨same_new hD, upd_same⟩ (fun _ _ _ _ => trivial) ?_ ?_⟩
    · rintro i x H2 H3 hi ⟨sm, hD2⟩ ⟨rfl, ch, hch, rfl⟩
      have mem : ch ∈ z.cps.toList := List.mem_of_getElem? (by rw [Array.getElem?_toList]; exact hch)
      have zl : z.cps.size = z.length := rfl
      refine ⟨rfl, _, rfl, ch, letters, rfl, rfl, _, hD2, by rw [List.length_map, List.length_replicate, sizeLine_eq]; omega, fun b o e => (upd_ne (ne_of_none e hD)).trans (sm b o e), ?_⟩
      rw [upd_same, decide_eq_true (in_letters (good.2.2 ch mem)), List.replicate_succ', List.map_append]
      rfl
    · rintro H2 ⟨sm, hD2⟩
      refine ⟨D, _, rfl, SqL.of hD2, ?_⟩
      have e : (List.replicate z.cps.size true).all id = true := List.all_eq_true.mpr fun x hx => (List.mem_replicate.mp hx).2
      rw [e]
      exact k H2 sm
end
end K6
namespace K6
open PySem PySem.Spec PyProof.Rows L2 LamX NdefX EV
/-- a comprehension of two fors over any walks: the outer one, and the inner one within a turn of it -/
theorem lc2_it {J : It} {n : Nat} {G : Hp → Prop} {Y : Nat → Hp → V → Hp → Prop} (w : Walk J n G Y) {D : Addr} {H1 : Hp} {Qd : Hp → Prop} {T : (Hp → Prop) → V → Hp → Prop} (Pv : Nat → Hp → Prop) (start : Pv 0 (upd H1 D (.lst []))) (stay : ∀ i H, i ≤ n → Pv i H → G H)
    (turn : ∀ i x H H', i < n → Pv i H → Y i H x H' → T (Pv (i + 1)) x H') (fin : ∀ H, Pv n H → Qd H) :
    ∃ W : Nat → Nat → Hp → Prop, (∃ m, W 0 m (upd H1 D (.lst []))) ∧ ∀ i m H, W i m H → (J.stop i H ∧ Qd H) ∨ (J.go i H ∧ ∃ Nx : Hp → Prop, (∀ H', Nx H' → ∃ m', m' < m ∧ W (i + 1) m' H') ∧ ∀ x H', J.yld i H x H' → T Nx x H') := by
  refine ⟨fun i m H => i + m = n ∧ Pv i H, ⟨n, Nat.zero_add n, start⟩, fun i m H st => ?_⟩
  obtain ⟨sum, pv⟩ := st
  have g := stay i H (by omega) pv
  match m, sum with
  | 0, sum =>
    obtain rfl : i = n := sum
    exact .inl ⟨w.stops H g, fin H pv⟩
  | m + 1, sum => exact .inr ⟨w.goes i H (by omega) g, Pv (i + 1), fun H3 p3 => ⟨m, Nat.lt_succ_self m, by omega, p3⟩, fun x H3 y => turn i x H H3 (by omega) pv (w.yields i H x H3 (by omega) g y)⟩
theorem in_it {J : It} {n : Nat} {G : Hp → Prop} {Y : Nat → Hp → V → Hp → Prop} (w : Walk J n G Y) {H1 : Hp} {Nx : Hp → Prop} {T : (Hp → Prop) → V → Hp → Prop} (Pv : Nat → Hp → Prop) (start : Pv 0 H1) (stay : ∀ i H, i ≤ n → Pv i H → G H)
    (turn : ∀ i x H H', i < n → Pv i H → Y i H x H' → T (Pv (i + 1)) x H') (fin : ∀ H, Pv n H → Nx H) :
    ∃ W : Nat → Nat → Hp → Prop, (∃ m, W 0 m H1) ∧ ∀ i m H, W i m H → (J.stop i H ∧ Nx H) ∨ (J.go i H ∧ ∃ Nx1 : Hp → Prop, (∀ H', Nx1 H' → ∃ m', m' < m ∧ W (i + 1) m' H') ∧ ∀ x H', J.yld i H x H' → T Nx1 x H') := by
  refine ⟨fun i m H => i + m = n ∧ Pv i H, ⟨n, Nat.zero_add n, start⟩, fun i m H st => ?_⟩
  obtain ⟨sum, pv⟩ := st
  have g := stay i H (by omega) pv
  match m, sum with
  | 0, sum =>
    obtain rfl : i = n := sum
    exact .inl ⟨w.stops H g, fin H pv⟩
  | m + 1, sum => exact .inr ⟨w.goes i H (by omega) g, Pv (i + 1), fun H3 p3 => ⟨m, Nat.lt_succ_self m, by omega, p3⟩, fun x H3 y => turn i x H H3 (by omega) pv (w.yields i H x H3 (by omega) g y)⟩
/-! ### a literal's name -/
theorem starts_iff (x y : Str) : Txt.startswith x y = true ↔ StrLaws.At x y x.length 0 := by
  unfold Txt.startswith StrLaws.At
  simp
theorem starts_neg (n : Str) : Txt.startswith (neg n) (Str.ofString "-") = true := by
  refine (starts_iff _ _).mpr ((TL.at_iff (y := Str.ofString "-") (fun h => nomatch h) 0).mpr ?_)
  show TL.pre [45] ((neg n).cps.toList.drop 0) = true
  rw [neg_list]
  rfl
theorem starts_name {n : Str} (h : Name1 n) : Txt.startswith n (Str.ofString "-") = false := by
  cases e : Txt.startswith n (Str.ofString "-") with
  | false => rfl
  | true =>
    have z := (TL.at_iff (y := Str.ofString "-") (fun h => nomatch h) 0).mp ((starts_iff _ _).mp e)
    replace z : TL.pre [45] (n.cps.toList.drop 0) = true := z
    rw [List.drop_zero] at z
    cases q : n.cps.toList with
    | nil => rw [q] at z; cases z
    | cons c r =>
      rw [q] at z
      have hc := h.2.2 c (by rw [q]; exact List.mem_cons_self)
      have e45 : c = 45 := by simpa [TL.pre] using z
      omega
theorem cut_neg (n : Str) : cutS (neg n) (some 1) none = n := by
  obtain ⟨cs⟩ := n
  unfold cutS
  rw [HT.sIx_none, show HT.sIx (neg ⟨cs⟩).length 0 (some 1) = min 1 (neg ⟨cs⟩).length from HT.sIx_nat _ _ 1, neg_list, neg_len, Nat.min_eq_left (by omega)]
  show Str.mk ((cs.toList.take _).toArray) = _
  rw [List.take_of_length_le (by rw [Array.length_toList]; exact Nat.le_of_eq rfl), Array.toArray_toList]
def spNameOf : Sp := fun vs H Q _ => ∃ q : Bool × Str, vs = [.str (lit q)] ∧ Name1 q.2 ∧ Q (.str q.2) H
def spLits (K : PySem.W.Frag) : Sp := fun vs H Q _ => ∃ (T : Addr) (b : Bool) (ns : List Str), vs = [.ref T] ∧ Sq K b H T (ns.map V.str) ∧ (∀ H', Same H H' → Sq K b H' T (ns.map V.str)) ∧ ns.length ≤ 60 ∧ (∀ z ∈ ns, z.length ≤ 8) ∧
  ∀ (p : Addr) (H' : Hp), H p = none → H' p = some (.lst ((lits ns).map V.str)) → Same H H' → Q (.ref p) H'
section
variable {P : Program} {w : World} {K : PySem.W.Frag} {mg : Str → Option Value} {base : Heap} {f fI : Addr} {fd fdI : FuncData}
theorem scNameOf : FnScope ["literal"] ["literal"] (defScope sNameOf) := ⟨rfl, rfl, rfl, by decide +kernel, rfl, by decide +kernel, by decide +kernel⟩
theorem ok_nameOf (F : Fun K "name_of" "name_of" sNameOf f fd) : FnOk P w K mg base CX0 1 f fd ["literal"] spNameOf := by
  refine F.ok scNameOf (fun vs H Q E h => ?_) (fun cdv A outer s H vs Q E hr h => ?_)
  · obtain ⟨q, rfl, _⟩ := h
    rfl
  · obtain ⟨⟨b, n⟩, rfl, good, k⟩ := h
    have n8 := good.2.1
    replace n8 : n.length ≤ 8 := n8
    refine ⟨_, pss_cons (ps_if (pt_val (pe_m1 PySem.F.slot_str_startswith PySem.F.type_str_startswith mt_startswith (pv 0) pe_str)) (pss_one (ps_ret (pe_slice sl_str (pv 0) (po_some pe_int) po_none))) pss_nil) (pss_one (ps_ret (pv 0))), ?_⟩
    refine ⟨_, rfl, ⟨_, rfl⟩, _, _, rfl, rfl, _, rfl, ?_⟩
    cases b
    · rw [show Txt.startswith (lit (false, n)) (Str.ofString "-") = false from starts_name good]
      exact iteF ⟨_, rfl, k⟩
    · rw [show Txt.startswith (lit (true, n)) (Str.ofString "-") = true from starts_neg n]
      refine iteT ⟨_, rfl, _, rfl, lit (true, n), rfl, ?_, ?_⟩
      · show (neg n).length ≤ sizeLine
        rw [neg_len, sizeLine_eq]
        omega
      · rw [show cutS (lit (true, n)) (some 1) none = n from cut_neg n]
        exact k
abbrev nLits : List Str := ["names", "name", "literal"]
theorem scLits : FnScope nLits ["names"] (defScope sLits) := ⟨rfl, rfl, rfl, by decide +kernel, rfl, by decide +kernel, by decide +kernel⟩
theorem ok_lits (F : Fun K "literals_of" "literals_of" sLits f fd) : FnOk P w K mg base CX0 1 f fd ["names"] (spLits K) := by
  refine F.ok scLits (fun vs H Q E h => ?_) (fun cdv A outer s H vs Q E hr h => ?_)
  · obtain ⟨T, b, ns, rfl, _⟩ := h
    rfl
  · obtain ⟨T, b, ns, rfl, hT, hT', hn, h8, k⟩ := h
    refine ⟨_, pss_one (ps_ret (pe_lc2 (own := [("name", 1), ("literal", 2)]) (vs1 := [2]) (g := gName 1) (tt := tYes) (g1 := gName 2) (tt1 := tYes) rfl scLits.nd (pi_seq (pv 0)) (blkOk_by (N := nLits) (sc := defScope sLits) (by decide +kernel)) (by decide)
          (fun _ _ _ _ _ => pg_name (i := 1) scLits.nd rfl (.inl rfl)) (fun _ _ _ _ _ => pts_nil) (fun _ _ _ _ _ => show PI _ _ _ (iTup K _) from pi_tup (pe_tup (pa_cons (pv 1) (pa_cons (pe_op op_add_str pe_str (pv 1)) pa_nil)))) (fun _ _ _ _ _ => pg_name (i := 2) scLits.nd rfl (.inl rfl)) (fun _ _ _ _ _ => pts_nil) (fun _ _ _ _ _ => pv 2))), ?_⟩
    refine ⟨_, rfl, b, T, _, rfl, hT, fun D hD => lc2_it walk_sq (fun i H2 => Same H H2 ∧ H2 D = some (.lst ((lits (ns.take i)).map V.str))) ⟨same_new hD, upd_same⟩ (fun i H2 _ hh => hT' _ hh.1) ?_ ?_⟩
    · rintro i x H2 H3 hi ⟨sm, hD2⟩ ⟨rfl, hx⟩
      obtain ⟨n, hn', rfl⟩ := get_map hx
      have n8 := h8 n (List.mem_of_getElem? hn')
      have e : ns.take (i + 1) = ns.take i ++ [n] := by rw [List.take_succ, hn']; rfl
      have lt : (lits (ns.take i)).length ≤ 120 := by
        rw [lits_len]
        have := List.length_take_le i ns
        have := List.length_take_le' i ns
        omega
      refine ⟨rfl, _, rfl, _, rfl, _, _, rfl, rfl, by show 1 + n.length ≤ sizeLine; rw [sizeLine_eq]; omega, by show 2 ≤ sizeLine; decide, fun t ht => ⟨t, rfl, ⟨_, SqT.of upd_same⟩, in_it (walk_tup (xs := [V.str n, V.str (neg n)])) (fun j H4 => Same H H4 ∧ H4 t = some (.tup [.str n, .str (neg n)]) ∧ H4 D = some (.lst ((lits (ns.take i) ++ [n, neg n].take j).map V.str))) ?_ (fun j H4 _ hh => ?_) ?_ ?_⟩⟩
      · refine ⟨sm.trans (same_new ht), upd_same, ?_⟩
        rw [List.take_zero, List.append_nil]
        exact (upd_ne (ne_of_none hD2 ht)).trans hD2
      · exact SqT.of hh.2.1
      · rintro j y H4 H5 hj ⟨sm4, ht4, hD4⟩ ⟨rfl, hy⟩
        obtain ⟨l, hl, rfl⟩ := get_map (g := V.str) (xs := [n, neg n]) hy
        have e2 : [n, neg n].take (j + 1) = [n, neg n].take j ++ [l] := by rw [List.take_succ, hl]; rfl
        refine ⟨rfl, _, rfl, _, hD4, ?_, fun b o h => (upd_ne (ne_of_none h hD)).trans (sm4 b o h), (upd_ne (ne_of ht4 hD4 fun z => nomatch z)).trans ht4, ?_⟩
        · rw [List.length_map, List.length_append, sizeLine_eq]
          have := List.length_take_le' j [n, neg n]
          have l5 : [n, neg n].length = 2 := rfl
          omega
        · rw [upd_same, e2, ← List.append_assoc, List.map_append (l₁ := _ ++ _)]
          rfl
      · rintro H4 ⟨sm4, _, hD4⟩
        refine ⟨sm4, ?_⟩
        rw [hD4, e]
        unfold lits
        rw [List.flatMap_append]
        rfl
    · rintro H2 ⟨sm, hD2⟩
      rw [List.length_map, List.take_length] at hD2
      exact k D H2 hD hD2 sm
end
end K6
namespace K6
open PySem PySem.Spec PyProof.Rows L2 LamX NdefX EV
/-! ### places -/
theorem neg_inj {m n : Str} (h : neg m = neg n) : m = n := by
  have z := congrArg (fun s : Str => s.cps.toList) h
  replace z : (neg m).cps.toList = (neg n).cps.toList := z
  rw [neg_list, neg_list] at z
  injection z with _ z
  obtain ⟨a⟩ := m
  obtain ⟨b⟩ := n
  rw [show a = b from Array.toList_inj.mp z]
theorem name_neg {m n : Str} (h : Name1 m) (e : m = neg n) : False := by
  have z := h.2.2 45 (by rw [e, neg_list]; exact List.mem_cons_self)
  omega
theorem lits_nodup : ∀ ns : List Str, ns.Nodup → (∀ z ∈ ns, Name1 z) → (lits ns).Nodup
  | [], _, _ => List.nodup_nil
  | n :: r, nd, good => by
    have nd' := List.nodup_cons.mp nd
    have gn := good n List.mem_cons_self
    have gr : ∀ z ∈ r, Name1 z := fun z h => good z (List.mem_cons_of_mem _ h)
    have ih := lits_nodup r nd'.2 gr
    have h1 : n ∉ lits r := fun h => by
      obtain ⟨m, hm, hl⟩ := List.mem_flatMap.mp h
      rcases List.mem_cons.mp hl with q | q
      · exact nd'.1 (q ▸ hm)
      · exact name_neg gn (List.mem_singleton.mp q)
    have h2 : neg n ∉ lits r := fun h => by
      obtain ⟨m, hm, hl⟩ := List.mem_flatMap.mp h
      rcases List.mem_cons.mp hl with q | q
      · exact name_neg (gr m hm) q.symm
      · exact nd'.1 (neg_inj (List.mem_singleton.mp q) ▸ hm)
    show (n :: neg n :: lits r).Nodup
    refine List.nodup_cons.mpr ⟨fun h => ?_, List.nodup_cons.mpr ⟨h2, ih⟩⟩
    rcases List.mem_cons.mp h with q | q
    · exact name_neg gn q
    · exact h1 q
/-- each text with its place, from k on -/
def plcF : Nat → List Str → List (Key × V)
  | _, [] => []
  | k, l :: r => (Sum.inr l, .int (k : Int)) :: plcF (k + 1) r
theorem plcF_snoc (l : Str) : ∀ (xs : List Str) (k : Nat), plcF k (xs ++ [l]) = plcF k xs ++ [(Sum.inr l, .int ((k + xs.length : Nat) : Int))]
  | [], k => rfl
  | x :: r, k => by
    show (Sum.inr x, V.int k) :: plcF (k + 1) (r ++ [l]) = _
    rw [plcF_snoc l r (k + 1), show k + 1 + r.length = k + (x :: r).length by rw [List.length_cons]; omega]
    rfl
theorem plcF_len : ∀ (xs : List Str) (k : Nat), (plcF k xs).length = xs.length
  | [], _ => rfl
  | x :: r, k => congrArg (· + 1) (plcF_len r (k + 1))
theorem plcF_at {l : Str} : ∀ (xs : List Str) (k i : Nat), xs.Nodup → xs[i]? = some l → valV (plcF k xs) (Sum.inr l) = some (.int ((k + i : Nat) : Int))
  | [], _, i, _, h => by simp at h
  | x :: r, k, 0, _, h => by
    obtain rfl : x = l := by simpa using h
    exact valV_pos rfl
  | x :: r, k, i + 1, nd, h => by
    have nd' := List.nodup_cons.mp nd
    have h' : r[i]? = some l := by simpa using h
    have ne : ¬ (Sum.inr x : Key) = Sum.inr l := fun e => by
      injection e with e
      exact nd'.1 (e ▸ List.mem_of_getElem? h')
    show valV ((Sum.inr x, V.int k) :: plcF (k + 1) r) _ = _
    rw [valV_neg ne, plcF_at r (k + 1) i nd'.2 h', show k + 1 + i = k + (i + 1) by omega]
theorem plcF_none {l : Str} : ∀ (xs : List Str) (k : Nat), l ∉ xs → valV (plcF k xs) (Sum.inr l) = none
  | [], _, _ => rfl
  | x :: r, k, h => by
    have ne : ¬ (Sum.inr x : Key) = Sum.inr l := fun e => by
      injection e with e
      exact h (e ▸ List.mem_cons_self)
    show valV ((Sum.inr x, V.int k) :: plcF (k + 1) r) _ = _
    rw [valV_neg ne]
    exact plcF_none r (k + 1) fun q => h (List.mem_cons_of_mem _ q)
theorem putK_new {κ : Type} [DecidableEq κ] {kvs : List (κ × V)} {k : κ} {v : V} (h : valV kvs k = none) : putK kvs k v = kvs ++ [(k, v)] := by
  unfold putK
  rw [valV_any, h]
  rfl
abbrev plc (ns : List Str) : List (Key × V) := plcF 0 (lits ns)
def spPlaces (K : PySem.W.Frag) : Sp := fun vs H Q _ => ∃ (T : Addr) (b : Bool) (ns : List Str), vs = [.ref T] ∧ Sq K b H T (ns.map V.str) ∧ (∀ H', Same H H' → Sq K b H' T (ns.map V.str)) ∧ ns.length ≤ 60 ∧ ns.Nodup ∧ (∀ z ∈ ns, Name1 z) ∧
  ∀ (p : Addr) (H' : Hp), H p = none → H' p = some (.dK (plc ns)) → Same H H' → Q (.ref p) H'
section
variable {P : Program} {w : World} {K : PySem.W.Frag} {mg : Str → Option Value} {base : Heap} {f fL : Addr} {fd fdL : FuncData}
abbrev nPlaces : List Str := ["names", "place", "literal"]
theorem scPlaces : FnScope nPlaces ["names"] (defScope sPlaces) := ⟨rfl, rfl, rfl, by decide +kernel, rfl, by decide +kernel, by decide +kernel⟩
theorem ok_places (F : Fun K "places_of" "places_of" sPlaces f fd) (GL : FnOk P w K mg base CX0 1 fL fdL ["names"] (spLits K)) (mL : mg "literals_of" = some (.ref fL)) (kL : PySem.W.keepIn K (.ref fL) = true) (bL : L2.Binds K fdL ["names"] []) (me : mg "enumerate" = none) :
    FnOk P w K mg base CX0 2 f fd ["names"] (spPlaces K) := by
  refine F.ok scPlaces (fun vs H Q E h => ?_) (fun cdv A outer s H vs Q E hr h => ?_)
  · obtain ⟨T, b, ns, rfl, _⟩ := h
    rfl
  · obtain ⟨T, b, ns, rfl, hT, hT', hn, nd, good, k⟩ := h
    have hu := hu_of hr
    refine ⟨_, pss_one (ps_ret (pe_dcP (own := [("place", 1), ("literal", 2)]) .k rfl hu scPlaces.nd (pi_enumB (by rfl) me (pa_cons (pe_call GL hr (by rfl) mL kL bL .nil pass0 (pa_cons (pv 0) pa_nil)) pa_nil)) (blkOk_by (N := nPlaces) (sc := defScope sPlaces) (by decide +kernel))
          (fun _ _ _ _ _ => show PG _ _ (gTup K 2 _) from pg_tup rfl (pgs_cons (pg_name (i := 1) scPlaces.nd rfl (.inl rfl)) (pgs_cons (pg_name (i := 2) scPlaces.nd rfl (.inl rfl)) pgs_nil))) (fun _ _ _ _ _ => pts_nil) (fun _ _ _ _ _ => pv 2) (fun _ _ _ _ _ => pv 1))), ?_⟩
    refine ⟨_, rfl, T, b, ns, rfl, hT, hT', hn, (fun z hz => (good z hz).2.1), fun p H1 hp hp1 sm1 => ⟨true, p, _, rfl, Sq.lst hp1, fun D hD => dc_it walk_enumB (fun i H2 => Same H1 H2 ∧ H2 D = some (.dK (plcF 0 ((lits ns).take i)))) ⟨same_new hD, upd_same⟩ (fun i H2 _ hh => Sq.lst (hh.1 _ _ hp1)) ?_ ?_⟩⟩
    · rintro i x H2 H3 hi ⟨sm, hD2⟩ ⟨t, v1, v2, rfl, ht, rfl, hv1, hv2⟩
      obtain ⟨l, hl, rfl⟩ := get_map hv2
      obtain rfl := Option.some.inj hv1
      have ilt : i < (lits ns).length := (List.getElem?_eq_some_iff.mp hl).1
      have l120 := lits_len ns
      have fresh : l ∉ (lits ns).take i := fun h => by
        obtain ⟨j, hj, hj2⟩ := List.getElem_of_mem h
        have jlt : j < i := by rw [List.length_take] at hj; omega
        have z : (lits ns)[j]? = some l := by
          rw [List.getElem_take] at hj2
          rw [← hj2]
          exact List.getElem?_eq_getElem _
        exact absurd ((List.getElem?_inj (by omega) (lits_nodup ns nd good)).mp (z.trans hl.symm)) (by omega)
      have hD3 := (upd_ne (o := .tup [.int (i : Nat), .str l]) (ne_of_none hD2 ht)).trans hD2
      refine ⟨t, _, rfl, SqT.of upd_same, rfl, _, _, rfl, _, _, rfl, rfl, rfl, _, rfl, _, rfl, _, DPut.k (k := Sum.inr l) hD3 (by rw [plcF_len, List.length_take, sizeLine_eq]; omega), fun b o h => (upd_ne (ne_of_none h hD)).trans ((same_new ht) _ _ (sm b o h)), ?_⟩
      rw [upd_same, putK_new (plcF_none _ 0 fresh), List.take_succ, hl]
      show _ = some (HO.dK (plcF 0 ((lits ns).take i ++ [l])))
      rw [plcF_snoc, List.length_take, Nat.min_eq_left (Nat.le_of_lt ilt), Nat.zero_add]
    · rintro H2 ⟨sm, hD2⟩
      rw [List.length_map, List.take_length] at hD2
      exact k D H2 (sm1.free hD) hD2 (sm1.trans sm)
end
end K6
namespace K6
open PySem PySem.Spec PyProof.Rows L2 LamX NdefX EV
/-! ### rising lists -/
theorem rise_eq : ∀ (a b : List Int), a.Pairwise (· < ·) → b.Pairwise (· < ·) → (∀ x, x ∈ a ↔ x ∈ b) → a = b
  | [], [], _, _, _ => rfl
  | [], y :: b, _, _, h => absurd ((h y).mpr List.mem_cons_self) (fun z => nomatch z)
  | x :: a, [], _, _, h => absurd ((h x).mp List.mem_cons_self) (fun z => nomatch z)
  | x :: a, y :: b, pa, pb, h => by
    have pa' := List.pairwise_cons.mp pa
    have pb' := List.pairwise_cons.mp pb
    have exy : x = y := by
      rcases List.mem_cons.mp ((h x).mp List.mem_cons_self) with q | q
      · exact q
      · rcases List.mem_cons.mp ((h y).mpr List.mem_cons_self) with q' | q'
        · exact q'.symm
        · have z1 := pb'.1 x q
          have z2 := pa'.1 y q'
          omega
    subst exy
    rw [rise_eq a b pa'.2 pb'.2 fun z => ?_]
    constructor
    · intro hz
      rcases List.mem_cons.mp ((h z).mp (List.mem_cons_of_mem _ hz)) with q | q
      · have := pa'.1 z hz
        omega
      · exact q
    · intro hz
      rcases List.mem_cons.mp ((h z).mpr (List.mem_cons_of_mem _ hz)) with q | q
      · have := pb'.1 z hz
        omega
      · exact q
theorem rise_strict : ∀ {a : List Int}, a.Pairwise (· ≤ ·) → a.Nodup → a.Pairwise (· < ·)
  | [], _, _ => .nil
  | x :: r, h, nd => by
    have h' := List.pairwise_cons.mp h
    have nd' := List.nodup_cons.mp nd
    exact List.pairwise_cons.mpr ⟨fun y hy => by
      have z := h'.1 y hy
      have ne : x ≠ y := fun e => nd'.1 (e ▸ hy)
      omega, rise_strict h'.2 nd'.2⟩
def txt (xs : List Str) (j : Nat) : Str := xs.getD j (Str.ofString "")
theorem txt_at {xs : List Str} {j : Nat} {l : Str} (h : xs[j]? = some l) : txt xs j = l := by
  unfold txt
  rw [List.getD_eq_getElem?_getD, h]
  rfl
theorem map_txt (xs : List Str) : (List.range xs.length).map (txt xs) = xs := by
  refine List.ext_getElem (by rw [List.length_map, List.length_range]) fun i h1 h2 => ?_
  rw [List.getElem_map, List.getElem_range]
  exact txt_at (List.getElem?_eq_getElem h2)
/-- the places of what is wanted, rising: their texts are the wanted ones of all, in order -/
theorem rise_filter {xs ls : List Str} {js : List Int} {is : List Nat} (hp : js.Perm (is.map fun j : Nat => (j : Int))) (hs : js.Pairwise (· ≤ ·)) (nd : is.Nodup) (mem : ∀ j, j ∈ is ↔ j < xs.length ∧ txt xs j ∈ ls) :
    js.map (fun j => txt xs j.toNat) = xs.filter fun l => decide (l ∈ ls) := by
  have inj : ∀ a b : Nat, a ≠ b → (a : Int) ≠ (b : Int) := fun a b h e => h (by omega)
  have ndj : js.Nodup := hp.nodup_iff.mpr (List.Pairwise.map _ (fun a b h => inj a b h) nd)
  have e : js = ((List.range xs.length).filter fun j => decide (txt xs j ∈ ls)).map fun j : Nat => (j : Int) := by
    refine rise_eq _ _ (rise_strict hs ndj) (List.Pairwise.map _ (fun a b h => by omega) (List.Pairwise.filter _ List.pairwise_lt_range)) fun x => ?_
    rw [hp.mem_iff, List.mem_map, List.mem_map]
    constructor
    · rintro ⟨j, hj, rfl⟩
      have z := (mem j).mp hj
      exact ⟨j, List.mem_filter.mpr ⟨List.mem_range.mpr z.1, decide_eq_true z.2⟩, rfl⟩
    · rintro ⟨j, hj, rfl⟩
      have z := List.mem_filter.mp hj
      exact ⟨j, (mem j).mpr ⟨List.mem_range.mp z.1, of_decide_eq_true z.2⟩, rfl⟩
  rw [e, List.map_map]
  have e2 : ((fun j : Int => txt xs j.toNat) ∘ fun j : Nat => (j : Int)) = txt xs := by
    funext j
    show txt xs (j : Int).toNat = _
    rw [Int.toNat_natCast]
  rw [e2]
  have z := List.filter_map (f := txt xs) (p := fun l => decide (l ∈ ls)) (l := List.range xs.length)
  rw [map_txt] at z
  exact z.symm
def entry (xs : List Str) (j : Nat) : Key × V := (Sum.inl (j : Int), .str (txt xs j))
theorem entry_val {xs : List Str} {j : Nat} : ∀ is : List Nat, j ∈ is → valV (is.map (entry xs)) (Sum.inl (j : Int)) = some (.str (txt xs j))
  | [], h => nomatch h
  | i :: r, h => by
    by_cases e : i = j
    · subst e
      exact valV_pos rfl
    · have ne : ¬ (entry xs i).1 = Sum.inl (j : Int) := fun q => by
        have q : (Sum.inl (i : Int) : Key) = Sum.inl (j : Int) := q
        injection q with q
        omega
      rw [List.map_cons, valV_neg ne]
      exact entry_val r ((List.mem_cons.mp h).resolve_left fun q => e q.symm)
theorem entry_none {xs : List Str} {j : Nat} : ∀ is : List Nat, j ∉ is → valV (is.map (entry xs)) (Sum.inl (j : Int)) = none
  | [], _ => rfl
  | i :: r, h => by
    have ne : ¬ (entry xs i).1 = Sum.inl (j : Int) := fun q => by
      have q : (Sum.inl (i : Int) : Key) = Sum.inl (j : Int) := q
      injection q with q
      exact h (by rw [show j = i by omega]; exact List.mem_cons_self)
    rw [List.map_cons, valV_neg ne]
    exact entry_none r fun q => h (List.mem_cons_of_mem _ q)
theorem entry_put {xs : List Str} {is : List Nat} {j : Nat} : putK (is.map (entry xs)) (Sum.inl (j : Int)) (.str (txt xs j)) = (if j ∈ is then is else is ++ [j]).map (entry xs) := by
  by_cases h : j ∈ is
  · rw [if_pos h]
    unfold putK
    rw [valV_any, entry_val is h]
    show List.map (fun kv => if kv.1 = Sum.inl (j : Int) then (kv.1, V.str (txt xs j)) else kv) (List.map (entry xs) is) = _
    rw [List.map_map]
    refine List.map_congr_left fun i _ => ?_
    show (if (entry xs i).1 = _ then _ else _) = _
    by_cases e : i = j
    · subst e
      exact (if_pos rfl).trans rfl
    · refine if_neg fun q => ?_
      have q : (Sum.inl (i : Int) : Key) = Sum.inl (j : Int) := q
      injection q with q
      omega
  · rw [if_neg h, putK_new (entry_none is h), List.map_append]
    rfl
def spInOrder (K : PySem.W.Frag) : Sp := fun vs H Q _ => ∃ (PL A : Addr) (b : Bool) (ns ls : List Str), vs = [.ref PL, .ref A] ∧ H PL = some (.dK (plc ns)) ∧ Sq K b H A (ls.map V.str) ∧ (∀ H', Same H H' → Sq K b H' A (ls.map V.str)) ∧ ns.length ≤ 60 ∧ ns.Nodup ∧ (∀ z ∈ ns, Name1 z) ∧ (∀ l ∈ ls, l ∈ lits ns) ∧
  ∀ (p : Addr) (H' : Hp), H p = none → H' p = some (.tup ((asc ns ls).map V.str)) → Same H H' → Q (.ref p) H'
section
variable {P : Program} {w : World} {K : PySem.W.Frag} {mg : Str → Option Value} {base : Heap} {f : Addr} {fd : FuncData}
abbrev nInOrder : List Str := ["places", "literals", "by_place", "literal", "place"]
theorem scInOrder : FnScope nInOrder ["places", "literals"] (defScope sInOrder) := ⟨rfl, rfl, rfl, by decide +kernel, rfl, by decide +kernel, by decide +kernel⟩
theorem ok_inOrder (F : Fun K "in_order" "in_order" sInOrder f fd) (mt : mg "tuple" = none) (ms : mg "sorted" = none) (mi : mg "int" = none) : FnOk P w K mg base CX0 1 f fd ["places", "literals"] (spInOrder K) := by
  refine F.ok scInOrder (fun vs H Q E h => ?_) (fun cdv A outer s H vs Q E hr h => ?_)
  · obtain ⟨PL, A, b, ns, ls, rfl, _⟩ := h
    rfl
  · obtain ⟨PL, A, b, ns, ls, rfl, hPL, hA, hA', hn, nd, good, sub, k⟩ := h
    have hu := hu_of hr
    refine ⟨_, pss_cons (ps_set (i := 2) scInOrder.nd rfl (.inr rfl) (pe_dcP (own := [("literal", 3)]) .k rfl hu scInOrder.nd (pi_seq (pv 1)) (blkOk_by (N := nInOrder) (sc := defScope sInOrder) (by decide +kernel))
          (fun _ _ _ _ _ => pg_name (i := 3) scInOrder.nd rfl (.inl rfl)) (fun _ _ _ _ _ => pts_nil) (fun _ _ _ _ _ => pe_dget hu (pv 0) (pv 3) (fun _ _ => rfl)) (fun _ _ _ _ _ => pv 3)))
      (pss_one (ps_ret (pe_tupleOf (by rfl) mt (pe_lc (own := [("place", 4)]) (g := gName 4) (tt := tYes) rfl scInOrder.nd
          (pi_list (pe_callB cr_sortedI (by rfl) ms (by decide +kernel) (pa_cons (pe_lock (pe_lc (own := [("place", 4)]) (g := gName 4) (tt := tYes) rfl scInOrder.nd (pi_keys (pv 2)) (blkOk_by (N := nInOrder) (sc := defScope sInOrder) (by decide +kernel))
            (fun _ _ _ _ _ => pg_name (i := 4) scInOrder.nd rfl (.inl rfl)) (fun _ _ _ _ _ => pts_nil) (fun _ _ _ _ _ => pe_callTy call_int1 (by rfl) mi (by decide +kernel) (pa_cons (pv 4) pa_nil)))) pa_nil)))
          (blkOk_by (N := nInOrder) (sc := defScope sInOrder) (by decide +kernel))
          (fun _ _ _ _ _ => pg_name (i := 4) scInOrder.nd rfl (.inl rfl)) (fun _ _ _ _ _ => pts_nil) (fun _ _ _ _ _ => pe_dget hu (pv 2) (pv 4) (fun _ _ => rfl)))))), ?_⟩
    have ndl := lits_nodup ns nd good
    have l120 := lits_len ns
    refine ⟨_, rfl, b, A, _, rfl, hA, fun D hD => dc_it walk_sq (fun i H2 => Same H H2 ∧ ∃ is : List Nat, H2 D = some (.dK (is.map (entry (lits ns)))) ∧ is.Nodup ∧ ∀ j, j ∈ is ↔ j < (lits ns).length ∧ txt (lits ns) j ∈ ls.take i) ⟨same_new hD, [], upd_same, List.nodup_nil, fun j => ⟨fun h => (nomatch h), fun h => by simp at h⟩⟩ (fun i H2 _ hh => hA' _ hh.1) ?_ ?_⟩
    · rintro i x H2 H3 hi ⟨sm, is, hD2, ndi, mem⟩ ⟨rfl, hx⟩
      obtain ⟨l, hl, rfl⟩ := get_map hx
      obtain ⟨j, hj, ej⟩ := List.getElem_of_mem (sub l (List.mem_of_getElem? hl))
      have hj' : (lits ns)[j]? = some l := by rw [← ej]; exact List.getElem?_eq_getElem hj
      have tj := txt_at hj'
      have g : DGet H3 PL (.str l) (some (.int (j : Int))) := by
        have z := DGet.k (k := Sum.inr l) (sm _ _ hPL)
        rw [plcF_at _ 0 j ndl hj', Nat.zero_add] at z
        exact z
      have few : is.length ≤ (lits ns).length := by
        have z := nodup_le is (List.range (lits ns).length) ndi fun a ha => List.mem_range.mpr ((mem a).mp ha).1
        rwa [List.length_range] at z
      refine ⟨rfl, _, rfl, _, rfl, PL, _, rfl, g, _, rfl, _, DPut.k (k := Sum.inl (j : Int)) hD2 (by rw [List.length_map, sizeLine_eq]; omega), fun c o h => (upd_ne (ne_of_none h hD)).trans (sm c o h), if j ∈ is then is else is ++ [j], ?_, ?_, ?_⟩
      · rw [upd_same, ← tj, entry_put]
      · split
        · exact ndi
        · rename_i q
          exact List.nodup_append.mpr ⟨ndi, List.nodup_cons.mpr ⟨fun h => (nomatch h), List.nodup_nil⟩, fun a ha c hc e => q (by rw [← List.mem_singleton.mp hc, ← e]; exact ha)⟩
      · intro m
        rw [List.take_succ, hl]
        have uniq : ∀ m, m < (lits ns).length → (txt (lits ns) m = l ↔ m = j) := fun m hm => by
          constructor
          · intro e
            have z : (lits ns)[m]? = some l := by rw [← e]; exact (List.getElem?_eq_getElem hm).trans (congrArg some (txt_at (List.getElem?_eq_getElem hm)).symm)
            exact (List.getElem?_inj hm ndl).mp (z.trans hj'.symm)
          · rintro rfl
            exact tj
        have old := mem m
        by_cases q : j ∈ is
        · rw [if_pos q, old]
          constructor
          · exact fun h => ⟨h.1, List.mem_append.mpr (.inl h.2)⟩
          · rintro ⟨h1, h2⟩
            rcases List.mem_append.mp h2 with z | z
            · exact ⟨h1, z⟩
            · obtain rfl := (uniq m h1).mp (List.mem_singleton.mp z)
              exact old.mp q
        · rw [if_neg q, List.mem_append, old]
          constructor
          · rintro (h | h)
            · exact ⟨h.1, List.mem_append.mpr (.inl h.2)⟩
            · obtain rfl := List.mem_singleton.mp h
              exact ⟨hj, List.mem_append.mpr (.inr (List.mem_singleton.mpr tj))⟩
          · rintro ⟨h1, h2⟩
            rcases List.mem_append.mp h2 with z | z
            · exact .inl ⟨h1, z⟩
            · exact .inr (List.mem_singleton.mpr ((uniq m h1).mp (List.mem_singleton.mp z)))
    · rintro H2 ⟨sm, is, hD2, ndi, mem⟩
      rw [List.length_map, List.take_length] at mem
      have few : is.length ≤ (lits ns).length := by
        have z := nodup_le is (List.range (lits ns).length) ndi fun a ha => List.mem_range.mpr ((mem a).mp ha).1
        rwa [List.length_range] at z
      refine ⟨D, _, hD2, trivial, fun od => ⟨_, rfl, D, od, rfl, .inl ⟨_, upd_same, fun L hL => lc_it walk_keys (fun i H3 => H3 D = some (.frz od (.dK (is.map (entry (lits ns))))) ∧ H3 L = some (.lst ((is.take i).map fun j : Nat => V.int (j : Int))) ∧ ∀ c o, c ≠ D → H2 c = some o → H3 c = some o) ?_ (fun i H3 _ hh => hh.1) ?_ ?_⟩⟩⟩
      · have nDL : D ≠ L := ne_of_none (show upd H2 D (.frz od _) D = some _ from upd_same) hL
        exact ⟨(upd_ne nDL).trans upd_same, upd_same, fun c o nc h => (upd_ne (ne_of_none ((upd_ne nc).trans h) hL)).trans ((upd_ne nc).trans h)⟩
      · rintro i x H3 H4 hi ⟨hD3, hL3, keep⟩ ⟨rfl, kk, vv, hkv, rfl⟩
        obtain ⟨j, hj, ej⟩ := get_map hkv
        injection ej with e1 e2
        subst e1
        have ilt : i < is.length := (List.getElem?_eq_some_iff.mp hj).1
        have nDL : D ≠ L := ne_of_none (show upd H2 D (.frz od (.dK (is.map (entry (lits ns))))) D = some _ from upd_same) hL
        refine ⟨rfl, _, rfl, .inl ⟨_, rfl, _, hL3, by rw [List.length_map, List.length_take, sizeLine_eq]; omega, (upd_ne nDL).trans hD3, ?_, fun c o nc h => (upd_ne (ne_of_none ((upd_ne nc).trans h) hL)).trans (keep c o nc h)⟩⟩
        rw [upd_same, List.take_succ, hj, List.map_append]
        rfl
      · rintro H3 ⟨hD3, hL3, keep⟩
        rw [List.length_map, List.take_length] at hL3
        refine ⟨hD3, ?_⟩
        have nDL : L ≠ D := (ne_of_none (show upd H2 D (.frz od (.dK (is.map (entry (lits ns))))) D = some _ from upd_same) hL).symm
        have hL2 : H2 L = none := by
          have z := hL
          rwa [upd_ne nDL] at z
        generalize eH : upd H3 D (.dK (is.map (entry (lits ns)))) = H4
        have hD4 : H4 D = some (.dK (is.map (entry (lits ns)))) := eH ▸ upd_same
        have hL4 : H4 L = some (.lst (is.map fun j : Nat => V.int (j : Int))) := eH ▸ (upd_ne nDL).trans hL3
        have sm4 : Same H2 H4 := fun c o h => by
          by_cases e : c = D
          · subst e
            rw [hD2] at h
            rw [hD4, ← h]
          · rw [← eH]
            exact (upd_ne e).trans (keep c o e h)
        have eL : (is.map fun j : Nat => V.int (j : Int)) = (is.map fun j : Nat => (j : Int)).map V.int := by rw [List.map_map]; rfl
        refine ⟨L, is.map fun j : Nat => (j : Int), rfl, SqL.of (eL ▸ hL4), fun js p perm rise hp => ⟨p, rfl, ⟨_, SqL.of upd_same⟩, fun D2 hD2' => lc_list (K := K) (a := p) (xs := js.map V.int) (fun i H5 => Same (upd H4 p (.lst (js.map V.int))) H5 ∧ H5 D2 = some (.lst ((js.take i).map fun j => V.str (txt (lits ns) j.toNat)))) ⟨same_new hD2', upd_same⟩ (fun i H5 _ hh => SqL.of (hh.1 _ _ upd_same)) ?_ ?_⟩⟩
        · rintro i x H5 hx ⟨sm5, hD5⟩
          obtain ⟨jz, hjz, rfl⟩ := get_map hx
          obtain ⟨j, hj, rfl⟩ := List.mem_map.mp (perm.mem_iff.mp (List.mem_of_getElem? hjz))
          have lj : js.length = is.length := by
            have z := perm.length_eq
            rwa [List.length_map] at z
          have hDD : H5 D = some (.dK (is.map (entry (lits ns)))) := sm5 _ _ ((same_new hp) _ _ hD4)
          have g : DGet H5 D (.int (j : Int)) (some (.str (txt (lits ns) j))) := by
            have z := DGet.k (k := Sum.inl (j : Int)) hDD
            rw [entry_val is hj] at z
            exact z
          refine ⟨rfl, _, rfl, _, rfl, D, _, rfl, g, _, hD5, by rw [List.length_map, List.length_take, sizeLine_eq]; omega, fun c o h => (upd_ne (ne_of_none h hD2')).trans (sm5 c o h), ?_⟩
          rw [upd_same, List.take_succ, hjz, List.map_append]
          show _ = some (HO.lst (_ ++ [V.str (txt (lits ns) ((j : Int)).toNat)]))
          rw [Int.toNat_natCast]
        · rintro H5 ⟨sm5, hD5⟩
          rw [List.length_map, List.take_length] at hD5
          have e6 := rise_filter (xs := lits ns) (ls := ls) perm rise ndi mem
          have smF : Same H H5 := (sm.trans sm4).trans ((same_new hp).trans sm5)
          refine .inl ⟨D2, _, rfl, SqL.of hD5, fun q hq => k q _ (smF.free hq) ?_ (smF.trans (same_new hq))⟩
          rw [upd_same]
          have e7 : (js.map fun j => V.str (txt (lits ns) j.toNat)) = (js.map fun j => txt (lits ns) j.toNat).map V.str := by rw [List.map_map]; rfl
          rw [e7, e6]
          rfl
end
end K6
/-! A def whose one default is an empty tuple. -/
namespace EV
open PySem PySem.Spec PyProof.Rows L2
/-- the empty tuple at A0, in the part that stays -/
def NilT (K : PySem.W.Frag) (A0 : Addr) : Prop := ∃ (o : Obj) (n : Nat), K.lookup A0 = some o ∧ o.cls = .type "tuple" ∧ o.data = .seq #[] n
theorem NilT.sq {K : PySem.W.Frag} {A0 : Addr} (h : NilT K A0) (H : Hp) : SqT K H A0 [] := by
  obtain ⟨o, n, h1, h2, h3⟩ := h
  exact .inr ⟨o, #[], n, h1, h2, h3, Nat.zero_le _, .nil⟩
structure FunE (K : PySem.W.Frag) (x qual : Str) (st : Stmt) (f : Addr) (fd : FuncData) (A0 : Addr) : Prop where
  fn : FunD K x qual (defArgs st) (defBody st) (defScope st) [.ref A0] [] f fd
  e0 : NilT K A0
section
variable {P : Program} {w : World} {K : PySem.W.Frag} {mg : Str → Option Value} {base : Heap} {x qual : Str} {st : Stmt} {f A0 : Addr} {fd : FuncData}
theorem FunE.ok {N ps : List Str} {k : Nat} {sp : Sp} (F : FunE K x qual st f fd A0) (S : FnScope N ps (defScope st)) (len : ∀ vs H Q E, sp vs H Q E → vs.length = ps.length)
    (body : ∀ (cdv : Value) (A : Around) (outer : List Env) (s : Shared) (H : Hp) (vs : List V) (Q : VK) (E : XK), Room k (A.deeper (envOfC qual (defScope st) s.heap.objs.size f cdv)) → sp vs H Q E →
      ∃ t, PSs (cxOf CX0 P w K mg base N qual (defScope st) f cdv A outer s H E).nox (defBody st) t ∧ t { nx := fun _ H' => Q .non H', rt := Q } (start N vs) H) : FnOk P w K mg base CX0 (k + 1) f fd ps sp :=
  F.fn.ok S len fun cdv A outer s H vs Q E hr h => by
    obtain ⟨t, p, q⟩ := body cdv A outer s H vs Q E hr h
    exact ⟨t, p.nox, q⟩
theorem funE_mk {oc : Value} {od an : Option Addr} {osl : Array (Option Value)} {kV doc pm cdv ct : Value} {T : Addr} {o o2 : Obj} {n n2 : Nat}
    (l : K.lookup f = some ⟨oc, od, .func (PySem.W.fnOf x qual (defArgs st) (defBody st) (defScope st) (.ref T) kV doc pm an cdv ct), osl⟩) (c : PySem.W.codeIn K cdv qual = true) (k : PySem.W.keepIn K (.ref f) = true)
    (lT : K.lookup T = some o) (dT : o.data = .seq #[.ref A0] n) (lA : K.lookup A0 = some o2) (cA : o2.cls = .type "tuple") (dA : o2.data = .seq #[] n2) :
    FunE K x qual st f (PySem.W.fnOf x qual (defArgs st) (defBody st) (defScope st) (.ref T) kV doc pm an cdv ct) A0 :=
  ⟨⟨⟨oc, od, .ref T, kV, doc, pm, an, cdv, ct, osl, rfl, l, c, .inr ⟨by simp, T, o, [.ref A0], n, rfl, lT, dT, .cons rfl .nil⟩, .inl rfl⟩, k⟩, ⟨o2, n2, lA, cA, dA⟩⟩
/-- the default fills up -/
theorem FunE.short {ps : List Str} (F : FunE K x qual st f fd A0) (n : Nat) (hn : n + 1 = ps.length)
    (h : ∀ (T : Addr) (kV doc pm : Value) (an : Option Addr) (cdv ct : Value) (us its : List Value), us.length = n → its.length = 1 →
      ∃ k, bindArgs (PySem.W.fnOf x qual (defArgs st) (defBody st) (defScope st) (.ref T) kV doc pm an cdv ct) ⟨us, []⟩ = seqItems? (.ref T) >>= k ∧ k (some its.toArray) = pure (ps.zip (us ++ its))) : ∃ ds, Vals [.ref A0] ds ∧ Binds K fd ps ds :=
  F.fn.binds1 n 0 (by simp) hn fun T kV doc pm an cdv ct us its h1 h2 => h T kV doc pm an cdv ct us its h1 h2
/-- all is given -/
theorem FunE.full {ps : List Str} (F : FunE K x qual st f fd A0)
    (h : ∀ (T : Addr) (kV doc pm : Value) (an : Option Addr) (cdv ct : Value) (us its : List Value), us.length = ps.length → its.length = 1 →
      ∃ k, bindArgs (PySem.W.fnOf x qual (defArgs st) (defBody st) (defScope st) (.ref T) kV doc pm an cdv ct) ⟨us, []⟩ = seqItems? (.ref T) >>= k ∧ k (some its.toArray) = pure (ps.zip us)) : Binds K fd ps [] := by
  obtain ⟨ds, r, b⟩ := F.fn.binds1 (ps := ps) ps.length 1 (by simp) (by simp) fun T kV doc pm an cdv ct us its h1 h2 => by
    obtain ⟨k, e1, e2⟩ := h T kV doc pm an cdv ct us its h1 h2
    refine ⟨k, e1, ?_⟩
    have z : its.drop 1 = [] := List.drop_eq_nil_of_le (by rw [h2]; exact Nat.le_refl 1)
    rw [z, List.append_nil]
    exact e2
  cases r
  exact b
end
end EV
namespace K6
open PySem PySem.Spec PyProof.Rows L2 LamX NdefX EV
/-- a row that is never reached -/
theorem ps_none {X : Cx} {st : Stmt} : PS X st (fun _ _ _ => False) := ⟨fun pins s σ H D I h => h.elim⟩
def spIsList (K : PySem.W.Frag) : Sp := fun vs H Q _ => ∃ (x : V) (t : Value) (b : Bool), vs = [x] ∧ (∀ H', Same H H' → TyX K H' x t) ∧ PySem.W.kitAny K t [.type "list", .type "tuple"] = some b ∧ ∀ H', Same H H' → Q (.bl b) H'
/-- names that are checked; others that are taken -/
def spChkNames (K : PySem.W.Frag) : Sp := fun vs H Q _ => ∃ (T U : Addr) (b c : Bool) (ns tk : List Str), vs = [.ref T, .ref U] ∧ (∀ H', Same H H' → Sq K b H' T (ns.map V.str)) ∧ (∀ H', Same H H' → Sq K c H' U (tk.map V.str)) ∧ ns.length ≤ 60 ∧ tk.length ≤ 60 ∧ (tk ++ ns).Nodup ∧ (∀ z ∈ ns, Name1 z) ∧ ∀ H', Same H H' → Q .non H'
section
variable {P : Program} {w : World} {K : PySem.W.Frag} {mg : Str → Option Value} {base : Heap} {f fI fL fW : Addr} {fd fdI fdL fdW : FuncData}
theorem scIsList : FnScope ["thing"] ["thing"] (defScope sIsList) := ⟨rfl, rfl, rfl, by decide +kernel, rfl, by decide +kernel, by decide +kernel⟩
theorem ok_isList (F : Fun K "is_list" "is_list" sIsList f fd) (mi : mg "isinstance" = none) (ml : mg "list" = none) (mt : mg "tuple" = none) : FnOk P w K mg base CX0 1 f fd ["thing"] (spIsList K) := by
  refine F.ok scIsList (fun vs H Q E h => ?_) (fun cdv A outer s H vs Q E hr h => ?_)
  · obtain ⟨x, t, b, rfl, _⟩ := h
    rfl
  · obtain ⟨x, t, b, rfl, ty, kit, k⟩ := h
    refine ⟨_, pss_one (ps_ret (pe_callB call_isiT (by rfl) mi (by decide +kernel) (pa_cons (pv 0) (pa_cons (pe_tup (pa_cons (pe_bltn (v := .ty "list") (by rfl) ml (by decide +kernel) rfl) (pa_cons (pe_bltn (v := .ty "tuple") (by rfl) mt (by decide +kernel) rfl) pa_nil))) pa_nil)))), ?_⟩
    refine ⟨_, rfl, by show 2 ≤ sizeLine; decide, fun tp htp => ⟨x, tp, _, t, _, b, rfl, upd_same, .cons (.ty "list") (.cons (.ty "tuple") .nil), ty _ (same_new htp), kit, k _ (same_new htp)⟩⟩
abbrev nChk : List Str := ["things", "taken", "seen", "name", "index", "thing"]
theorem scChk : FnScope nChk ["things", "taken"] (defScope sChkNames) := ⟨rfl, rfl, rfl, by decide +kernel, rfl, by decide +kernel, by decide +kernel⟩
def seenKv (n : Str) : Key × V := (Sum.inr n, .bl true)
theorem seen_none {n : Str} : ∀ ns : List Str, n ∉ ns → valV (ns.map seenKv) (Sum.inr n) = none
  | [], _ => rfl
  | m :: r, h => by
    have ne : ¬ (seenKv m).1 = Sum.inr n := fun q => by
      have q : (Sum.inr m : Key) = Sum.inr n := q
      injection q with q
      exact h (q ▸ List.mem_cons_self)
    rw [List.map_cons, valV_neg ne]
    exact seen_none r fun q => h (List.mem_cons_of_mem _ q)
theorem seen_some {n : Str} : ∀ ns : List Str, n ∈ ns → valV (ns.map seenKv) (Sum.inr n) = some (.bl true)
  | [], h => nomatch h
  | m :: r, h => by
    by_cases e : m = n
    · subst e
      exact valV_pos rfl
    · have ne : ¬ (seenKv m).1 = Sum.inr n := fun q => by
        have q : (Sum.inr m : Key) = Sum.inr n := q
        injection q with q
        exact e q
      rw [List.map_cons, valV_neg ne]
      exact seen_some r ((List.mem_cons.mp h).resolve_left fun q => e q.symm)
theorem not_before {α : Type} {xs : List α} {i : Nat} {x : α} (nd : xs.Nodup) (h : xs[i]? = some x) : x ∉ xs.take i := fun m => by
  obtain ⟨j, hj, hj2⟩ := List.getElem_of_mem m
  have ilt := (List.getElem?_eq_some_iff.mp h).1
  have jlt : j < i := by rw [List.length_take] at hj; omega
  have z : xs[j]? = some x := by
    rw [List.getElem_take] at hj2
    rw [← hj2]
    exact List.getElem?_eq_getElem _
  exact absurd ((List.getElem?_inj (by omega) nd).mp (z.trans h.symm)) (by omega)
theorem nodup_right {α : Type} {xs ys : List α} (h : (xs ++ ys).Nodup) : ys.Nodup := (List.nodup_append.mp h).2.1
theorem ok_chkNames {A0 : Addr} (F : FunE K "check_names" "check_names" sChkNames f fd A0) (GI : FnOk P w K mg base CX0 1 fI fdI ["thing"] spIsName) (mI : mg "is_name" = some (.ref fI)) (kI : PySem.W.keepIn K (.ref fI) = true) (bI : L2.Binds K fdI ["thing"] []) (me : mg "enumerate" = none) :
    FnOk P w K mg base CX0 2 f fd ["things", "taken"] (spChkNames K) := by
  refine F.ok scChk (fun vs H Q E h => ?_) (fun cdv A outer s H vs Q E hr h => ?_)
  · obtain ⟨T, U, b, c, ns, tk, rfl, _⟩ := h
    rfl
  · obtain ⟨T, U, b, c, ns, tk, rfl, hT', hU', hn, hm, nd, good, k⟩ := h
    have hu := hu_of hr
    refine ⟨_, pss_cons (ps_set (i := 2) scChk.nd rfl (.inl rfl) pe_dnewK)
      (pss_cons (ps_for PassesOwn.never rfl (pi_seq (pv 1)) (pg_name (i := 3) scChk.nd rfl (.inl rfl)) (pss_one (ps_dput hu (pv 2) (pv 3) pe_bl rfl)))
      (pss_one (ps_for PassesOwn.never rfl (pi_enumB (by rfl) me (pa_cons (pv 0) pa_nil)) (pg_tup rfl (pgs_cons (pg_name (i := 4) scChk.nd rfl (.inl rfl)) (pgs_cons (pg_name (i := 5) scChk.nd rfl (.inl rfl)) pgs_nil)))
        (pss_cons (ps_if (PW.pt (pw_or (pt_not (pt_val (pe_call GI hr (by rfl) mI kI bI .nil pass0 (pa_cons (pv 5) pa_nil)))) (pw_or1 (pt_cmp (pc_din hu (pv 5) (pv 2)))))) (pss_one ps_none) pss_nil)
        (pss_one (ps_dput hu (pv 2) (pv 5) pe_bl rfl)))))), ?_⟩
    refine fun d hd => ⟨_, rfl, c, U, _, rfl, hU' _ (same_new hd), for_it walk_sq (fun i σ H2 => ∃ o3 o4 o5, σ = [some (.ref T), some (.ref U), some (.ref d), o3, o4, o5] ∧ Same H H2 ∧ H2 d = some (.dK ((tk.take i).map seenKv))) ⟨_, _, _, rfl, same_new hd, upd_same⟩ (fun i σ H2 _ ⟨_, _, _, _, sm, _⟩ => hU' _ sm) ?_ ?_⟩
    · rintro i x σ H2 H3 hi ⟨o3, o4, o5, rfl, sm, hd2⟩ ⟨rfl, hv⟩
      obtain ⟨n, hn', rfl⟩ := get_map hv
      have fresh := not_before (List.nodup_append.mp nd).1 hn'
      refine ⟨_, rfl, _, rfl, d, _, rfl, DPut.k (k := Sum.inr n) hd2 (by rw [List.length_map, List.length_take, sizeLine_eq]; omega), _, _, _, rfl, fun c o h => (upd_ne (ne_of_none h hd)).trans (sm c o h), ?_⟩
      rw [upd_same, putK_new (seen_none _ fresh), List.take_succ, hn', List.map_append]
      rfl
    rintro σ H2 ⟨o3, o4, o5, rfl, sm, hd2⟩
    rw [List.length_map, List.take_length] at hd2
    refine ⟨_, rfl, b, T, _, rfl, hT' _ sm, for_it walk_enumB (fun i σ H3 => ∃ o3 o4 o5, σ = [some (.ref T), some (.ref U), some (.ref d), o3, o4, o5] ∧ Same H H3 ∧ H3 d = some (.dK ((tk ++ ns.take i).map seenKv))) ⟨_, _, _, rfl, sm, by rw [List.take_zero, List.append_nil]; exact hd2⟩ (fun i σ H2 _ ⟨_, _, _, _, sm, _⟩ => hT' _ sm) ?_ ?_⟩
    · rintro i x σ H2 H3 hi ⟨o3, o4, o5, rfl, sm, hd2⟩ ⟨t, v1, v2, rfl, ht, rfl, hv1, hv2⟩
      obtain ⟨n, hn', rfl⟩ := get_map hv2
      obtain rfl := Option.some.inj hv1
      have fresh : n ∉ tk ++ ns.take i := fun q => by
        rcases List.mem_append.mp q with q | q
        · exact (List.nodup_append.mp nd).2.2 n q n (List.mem_of_getElem? hn') rfl
        · exact not_before (nodup_right nd) hn' q
      have hd3 := (upd_ne (o := .tup [.int (i : Nat), .str n]) (ne_of_none hd2 ht)).trans hd2
      refine ⟨t, _, rfl, SqT.of upd_same, rfl, _, _, rfl, _, _, rfl, rfl, _, rfl, n, rfl, good n (List.mem_of_getElem? hn'), fun H4 sm4 => ?_⟩
      have hd4 := sm4 _ _ hd3
      have g : DGet H4 d (.str n) none := by
        have z := DGet.k (k := Sum.inr n) hd4
        rwa [seen_none _ fresh] at z
      refine ⟨_, rfl, iteF ⟨_, rfl, _, rfl, d, _, rfl, g, _, rfl, iteF ?_⟩⟩
      refine ⟨_, rfl, _, rfl, d, _, rfl, DPut.k (k := Sum.inr n) hd4 (by rw [List.length_map, List.length_append, List.length_take, sizeLine_eq]; omega), _, _, _, rfl, fun c o h => (upd_ne (ne_of_none h hd)).trans (sm4 _ _ ((same_new ht) _ _ (sm c o h))), ?_⟩
      rw [upd_same, putK_new (seen_none _ fresh), List.take_succ, hn', ← List.append_assoc, List.map_append (l₁ := tk ++ ns.take i)]
      rfl
    · rintro σ H2 ⟨o3, o4, o5, rfl, sm, hd2⟩
      exact k H2 sm
end
end K6
namespace K6
open PySem PySem.Spec PyProof.Rows L2 LamX NdefX EV
theorem lit_mem {ns : List Str} {q : Bool × Str} (h : q.2 ∈ ns) : lit q ∈ lits ns := by
  refine List.mem_flatMap.mpr ⟨q.2, h, ?_⟩
  unfold lit
  split
  · exact List.mem_cons_of_mem _ List.mem_cons_self
  · exact List.mem_cons_self
theorem plc_some {ns : List Str} {l : Str} (nd : ns.Nodup) (good : ∀ z ∈ ns, Name1 z) (h : l ∈ lits ns) : ∃ v, valV (plc ns) (Sum.inr l) = some v := by
  obtain ⟨j, hj, ej⟩ := List.getElem_of_mem h
  exact ⟨_, plcF_at _ 0 j (lits_nodup ns nd good) (by rw [← ej]; exact List.getElem?_eq_getElem hj)⟩
/-- a thing that may not stand behind these literals in a clause -/
inductive BadV (K : PySem.W.Frag) (H : Hp) (ns : List Str) (qs : List (Bool × Str)) : V → Prop
  | odd {x : V} (t : Value) (ty : ∀ H', Same H H' → TyX K H' x t) (kit : PySem.W.kitOne K t (.type "str") = some false) : BadV K H ns qs x
  | far {z : Str} (h : z ∉ lits ns) : BadV K H ns qs (.str z)
  | twice {q : Bool × Str} (h : q.2 ∈ ns) (h2 : q.2 ∈ qs.map Prod.snd) : BadV K H ns qs (.str (lit q))
/-- things as a clause of the names ns: all right, or wrong behind some literals -/
inductive Seen (K : PySem.W.Frag) (H : Hp) (ns : List Str) : Bool → List V → Prop
  | ok {qs : List (Bool × Str)} (h : Lits ns qs) : Seen K H ns true ((qs.map lit).map V.str)
  | bad {qs : List (Bool × Str)} {x : V} {rest : List V} (h : Lits ns qs) (b : BadV K H ns qs x) : Seen K H ns false ((qs.map lit).map V.str ++ x :: rest)
def spWrong (K : PySem.W.Frag) : Sp := fun vs H Q _ => ∃ (PL A : Addr) (b : Bool) (ns : List Str) (xs : List V) (r : Bool), vs = [.ref PL, .ref A] ∧ H PL = some (.dK (plc ns)) ∧ Sq K b H A xs ∧ (∀ H', Same H H' → Sq K b H' A xs) ∧ ns.length ≤ 60 ∧ ns.Nodup ∧ (∀ z ∈ ns, Name1 z) ∧ Seen K H ns r xs ∧
  ∀ H', Same H H' → if r = true then Q .non H' else ∀ i : Int, Q (.int i) H'
section
variable {P : Program} {w : World} {K : PySem.W.Frag} {mg : Str → Option Value} {base : Heap} {f fN : Addr} {fd fdN : FuncData}
abbrev nWrong : List Str := ["places", "things", "seen", "index", "thing"]
theorem scWrong : FnScope nWrong ["places", "things"] (defScope sWrong) := ⟨rfl, rfl, rfl, by decide +kernel, rfl, by decide +kernel, by decide +kernel⟩
theorem ok_wrong (F : Fun K "first_wrong" "first_wrong" sWrong f fd) (GN : FnOk P w K mg base CX0 1 fN fdN ["literal"] spNameOf) (mN : mg "name_of" = some (.ref fN)) (kN : PySem.W.keepIn K (.ref fN) = true) (bN : L2.Binds K fdN ["literal"] []) (me : mg "enumerate" = none) (mi : mg "isinstance" = none) (ms : mg "str" = none) :
    FnOk P w K mg base CX0 2 f fd ["places", "things"] (spWrong K) := by
  refine F.ok scWrong (fun vs H Q E h => ?_) (fun cdv A' outer s H vs Q E hr h => ?_)
  · obtain ⟨PL, A, b, ns, xs, r, rfl, _⟩ := h
    rfl
  · obtain ⟨PL, A, b, ns, xs, r, rfl, hPL, hA, hA', hn, nd, good, see, k⟩ := h
    have hu := hu_of hr
    refine ⟨_, pss_cons (ps_set (i := 2) scWrong.nd rfl (.inl rfl) pe_dnewK)
      (pss_cons (ps_for PassesOwn.never rfl (pi_enumB (by rfl) me (pa_cons (pv 1) pa_nil)) (pg_tup rfl (pgs_cons (pg_name (i := 3) scWrong.nd rfl (.inl rfl)) (pgs_cons (pg_name (i := 4) scWrong.nd rfl (.inl rfl)) pgs_nil)))
        (pss_cons (ps_if (PW.pt (pw_or (pt_not (pt_val (pe_callB call_isi (by rfl) mi (by decide +kernel) (pa_cons (pv 4) (pa_cons (pe_bltn (v := .ty "str") (by rfl) ms (by decide +kernel) rfl) pa_nil))))) (pw_or (pt_cmp (pc_dnotin hu (pv 4) (pv 0))) (pw_or1 (pt_cmp (pc_din hu (pe_call GN hr (by rfl) mN kN bN .nil pass0 (pa_cons (pv 4) pa_nil)) (pv 2))))))) (pss_one (ps_ret (pv 3))) pss_nil)
        (pss_one (ps_dput hu (pv 2) (pe_call GN hr (by rfl) mN kN bN .nil pass0 (pa_cons (pv 4) pa_nil)) pe_bl rfl))))
      (pss_one (ps_ret pe_non))), ?_⟩
    obtain ⟨qs, tail, hq, rfl, h1, h2⟩ : ∃ qs tail, Lits ns qs ∧ xs = (qs.map lit).map V.str ++ tail ∧ (tail = [] → r = true) ∧ (∀ x rest, tail = x :: rest → r = false ∧ BadV K H ns qs x) := by
      cases see with
      | @ok qs h => exact ⟨qs, [], h, (List.append_nil _).symm, fun _ => rfl, fun x rest e => (nomatch e)⟩
      | @bad qs x rest h b =>
        refine ⟨qs, x :: rest, h, rfl, (fun e => (nomatch e)), fun y s e => ⟨rfl, ?_⟩⟩
        injection e with e1 _
        exact e1 ▸ b
    have few : qs.length ≤ ns.length := by
      have z := nodup_le (qs.map Prod.snd) ns hq.nd fun n hn => by
        obtain ⟨q, hq', rfl⟩ := List.mem_map.mp hn
        exact hq.sub q hq'
      rwa [List.length_map] at z
    have ll : ((qs.map lit).map V.str).length = qs.length := by rw [List.length_map, List.length_map]
    refine fun d hd => ⟨_, rfl, b, A, _, rfl, hA' _ (same_new hd), for_it walk_enumB (fun i σ H2 => ∃ o3 o4, σ = [some (.ref PL), some (.ref A), some (.ref d), o3, o4] ∧ i ≤ qs.length ∧ Same H H2 ∧ H2 d = some (.dK (((qs.map Prod.snd).take i).map seenKv))) ⟨_, _, rfl, Nat.zero_le _, same_new hd, upd_same⟩ (fun i σ H2 _ ⟨_, _, _, _, sm, _⟩ => hA' _ sm) ?_ ?_⟩
    · rintro i x σ H2 H3 hi ⟨o3, o4, rfl, ile, sm, hd2⟩ ⟨t, v1, v2, rfl, ht, rfl, hv1, hv2⟩
      obtain rfl := Option.some.inj hv1
      replace hv2 : ((qs.map lit).map V.str ++ tail)[i]? = some v2 := hv2
      have hd3 := (upd_ne (o := .tup [.int (i : Nat), v2]) (ne_of_none hd2 ht)).trans hd2
      have sm3 : Same H (upd H2 t (.tup [.int (i : Nat), v2])) := sm.trans (same_new ht)
      have hPL3 := sm3 _ _ hPL
      refine ⟨t, _, rfl, SqT.of upd_same, rfl, _, _, rfl, _, _, rfl, rfl, _, rfl, ?_⟩
      by_cases ilt : i < qs.length
      · -- a literal that may stand here
        obtain ⟨q, hqi⟩ : ∃ q, qs[i]? = some q := ⟨_, List.getElem?_eq_getElem ilt⟩
        have ev : v2 = .str (lit q) := by
          rw [List.getElem?_append_left (by rw [ll]; exact ilt), List.getElem?_map, List.getElem?_map, hqi] at hv2
          exact (Option.some.inj hv2).symm
        subst ev
        have mem := List.mem_of_getElem? hqi
        have qn : (qs.map Prod.snd)[i]? = some q.2 := by rw [List.getElem?_map, hqi]; rfl
        have fresh := not_before hq.nd qn
        obtain ⟨v, hv⟩ := plc_some nd good (lit_mem (hq.sub q mem))
        have g1 : DGet (upd H2 t (.tup [.int (i : Nat), .str (lit q)])) PL (.str (lit q)) (some v) := by
          have z := DGet.k (k := Sum.inr (lit q)) hPL3
          rwa [hv] at z
        have g2 : DGet (upd H2 t (.tup [.int (i : Nat), .str (lit q)])) d (.str q.2) none := by
          have z := DGet.k (k := Sum.inr q.2) hd3
          rwa [seen_none _ fresh] at z
        refine ⟨_, _, _, _, true, rfl, .ty "str", .base (.str _), kit_ty (by decide +kernel), _, rfl, iteF ⟨_, rfl, _, rfl, PL, _, rfl, g1, _, rfl, iteF ⟨_, rfl, q, rfl, good _ (hq.sub q mem), _, rfl, d, _, rfl, g2, _, rfl, iteF ?_⟩⟩⟩
        refine ⟨_, rfl, _, rfl, q, rfl, good _ (hq.sub q mem), d, _, rfl, DPut.k (k := Sum.inr q.2) hd3 (by rw [List.length_map, List.length_take, sizeLine_eq]; omega), _, _, rfl, ilt, fun c o h => (upd_ne (ne_of_none h hd)).trans (sm3 c o h), ?_⟩
        rw [upd_same, putK_new (seen_none _ fresh), List.take_succ, qn, List.map_append]
        rfl
      · -- the thing that may not
        have ie : i = qs.length := by omega
        obtain ⟨rest, et⟩ : ∃ rest, tail = v2 :: rest := by
          rw [List.getElem?_append_right (by rw [ll]; omega), ll, ie, Nat.sub_self] at hv2
          cases tail with
          | nil => cases hv2
          | cons y s => exact ⟨s, by rw [← Option.some.inj hv2]⟩
        obtain ⟨er, bad⟩ := h2 v2 rest et
        have fin : ∀ H', Same H H' → Q (.int (i : Int)) H' := fun H' s' => by
          have z := k H' s'
          rw [er] at z
          exact z i
        have hd3' := hd3
        rw [ie, List.take_of_length_le (by rw [List.length_map]; exact Nat.le_refl _)] at hd3'
        cases bad with
        | odd ty0 ty kit => exact ⟨_, _, _, _, false, rfl, .ty "str", ty _ sm3, kit, _, rfl, iteT ⟨_, rfl, fin _ sm3⟩⟩
        | @far z h =>
          have g1 : DGet (upd H2 t (.tup [.int (i : Nat), .str z])) PL (.str z) none := by
            have y := DGet.k (k := Sum.inr z) hPL3
            rwa [plcF_none _ 0 h] at y
          exact ⟨_, _, _, _, true, rfl, .ty "str", .base (.str _), kit_ty (by decide +kernel), _, rfl, iteF ⟨_, rfl, _, rfl, PL, _, rfl, g1, _, rfl, iteT ⟨_, rfl, fin _ sm3⟩⟩⟩
        | @twice q hq1 hq2 =>
          obtain ⟨v, hv⟩ := plc_some nd good (lit_mem hq1)
          have g1 : DGet (upd H2 t (.tup [.int (i : Nat), .str (lit q)])) PL (.str (lit q)) (some v) := by
            have z := DGet.k (k := Sum.inr (lit q)) hPL3
            rwa [hv] at z
          have g2 : DGet (upd H2 t (.tup [.int (i : Nat), .str (lit q)])) d (.str q.2) (some (.bl true)) := by
            have z := DGet.k (k := Sum.inr q.2) hd3'
            rw [seen_some _ hq2] at z
            rw [ie] at *
            exact z
          exact ⟨_, _, _, _, true, rfl, .ty "str", .base (.str _), kit_ty (by decide +kernel), _, rfl, iteF ⟨_, rfl, _, rfl, PL, _, rfl, g1, _, rfl, iteF ⟨_, rfl, q, rfl, good _ hq1, _, rfl, d, _, rfl, g2, _, rfl, iteT ⟨_, rfl, fin _ sm3⟩⟩⟩⟩
    · rintro σ H2 ⟨o3, o4, rfl, ile, sm, hd2⟩
      rw [List.length_append, ll] at ile
      have et : tail = [] := List.eq_nil_of_length_eq_zero (by omega)
      have z := k H2 sm
      rw [h1 et] at z
      exact z
end
end K6
namespace K6
open PySem PySem.Spec PyProof.Rows L2 LamX NdefX EV
/-- what the program asks of a thing: is it a clause of these names -/
inductive Ask (K : PySem.W.Frag) (H : Hp) (ns : List Str) : Bool → V → Prop
  | seq {b : Bool} {A : Addr} {xs : List V} {r : Bool} (t : Value) (ty : ∀ H', Same H H' → TyX K H' (.ref A) t) (kit : PySem.W.kitAny K t [.type "list", .type "tuple"] = some true) (sq : ∀ H', Same H H' → Sq K b H' A xs) (see : ∀ H', Same H H' → Seen K H' ns r xs) : Ask K H ns r (.ref A)
  | odd {x : V} (t : Value) (ty : ∀ H', Same H H' → TyX K H' x t) (kit : PySem.W.kitAny K t [.type "list", .type "tuple"] = some false) : Ask K H ns false x
theorem Ask.same {K : PySem.W.Frag} {H H' : Hp} {ns : List Str} {r : Bool} {x : V} (sm : Same H H') (a : Ask K H ns r x) : Ask K H' ns r x := by
  cases a with
  | seq t ty kit sq see => exact .seq t (fun H2 s2 => ty H2 (sm.trans s2)) kit (fun H2 s2 => sq H2 (sm.trans s2)) fun H2 s2 => see H2 (sm.trans s2)
  | odd t ty kit => exact .odd t (fun H2 s2 => ty H2 (sm.trans s2)) kit
def spIsClause (K : PySem.W.Frag) : Sp := fun vs H Q _ => ∃ (PL : Addr) (x : V) (ns : List Str) (r : Bool), vs = [.ref PL, x] ∧ H PL = some (.dK (plc ns)) ∧ ns.length ≤ 60 ∧ ns.Nodup ∧ (∀ z ∈ ns, Name1 z) ∧ Ask K H ns r x ∧ ∀ H', Same H H' → Q (.bl r) H'
section
variable {P : Program} {w : World} {K : PySem.W.Frag} {mg : Str → Option Value} {base : Heap} {f fL fW fC : Addr} {fd fdL fdW fdC : FuncData}
theorem scIsClause : FnScope ["places", "thing"] ["places", "thing"] (defScope sIsClause) := ⟨rfl, rfl, rfl, by decide +kernel, rfl, by decide +kernel, by decide +kernel⟩
theorem ok_isClause (F : Fun K "is_clause" "is_clause" sIsClause f fd) (GL : FnOk P w K mg base CX0 1 fL fdL ["thing"] (spIsList K)) (mL : mg "is_list" = some (.ref fL)) (kL : PySem.W.keepIn K (.ref fL) = true) (bL : L2.Binds K fdL ["thing"] [])
    (GW : FnOk P w K mg base CX0 2 fW fdW ["places", "things"] (spWrong K)) (mW : mg "first_wrong" = some (.ref fW)) (kW : PySem.W.keepIn K (.ref fW) = true) (bW : L2.Binds K fdW ["places", "things"] []) :
    FnOk P w K mg base CX0 3 f fd ["places", "thing"] (spIsClause K) := by
  refine F.ok scIsClause (fun vs H Q E h => ?_) (fun cdv A' outer s H vs Q E hr h => ?_)
  · obtain ⟨PL, x, ns, r, rfl, _⟩ := h
    rfl
  · obtain ⟨PL, x, ns, r, rfl, hPL, hn, nd, good, ask, k⟩ := h
    have hr1 : Room 1 _ := hr.mono (by decide)
    refine ⟨_, pss_one (ps_ret (pe_and (pe_call GL hr1 (by rfl) mL kL bL .nil pass0 (pa_cons (pv 1) pa_nil)) (pe_one (pe_cmpR op_isN (pe_call GW hr (by rfl) mW kW bW .nil pass0 (pa_cons (pv 0) (pa_cons (pv 1) pa_nil))) pe_non rfl)))), ?_⟩
    cases ask with
    | @seq b A xs _ t ty kit sq see =>
      refine ⟨_, rfl, .ref A, t, true, rfl, ty, kit, fun H1 sm1 => ⟨_, rfl, iteT ⟨_, rfl, _, rfl, PL, A, b, ns, xs, r, rfl, sm1 _ _ hPL, sq H1 sm1, (fun H2 s2 => sq H2 (sm1.trans s2)), hn, nd, good, see H1 sm1, fun H2 sm2 => ?_⟩⟩⟩
      cases r with
      | true => exact ⟨rfl, k H2 (sm1.trans sm2)⟩
      | false => exact fun i => ⟨rfl, k H2 (sm1.trans sm2)⟩
    | odd t ty kit => exact ⟨_, rfl, x, t, false, rfl, ty, kit, fun H1 sm1 => ⟨_, rfl, iteF (k H1 sm1)⟩⟩
end
end K6
/-! set(xs) of a tuple or list of distinct keys; set == set. -/
namespace EV
open PySem PySem.Spec PyProof.Rows L2
section
variable {prog : Program} {w : World} {K : Type} [DecidableEq K] [BEq K] [LawfulBEq K] {knd : KeyKind prog w K} {A : Around}
/-- the loop that fills a set from a walk: each key is new -/
theorem fill_loop {R : Result → Shared → Prop} {I : Addr} {fp wr : List Addr} {G : Array GenState → Array GenState → Prop} {n : Nat} {Pv : Nat → Value → Prop} {St : Nat → Shared → Prop}
    (W : WalksS prog w A.in1 I fp wr G n Pv St) (D : Addr) (off : D ∉ fp) (ks : List K) (len : ks.length = n) (few : n < 4000) (nd : ks.Nodup)
    (val : ∀ i v, Pv i v → ∃ k, ks[i]? = some k ∧ knd.is k v = true ∧ v.scannable = true) : ∀ (m i : Nat) (s : Shared), i + m = n → St i s → s.heap.SetOf knd D (fun j => decide (j ∈ ks.take i)) i →
      (∀ s', Moved (D :: wr) G s s' → s'.heap.SetOf knd D (fun j => decide (j ∈ ks)) n → R (.ok (.ret .none)) s') →
      codeAny (model prog w) A (.builtin "set.update.loop" ⟨[.ref D, .ref I], []⟩) R s := by
  have offw : D ∉ wr := fun h => off (W.sub _ h)
  have wide : ∀ b ∈ wr, b ∈ D :: wr := fun b hb => List.mem_cons_of_mem _ hb
  have stays : ∀ {h h' : Heap} {S : K → Bool} {c : Nat}, h.SetOf knd D S c → (∀ o, h.get? D = some o → h'.get? D = some o) → h'.SetOf knd D S c := fun x k => by
    obtain ⟨o, es, ep, t, ho, rest⟩ := x
    exact ⟨o, es, ep, t, k o ho, rest⟩
  intro m
  induction m with
  | zero =>
    intro i s sum st hS fin
    obtain rfl : i = n := sum
    refine codeAny_builtin PyProof.Rows.F.entry_set_update_loop ?_
    rw [Around.under_plainId PyProof.Rows.F.plain_set_update_loop _]
    show wpAny _ A.in1 (pyNext (.ref I) >>= _) _ _ s
    refine wpAny_bind (W.done s _ _ st fun s' mv => ?_)
    show wpAny _ A.in1 (ret Value.none) _ _ s'
    rw [← len, List.take_length] at hS
    exact wpAny_pure (fin s' (mv.mono wide) (len ▸ stays hS fun o e => mv.heap D _ offw e))
  | succ m ih =>
    intro i s sum st hS fin
    have lt : i < n := by omega
    refine codeAny_builtin PyProof.Rows.F.entry_set_update_loop ?_
    rw [Around.under_plainId PyProof.Rows.F.plain_set_update_loop _]
    show wpAny _ A.in1 (pyNext (.ref I) >>= _) _ _ s
    refine wpAny_bind (W.item i s _ _ lt st fun v s' hv st' mv => ?_)
    obtain ⟨k, hk, isk, sc⟩ := val i v hv
    have hS' : s'.heap.SetOf knd D (fun j => decide (j ∈ ks.take i)) i := stays hS fun o e => mv.heap D _ offw e
    show wpAny _ A.in1 (holding [v] (setAdd D v) >>= _) _ _ s'
    refine wpAny_bind (wpAny_holding ?_)
    unfold setAdd
    refine wpAny_holding (wpAny_bind (knd.pyHash (k := k) isk ?_))
    refine wpAny_setAddHashed_of (knd := knd) (s := { s' with toks := s'.toks + 1 }) isk sc hS' (by unfold scanBound; omega) fun h' sb hS2 => ?_
    have new : k ∉ ks.take i := fun q => by
      obtain ⟨j, hj, e⟩ := List.getElem_of_mem q
      have il := (List.getElem?_eq_some_iff.mp hk).1
      have jl : j < i := by rw [List.length_take] at hj; omega
      rw [List.getElem_take] at e
      have z : ks[j]? = some k := by rw [← e]; exact List.getElem?_eq_getElem _
      exact absurd ((List.getElem?_inj (by omega) nd).mp (z.trans hk.symm)) (by omega)
    have hS3 : h'.SetOf knd D (fun j => decide (j ∈ ks.take (i + 1))) (i + 1) := by
      refine SetOf_congr hS2 (fun j => ?_) (by rw [decide_eq_false new]; rfl)
      rw [List.take_succ, hk]
      show (decide (j ∈ ks.take i) || decide (j = k)) = decide (j ∈ ks.take i ++ [k])
      rw [← Bool.decide_or]
      exact decide_eq_decide.mpr (by rw [List.mem_append, List.mem_singleton])
    refine wpAny_pure ⟨plainId_quiet PyProof.Rows.F.plain_set_update_loop _, ih (i + 1) _ (by omega) (W.frame _ s' _ _ st' (Nat.le_succ _) fun b hb o e => ?_) hS3 fun s2 mv2 hS4 => ?_⟩
    · exact (sb.2 b fun q => off (q ▸ hb)).trans e
    · refine fin s2 (Moved.trans W.gtrans ((mv.mono wide).then_heap (Nat.le_succ _) fun b o hb e => ?_) mv2) hS4
      exact (sb.2 b fun q => hb (q ▸ List.mem_cons_self)).trans e
end
section
variable {prog : Program} {w : World} {K : Type} [DecidableEq K] [BEq K] [LawfulBEq K] {knd : KeyKind prog w K} {A : Around} {E : Value → Shared → Prop} {s : Shared}
/-- set(t), t a tuple of distinct keys -/
theorem call_setOf {l : Addr} {items : Array Value} {ks : List K} {Q : Value → Shared → Prop} (hh : A.handled = none) (hl : s.heap.IsTuple l items) (len : ks.length = items.size) (few : items.size < 4000) (nd : ks.Nodup)
    (val : ∀ (i : Nat) (v : Value), items[i]? = some v → ∃ k, ks[i]? = some k ∧ knd.is k v = true ∧ v.scannable = true)
    (h : ∀ (h' : Heap) (tk : Nat), h'.SetOf knd s.heap.objs.size (fun j => decide (j ∈ ks)) items.size → (∀ b o, b < s.heap.objs.size → s.heap.get? b = some o → h'.get? b = some o) → Q (.ref s.heap.objs.size) { s with heap := h', toks := tk }) :
    wpAny (model prog w) A (call (.type "set") [.ref l]) Q E s := by
  have made := PySem.F.called_set.made
  have subs := PySem.F.called_set.sub
  have nt := PySem.F.called_set.notType
  have cc := PySem.F.called_set.canCreate
  have tc := PySem.F.typeCall_set_1 (.ref l)
  obtain ⟨c, tl, mro⟩ := PySem.F.called_set.mro
  refine wpAny_call (codeAny_of_tree ?_)
  show wpAny _ _ (callAny (.type "set") _) _ _ _
  refine wpAny_pure ⟨Code.quiet_builtin _ (by decide +kernel), codeAny_builtin PySem.F.entry_type_call ?_⟩
  rw [Around.under_plain (weight_type_call_type "set" [.ref l] []) rfl]
  repeat (any_goals (first | assumption | wp_step))
  refine codeAny_mono (code_set_new_1 (.ref l) (E := E) (Q₁ := fun obj s₁ => ∃ led : Bool, obj = .ref s.heap.objs.size ∧ s₁ = { s with heap := s.heap.push { cls := .type "set", dict := none, data := .set #[] 0 (.fresh 0 0 led) } }) fun led => ⟨led, rfl, rfl⟩) fun res s₁ got => ?_
  match res, got with
  | .error _, got => exact got
  | .ok .next, got => exact got.elim
  | .ok .brk, got => exact got.elim
  | .ok .cont, got => exact got.elim
  | .ok (.ret _), ⟨led, e1, e2⟩ =>
  subst e1 e2
  have hS : (s.heap.push { cls := .type "set", dict := none, data := .set #[] 0 (.fresh 0 0 led) }).get? s.heap.objs.size = some { cls := .type "set", dict := none, data := .set #[] 0 (.fresh 0 0 led) } := Heap.get?_push_size _ rfl
  have hT : Shared.TypeIs { s with heap := s.heap.push { cls := .type "set", dict := none, data := .set #[] 0 (.fresh 0 0 led) } } (.ref s.heap.objs.size) "set" := ⟨_, hS, rfl⟩
  have il := PySem.F.called_set.init.lookup
  have ib := PySem.F.called_set.init.bind (.ref s.heap.objs.size)
  repeat (any_goals (first | assumption | wp_step))
  refine codeAny_mono (codeAny_call_builtin (R := wants (fun r s₂ => r = .none ∧ Q (.ref s.heap.objs.size) s₂) E) PySem.F.called_set.init.plain PySem.F.entry_set_init (check_set_init_1 hT ?_)) fun res s₂ got => ?_
  rotate_left
  · match res, got with
    | .error _, got => exact got
    | .ok .next, got => exact got.elim
    | .ok .brk, got => exact got.elim
    | .ok .cont, got => exact got.elim
    | .ok (.ret _), ⟨e1, q⟩ =>
      subst e1
      repeat (any_goals (first | assumption | wp_step))
  obtain ⟨⟨oc, od, dt, osl⟩, at0, hc, n, hd⟩ := hl
  obtain rfl : oc = .type "tuple" := hc
  obtain rfl : dt = .seq items n := hd
  have at1 : (s.heap.push { cls := .type "set", dict := none, data := .set #[] 0 (.fresh 0 0 led) }).get? l = some { cls := .type "tuple", dict := od, data := .seq items n, slots := osl } := Heap.get?_push_of_some _ at0
  have s1 := PySem.F.sub_tuple_set
  have s2 := PySem.F.sub_tuple_frozenset
  have nd1 : (Value.type "tuple" == Value.type "dict") = false := by decide
  have tup : (s.heap.push { cls := .type "set", dict := none, data := .set #[] 0 (.fresh 0 0 led) }).IsTuple l items := ⟨_, at1, rfl, n, rfl⟩
  unfold Builtin.«set.__init__» noKeywords Builtin.Frozenset.updateFrom
  generalize hPI : pyIter = PI
  wp_walk
  subst hPI
  refine wpAny_pyIter_tuple tup ?_
  refine wpAny_bind (wpAny_runValue ?_)
  have ll : l < s.heap.objs.size := Heap.lt_size at0
  have hh3 : A.in1.in1.in1.handled = none := by simp [hh]
  have up : (s.heap.push { cls := .type "set", dict := none, data := .set #[] 0 (.fresh 0 0 led) }).objs.size = s.heap.objs.size + 1 := Heap.size_push ..
  have ne : l ≠ (s.heap.push { cls := .type "set", dict := none, data := .set #[] 0 (.fresh 0 0 led) }).objs.size := by
    rw [up]
    exact Nat.ne_of_lt (Nat.lt_succ_of_lt ll)
  have off : s.heap.objs.size ∉ [(s.heap.push { cls := .type "set", dict := none, data := .set #[] 0 (.fresh 0 0 led) }).objs.size, l] := fun q => by
    rcases List.mem_cons.mp q with q | q
    · rw [up] at q
      exact Nat.ne_of_lt (Nat.lt_succ_self _) q
    · exact Nat.ne_of_gt ll (List.mem_singleton.mp q)
  refine fill_loop (knd := knd) ((Walks.tuple hh3 _ l ne items).toS) s.heap.objs.size off ks len few nd val items.size 0 _ (Nat.zero_add _) ⟨⟨_, Heap.get?_push_size _ rfl, rfl, rfl⟩, tup.push _⟩ ?_ fun s' mv hS' => ?_
  · exact SetOf_congr ((PyProof.Rows.setObjOf_fresh (knd := knd) led).setOf (Heap.get?_push_of_some _ hS) (by unfold scanBound; omega)) (fun j => (decide_eq_false (by rw [List.take_zero]; exact List.not_mem_nil)).symm) rfl
  · obtain ⟨h', g', d', tk', os'⟩ := s'
    obtain rfl : g' = s.gens := mv.gens
    obtain rfl : d' = s.drawn := mv.drawn
    obtain rfl : os' = s.os := mv.os
    show wpAny _ _ _ _ _ _
    refine wpAny_pure ?_
    show wpAny _ _ (ret Value.none) _ _ _
    refine wpAny_pure ⟨rfl, h h' tk' hS' fun b o hb e => ?_⟩
    refine mv.heap b o (fun q => ?_) (Heap.get?_push_of_some _ (Heap.get?_push_of_some _ e))
    rcases List.mem_cons.mp q with q | q
    · exact Nat.ne_of_lt hb q
    · have z := List.mem_singleton.mp q
      rw [up] at z
      exact Nat.ne_of_lt (Nat.lt_succ_of_lt hb) z
end
theorem entry_setEq : entryFor table "set.__eq__" = some Builtin.«frozenset.__eq__» :=
  entryFor_alias (id' := "frozenset.__eq__") (by kernel_rfl) rfl (by decide +kernel) (by kernel_rfl)
section
variable {prog : Program} {w : World} {K : Type} [DecidableEq K] [BEq K] [LawfulBEq K] {knd : KeyKind prog w K} {A : Around} {E : Value → Shared → Prop} {s : Shared}
theorem quiet_of {M : Model} {x : Value} {Q : Bool → Shared → Prop} (h : x.scannable = true) (k : Q true s) : wpAny M A (Builtin.Frozenset.quietEq x) Q E s := by
  cases x <;> first | exact wpAny_pure k | exact Bool.noConfusion h
/-- is one set part of the other -/
theorem sub_sets {nm : String} {a b : Addr} {S T : K → Bool} {n m : Nat} {r : Bool} {Q : Bool → Shared → Prop} (ha : s.heap.SetOf knd a S n) (hb : s.heap.SetOf knd b T m) (le : n ≤ m) (hr : r = true ↔ ∀ k, S k = true → T k = true) (h : Q r s) :
    wpAny (model prog w) A (Builtin.Frozenset.subsetOf nm a b) Q E s := by
  obtain ⟨oa, es, ep, ta, hoa, hxa, hda, hka, hma, hba, hfa, rfl⟩ := id ha
  obtain ⟨ob, es', ep', tb, hob, hxb, hdb, hkb, hmb, hbb, hfb, rfl⟩ := id hb
  unfold Builtin.Frozenset.subsetOf Builtin.Frozenset.sizeOf
  refine wpAny_bind (wpAny_bind (wpAny_setEntries_of hoa hda hfa (wpAny_pure ?_)))
  refine wpAny_bind (wpAny_bind (wpAny_setEntries_of hob hdb hfb (wpAny_pure ?_)))
  rw [if_neg (Nat.not_lt.mpr le)]
  refine wpAny_bind (wpAny_setEpoch_of hoa hda hfa ?_)
  refine wpAny_bind ?_
  unfold Builtin.Frozenset.walkUnseen
  refine wpAny_bind (wpAny_setEntries_of hoa hda hfa ?_)
  refine wpAny_bind (wpAny_setEntries_of hob hdb hfb ?_)
  refine wpAny_bind (wpAny_forIn_list _ (fun rest q s' => s' = s ∧ q = (none, ()) ∧ ∀ e ∈ rest, e.2.scannable = true) _ ?_ ?_ _ _ ⟨rfl, rfl, fun e he => (List.mem_append.mp he).elim (fun z => (hka e z).2) fun z => (hkb e z).2⟩)
  · rintro ⟨hx, x⟩ rest q s1 ⟨rfl, rfl, sc⟩
    refine wpAny_bind (quiet_of (sc _ List.mem_cons_self) ?_)
    rw [if_neg (by decide)]
    exact wpAny_pure ⟨rfl, rfl, fun e he => sc e (List.mem_cons_of_mem _ he)⟩
  · rintro q s1 ⟨rfl, rfl, _⟩
    refine wpAny_pure ?_
    refine wpAny_bind (wpAny_forIn_list _ (fun rest q s' => s' = s1 ∧ q = (none, ()) ∧ (∀ e ∈ rest, e ∈ es.toList) ∧ ((∀ e ∈ rest, ∀ k, knd.is k e.2 = true → T k = true) → r = true)) _ ?_ ?_ _ _ ⟨rfl, rfl, fun e he => he, fun z => hr.2 fun k hk => ?_⟩)
    · rintro ⟨hx, x⟩ rest q s2 ⟨rfl, rfl, sub, up⟩
      obtain ⟨⟨k, isk, rfl⟩, sc⟩ := hka _ (sub _ List.mem_cons_self)
      refine wpAny_bind (wpAny_holding (wpAny_setFind_of isk sc hb fun i hi => ?_))
      have inS : S k = true := (hma k).2 ⟨_, sub _ List.mem_cons_self, isk⟩
      cases hT : T k with
      | true =>
        rw [hT] at hi
        obtain ⟨j, rfl⟩ := Option.isSome_iff_exists.mp hi
        rw [if_neg (by simp)]
        unfold Builtin.Frozenset.unchanged
        refine wpAny_bind (wpAny_bind (wpAny_setEpoch_of hoa hda hfa ?_))
        rw [if_neg (by simp)]
        refine wpAny_pure (wpAny_pure ⟨rfl, rfl, fun e he => sub e (List.mem_cons_of_mem _ he), fun z => up fun e he => ?_⟩)
        rcases List.mem_cons.mp he with rfl | he
        · intro k' hk'
          obtain rfl := knd.inj _ _ _ hk' isk
          exact hT
        · exact z e he
      | false =>
        rw [hT] at hi
        obtain rfl : i = none := by simpa using hi
        rw [if_pos (show (none : Option Nat).isNone = true from rfl)]
        have rf : r = false := by
          cases r with
          | false => rfl
          | true => exact absurd (hr.1 rfl k inS) (by rw [hT]; decide)
        rw [rf] at h
        exact wpAny_pure (wpAny_pure h)
    · rintro q s2 ⟨rfl, rfl, _, up⟩
      have rt : r = true := up fun e he => nomatch he
      rw [rt] at h
      exact wpAny_pure h
    · obtain ⟨e, he, q⟩ := (hma k).1 hk
      exact z e he k q
end
end EV
/-! set == set. -/
namespace EV
open PySem PySem.Spec PyProof.Rows L2
section
variable {prog : Program} {w : World} {K : Type} [DecidableEq K] [BEq K] [LawfulBEq K] {knd : KeyKind prog w K} {A : Around} {E : Value → Shared → Prop} {s : Shared}
/-- set == set -/
theorem eq_sets {a b : Addr} {S T : K → Bool} {n m : Nat} {r : Bool} {Q : Value → Shared → Prop} (hu : A.units < cLine) (ha : s.heap.SetOf knd a S n) (hb : s.heap.SetOf knd b T m) (hr : r = true ↔ n = m ∧ ∀ k, S k = true → T k = true) (h : Q (.bool r) s) :
    wpAny (model prog w) A (richCompare .Eq (.ref a) (.ref b)) Q E s := by
  refine wpAny_richCompare_same_room (op := .Eq) ha.typeIs hb.typeIs PySem.F.slot_set_eq (wpAny_call_entry PySem.F.slot_set_eq ha.typeIs entry_setEq ?_ (PySem.F.args_set_eq_2 _ _)) hu
  unfold Builtin.«frozenset.__eq__»
  wp_delta
  refine wpAny_bind ?_
  unfold Builtin.Frozenset.slot1 slotArgs
  simp only [List.isEmpty_nil, Bool.not_true, Bool.false_eq_true, ↓reduceIte, bind_assoc, List.length_cons, List.length_nil, bne_self_eq_false]
  refine wpAny_bind (wpAny_pure ?_)
  try dsimp only
  refine wpAny_pure ?_
  try dsimp only
  unfold Builtin.Frozenset.isAnySet
  refine wpAny_bind ?_
  unfold orM
  refine wpAny_bind (wpAny_isInstance (b := true) hb.typeIs PySem.F.sub_set_set ?_)
  refine wpAny_pure ?_
  rw [if_neg (by decide)]
  unfold Builtin.Frozenset.addrOf Builtin.Frozenset.sizeOf
  refine wpAny_bind (wpAny_pure ?_)
  refine wpAny_bind (wpAny_pure ?_)
  obtain ⟨oa, es, ep, ta, hoa, hxa, hda, hka, hma, hba, hfa, rfl⟩ := id ha
  obtain ⟨ob, es', ep', tb, hob, hxb, hdb, hkb, hmb, hbb, hfb, rfl⟩ := id hb
  refine wpAny_bind (wpAny_bind (wpAny_setEntries_of hoa hda hfa (wpAny_pure ?_)))
  refine wpAny_bind (wpAny_bind (wpAny_setEntries_of hob hdb hfb (wpAny_pure ?_)))
  refine wpAny_bind ?_
  by_cases e : es.size = es'.size
  · rw [if_neg (by rw [e]; simp)]
    refine wpAny_bind ?_
    unfold andM
    refine wpAny_bind (wpAny_isInstance (b := false) ha.typeIs PySem.F.sub_set_frozenset ?_)
    refine wpAny_pure ?_
    rw [if_neg (by decide)]
    refine sub_sets (r := r) ha hb (Nat.le_of_eq e) (hr.trans ⟨fun z => z.2, fun z => ⟨e, z⟩⟩) ?_
    exact wpAny_pure ⟨_, rfl, (fun z => nomatch z), h⟩
  · rw [if_pos (by simpa using e)]
    have rf : r = false := by
      cases r with
      | false => rfl
      | true => exact absurd (hr.1 rfl).1 e
    rw [rf] at h
    exact wpAny_pure (wpAny_pure ⟨_, rfl, (fun z => nomatch z), h⟩)
end
end EV
/-! set(t) of a tuple of distinct texts, == of such sets, as rules. -/
namespace EV
open PySem PySem.Spec PyProof.Rows L2
/-- the set of these texts, distinct -/
def SetX (P : Program) (w : World) (a : Addr) (xs : List Str) : HO := .ext fun h => h.SetOf (PySem.strKind P w) a (fun j => decide (j ∈ xs)) xs.length
theorem setX_new {P : Program} {w : World} {H : Hp} {h : Heap} {a : Addr} {xs : List Str} (R : h.SetOf (PySem.strKind P w) a (fun j => decide (j ∈ xs)) xs.length) : ObjOk P w H h a (SetX P w a xs) := by
  have ⟨o, _, _, _, ho, _⟩ := R
  exact ⟨R, ⟨o, ho⟩, fun h1 h2 p k => by
    obtain ⟨o, es, ep, t, ho, r⟩ := p
    exact ⟨o, es, ep, t, k o ho, r⟩⟩
theorem txt_at : ∀ {xs : List Str} {us : List Value}, Vals (xs.map V.str) us → ∀ (i : Nat) (v : Value), us[i]? = some v → ∃ k t, xs[i]? = some k ∧ v = .str k t
  | [], _, .nil, i, v, h => by simp at h
  | x :: xs, _, .cons ⟨t, e⟩ r, 0, v, h => ⟨x, t, rfl, (Option.some.inj h).symm.trans e⟩
  | x :: xs, _, .cons _ r, i + 1, v, h => txt_at r i v h
section
variable {X : Cx}
def rSetX (K : PySem.W.Frag) (P : Program) (w : World) : List V → Hp → VK → Prop := fun vs H Q => ∃ (l : Addr) (xs : List Str), vs = [V.ref l] ∧ SqT K H l (xs.map V.str) ∧ xs.Nodup ∧ xs.length < 4000 ∧ ∀ a, H a = none → Q (.ref a) (upd H a (SetX P w a xs))
theorem cr_setX (hc : X.calm = true) : CallR X (.type "set") (rSetX X.K X.prog X.w) := by
  intro pins s σ H vs us Q I r h
  obtain ⟨l, xs, rfl, hl, nd, few, q⟩ := h
  rw [Vals.ref1 r]
  obtain ⟨its, rv, p, hz⟩ := I.tuple hl
  have hp : s.heap.IsTuple l its.toArray := p
  have len : xs.length = its.length := by
    have z := rv.length
    rwa [List.length_map] at z
  refine call_setOf (knd := PySem.strKind X.prog X.w) (ks := xs) (I.ok.hd hc) hp (by simpa using len) (by simp; omega) nd (fun i v hv => ?_) fun h' tk R k => ?_
  · obtain ⟨k, t, h1, rfl⟩ := txt_at rv i v (by simpa using hv)
    exact ⟨k, h1, strKind_is _ _ _ _, rfl⟩
  · have R2 : h'.SetOf (PySem.strKind X.prog X.w) s.heap.objs.size (fun j => decide (j ∈ xs)) xs.length := by
      have e : its.toArray.size = xs.length := by simpa using len.symm
      rw [← e]
      exact R
    exact ⟨.ref s.heap.objs.size, upd H s.heap.objs.size (SetX X.prog X.w s.heap.objs.size xs), I.laid (t' := tk) (fun b u e => k b u (Heap.lt_size e) e) (Nat.le_refl _) (setX_new R2), rfl, q _ (I.hok.fresh (Nat.le_refl _))⟩
/-- do two lists of distinct texts have the same members -/
def sameMem (xs ys : List Str) : Bool := xs.length == ys.length && xs.all fun x => decide (x ∈ ys)
theorem sameMem_iff {xs ys : List Str} : sameMem xs ys = true ↔ xs.length = ys.length ∧ ∀ x ∈ xs, x ∈ ys := by
  unfold sameMem
  rw [Bool.and_eq_true, beq_iff_eq, List.all_eq_true]
  exact ⟨fun h => ⟨h.1, fun x hx => of_decide_eq_true (h.2 x hx)⟩, fun h => ⟨h.1, fun x hx => decide_eq_true (h.2 x hx)⟩⟩
def rEqX (P : Program) (w : World) : V → V → Hp → VK → Prop := fun x y H Q => ∃ (a b : Addr) (xs ys : List Str), x = .ref a ∧ y = .ref b ∧ H a = some (SetX P w a xs) ∧ H b = some (SetX P w b ys) ∧ Q (.bl (sameMem xs ys)) H
theorem op_eqX (hu : X.A.units < cLine) : OpR X (compareOp .Eq) (rEqX X.prog X.w) := by
  intro pins s σ H x y v u Q I rx ry h
  obtain ⟨a, b, xs, ys, rfl, rfl, ha, hb, q⟩ := h
  obtain rfl : v = Value.ref a := rx
  obtain rfl : u = Value.ref b := ry
  have ra : s.heap.SetOf (PySem.strKind X.prog X.w) a (fun j => decide (j ∈ xs)) xs.length := (I.hok a _ ha).1
  have rb : s.heap.SetOf (PySem.strKind X.prog X.w) b (fun j => decide (j ∈ ys)) ys.length := (I.hok b _ hb).1
  show wpAny (model X.prog X.w) X.A (richCompare .Eq (.ref a) (.ref b)) (EP X pins σ Q) X.xe s
  refine eq_sets (r := sameMem xs ys) hu ra rb (sameMem_iff.trans ?_) ⟨.bl (sameMem xs ys), H, I, rfl, q⟩
  refine ⟨fun h => ⟨h.1, fun k hk => decide_eq_true (h.2 k (of_decide_eq_true hk))⟩, fun h => ⟨h.1, fun x hx => of_decide_eq_true (h.2 x (decide_eq_true hx))⟩⟩
end
end EV
/-! len, in, == and != of instances with methods of their own for them: any answer. -/
namespace EV
open PySem PySem.Spec PyProof.Rows L2
section
variable {X : Cx} {CX : CXT} {n : Nat} {C f : Addr} {fd : FuncData} {ps : List Str} {sp : Sp} {E : XK}
/-- an own function, called by the machine with values that stand for these -/
theorem own_call {A : Around} {pins : List (Addr × Obj)} {σ : L2.St} {H : Hp} {s : Shared} {vs : List V} {us : List Value} {Q : VK} (sb : L2.Sub X n A) (I : Inv X pins σ H s) (F : FnOk X.prog X.w X.K X.mg X.base CX n f fd ps sp) (hb : L2.Binds X.K fd ps []) (hx : Passes CX X E) (r : Vals vs us) (hsp : sp vs H Q E) :
    wpAny (model X.prog X.w) A (call (.ref f) us) (fun v s' => ∃ z H', Inv X pins σ H' s' ∧ RelV z v ∧ Q z H') X.xe s := by
  have e0 : Env0 X.prog X.w X.K X.mg X.base A X.stack s H := by
    have e := I.env0
    exact ⟨by rw [sb.fr]; exact e.frames, e.mod, e.bs, e.bsz, e.funs, e.frf, e.hok, e.bare⟩
  have hl := F.len _ _ _ _ hsp
  have hl2 : us.length = ps.length := r.length.symm.trans hl
  refine wpAny_call (codeAny_mono (F.run A X.stack s H ⟨us, []⟩ us vs _ E sb.room e0 (by
    have z := hb s us I.kIn (by simpa using hl2)
    simpa using z) r hsp) fun r s' hq => ?_)
  cases r with
  | error e => exact hx pins σ H s e s' I hq
  | ok fl =>
    cases fl with
    | ret w =>
      obtain ⟨z, H', I', rz, q⟩ := I.after hq
      exact ⟨z, H', I', rz, q⟩
    | next => exact False.elim hq
    | brk => exact False.elim hq
    | cont => exact False.elim hq
/-- what an own method for a question asks: it answers with a truth value -/
def rOwn (C : Addr) (sp : Sp) (E : XK) (x y : V) (H : Hp) (Q : Bool → Hp → Prop) : Prop := ∃ a dx fs, x = .ref a ∧ H a = some (.ins C dx fs) ∧ sp [.ref a, y] H (fun v H' => ∃ b, v = .bl b ∧ Q b H') E
theorem op_inOwn (F : FnOk X.prog X.w X.K X.mg X.base CX n f fd ps sp) (hs : PySem.W.findIn X.K (.ref C) "__contains__" = some (some (.ref f))) (hf : PySem.W.isFn X.K (.ref f) = true) (hb : L2.Binds X.K fd ps []) (hx : Passes CX X E) (hr : Room n X.A) :
    OpR X (compareOp .In) fun x y H Q => rOwn C sp E y x H fun b H' => Q (.bl b) H' := by
  intro pins s σ H x y v u Q I rx ry h
  obtain ⟨a, dx, fs, rfl, ha, hsp⟩ := h
  obtain rfl : u = Value.ref a := ry
  obtain ⟨mA, J, _⟩ := ins_get I.hok ha
  obtain ⟨od, J, _⟩ := J.look
  obtain ⟨m, hF⟩ := I.fr
  refine PySem.W.in_K hF I.ok.mod.kin J hs hf (wpAny_mono (own_call (Q := fun v H' => ∃ b, v = .bl b ∧ Q (.bl b) H') ⟨hr, rfl⟩ I F hb hx (.cons (show RelV (.ref a) (.ref a) from rfl) (.cons rx .nil)) hsp) (fun w s' z => ?_) fun _ _ e => e)
  obtain ⟨z, H', I', rz, b, rfl, q⟩ := z
  obtain rfl : w = Value.bool b := rz
  exact wpAny_truthy_bool ⟨.bl b, H', I', rfl, q⟩
theorem call_lenOwn (F : FnOk X.prog X.w X.K X.mg X.base CX n f fd ps sp) (hs : PySem.W.findIn X.K (.ref C) "__len__" = some (some (.ref f))) (hf : PySem.W.isFn X.K (.ref f) = true) (hb : L2.Binds X.K fd ps []) (hx : Passes CX X E) (hr : Room (n + 1) X.A) :
    CallR X (.builtin "len") fun vs H Q => ∃ a dx fs, vs = [.ref a] ∧ H a = some (.ins C dx fs) ∧ sp [.ref a] H (fun v H' => ∃ k : Nat, v = .int (k : Int) ∧ k < 1000000 ∧ Q (.int (k : Int)) H') E := by
  intro pins s σ H xs us Q I r h
  obtain ⟨a, dx, fs, rfl, ha, hsp⟩ := h
  obtain ⟨u, rfl, ru⟩ := vals1 r
  obtain rfl : u = Value.ref a := ru
  obtain ⟨mA, J, _⟩ := ins_get I.hok ha
  obtain ⟨od, J, _⟩ := J.look
  obtain ⟨m, hF⟩ := I.fr
  have sb : L2.Sub X (n + 1) X.A := ⟨hr, rfl⟩
  refine PySem.W.len_K hF I.ok.mod.kin J hs hf (wpAny_mono (own_call (Q := fun v H' => ∃ k : Nat, v = .int (k : Int) ∧ k < 1000000 ∧ Q (.int (k : Int)) H') sb.in1 I F hb hx (.cons (show RelV (.ref a) (.ref a) from rfl) .nil) hsp) (fun w s' z => ?_) fun _ _ e => e)
  obtain ⟨z, H', I', rz, k, rfl, lt, q⟩ := z
  obtain ⟨t, rfl⟩ := rz
  exact ⟨⟨by omega, by omega⟩, .int (k : Int), H', I'.tok _, ⟨_, rfl⟩, q⟩
/-- ==, the left one an instance whose class has a method of its own for it; the other one of a class that does not come first -/
theorem op_eqOwn (F : FnOk X.prog X.w X.K X.mg X.base CX n f fd ps sp) (hs : PySem.W.findIn X.K (.ref C) "__eq__" = some (some (.ref f))) (hf : PySem.W.isFn X.K (.ref f) = true) (hb : L2.Binds X.K fd ps []) (hx : Passes CX X E) (hr : Room n X.A) :
    OpR X (compareOp .Eq) fun x y H Q => ∃ t, TyX X.K H y t ∧ PySem.W.notFirst X.K C t = true ∧ rOwn C sp E x y H fun b H' => Q (.bl b) H' := by
  intro pins s σ H x y v u Q I rx ry h
  obtain ⟨t, ty, nf, a, dx, fs, rfl, ha, hsp⟩ := h
  obtain rfl : v = Value.ref a := rx
  obtain ⟨mA, J, _⟩ := ins_get I.hok ha
  obtain ⟨od, J, _⟩ := J.look
  obtain ⟨m, hF⟩ := I.fr
  obtain ⟨P, Z, hP, _⟩ := kit_of I ry ty
  show wpAny (model X.prog X.w) X.A (richCompare .Eq (.ref a) u) (EP X pins σ Q) X.xe s
  refine PySem.W.cmp_K (op := .Eq) (tb := t) hr.units0 hF I.ok.mod.kin J (Z.ty _ _ I.kIn hP) nf hs hf (wpAny_mono (own_call (Q := fun v H' => ∃ b, v = .bl b ∧ Q (.bl b) H') ⟨hr, rfl⟩ I F hb hx (.cons (show RelV (.ref a) (.ref a) from rfl) (.cons ry .nil)) hsp) (fun w s' z => ?_) fun _ _ e => e)
  obtain ⟨z, H', I', rz, b, rfl, q⟩ := z
  obtain rfl : w = Value.bool b := rz
  exact ⟨.bl b, H', I', rfl, q⟩
end
end EV
/-! != of instances by object.__ne__ and an own __eq__; of things of built-in types and an instance. -/
namespace EV
open PySem PySem.Spec PyProof.Rows L2
open AutoSeq1 (wpAny_loadPart')
section
variable {M : Model} {prog : Program} {w : World} {A : Around} {E : Value → Shared → Prop} {s : Shared} {K : PySem.W.Frag} {x C dx : Addr} {od : Option Obj}
theorem not_inst {T : String} {Q : Bool → Shared → Prop} (X : K.In s.heap) (at0 : s.heap.get? x = some (PySem.W.instObj C dx)) (e : PySem.W.subIn K (.ref C) (.type T) = some false) (h : Q false s) : wpAny M A (isInstance (.ref x) (.type T)) Q E s := by
  unfold isInstance
  exact wpAny_bind (wpAny_typeOf_ref at0 ((PySem.W.looks_subIn X e).here h))
theorem no_str {Q : Option Str → Shared → Prop} (at0 : s.heap.get? x = some (PySem.W.instObj C dx)) (h : Q none s) : wpAny M A (asStr? (.ref x)) Q E s := by
  unfold asStr?
  exact wpAny_bind (wpAny_load at0 (wpAny_pure h))
theorem no_int {Q : Option Int → Shared → Prop} (at0 : s.heap.get? x = some (PySem.W.instObj C dx)) (h : Q none s) : wpAny M A (asInt? (.ref x)) Q E s := by
  unfold asInt?
  exact wpAny_bind (wpAny_load at0 (wpAny_pure h))
theorem ne_none {Q : Value → Shared → Prop} (h : Q .notImplemented s) : wpAny (model prog w) A (call (.builtin "NoneType.__ne__") [.none, .ref x]) Q E s :=
  call_gives F.slot_NoneType_ne rfl F.entry_NoneType_ne (F.args_NoneType_ne_2 _ _) (PySem.SeqAt.NoneType___ne___none_ref_0 x) h
theorem ne_int {i : Int} {t : Tok} {Q : Value → Shared → Prop} (at0 : s.heap.get? x = some (PySem.W.instObj C dx)) (h : Q .notImplemented s) : wpAny (model prog w) A (call (.builtin "int.__ne__") [.int i t, .ref x]) Q E s := by
  refine wpAny_call_entry F.slot_int_ne (show s.TypeIs (.int i t) "int" from typeIs_int s i t) F.entry_int_ne ?_ (F.args_int_ne_2 _ _)
  obtain ⟨hp, g, d, tk, os⟩ := s
  wp_walk using wpAny_load at0
  exact ⟨_, rfl, h⟩
theorem ne_str {y : Str} {t : Tok} {Q : Value → Shared → Prop} (at0 : s.heap.get? x = some (PySem.W.instObj C dx)) (h : Q .notImplemented s) : wpAny (model prog w) A (call (.builtin "str.__ne__") [.str y t, .ref x]) Q E s := by
  refine wpAny_call_entry F.slot_str_ne (show s.TypeIs (.str y t) "str" from typeIs_str s y t) F.entry_str_ne ?_ (F.args_str_ne_2 _ _)
  obtain ⟨hp, g, d, tk, os⟩ := s
  wp_walk using wpAny_load at0
  exact ⟨_, rfl, h⟩
theorem ne_list {l : Addr} {Q : Value → Shared → Prop} (X : K.In s.heap) (at0 : s.heap.get? x = some (PySem.W.instObj C dx)) (e : PySem.W.subIn K (.ref C) (.type "list") = some false) (hl : s.TypeIs (.ref l) "list") (h : Q .notImplemented s) :
    wpAny (model prog w) A (call (.builtin "list.__ne__") [.ref l, .ref x]) Q E s := by
  refine wpAny_call_entry F.slot_list_ne hl F.entry_list_ne ?_ (F.args_list_ne_2 _ _)
  wp_walk using not_inst X at0 e
  exact ⟨_, rfl, h⟩
theorem ne_tuple {l : Addr} {Q : Value → Shared → Prop} (X : K.In s.heap) (at0 : s.heap.get? x = some (PySem.W.instObj C dx)) (e : PySem.W.subIn K (.ref C) (.type "tuple") = some false) (hl : s.TypeIs (.ref l) "tuple") (h : Q .notImplemented s) :
    wpAny (model prog w) A (call (.builtin "tuple.__ne__") [.ref l, .ref x]) Q E s := by
  refine wpAny_call_entry F.slot_tuple_ne hl F.entry_tuple_ne ?_ (F.args_tuple_ne_2 _ _)
  wp_walk using not_inst X at0 e
  exact ⟨_, rfl, h⟩
theorem ne_dict {l : Addr} {Q : Value → Shared → Prop} (X : K.In s.heap) (at0 : s.heap.get? x = some (PySem.W.instObj C dx)) (e : PySem.W.subIn K (.ref C) (.type "dict") = some false) (hl : s.TypeIs (.ref l) "dict") (h : Q .notImplemented s) :
    wpAny (model prog w) A (call (.builtin "dict.__ne__") [.ref l, .ref x]) Q E s := by
  refine wpAny_call_entry F.slot_dict_ne hl F.entry_dict_ne ?_ (F.args_dict_ne_2 _ _)
  show wpAny _ _ (Builtin.Dict.dictSlotArgs "__ne__" ⟨[.ref l, .ref x], []⟩ >>= _) _ _ s
  refine wpAny_bind ?_
  unfold Builtin.Dict.dictSlotArgs
  refine wpAny_bind (wpAny_notOrdered_dict hl ?_)
  show wpAny _ _ (pure (Value.ref l, Value.ref x)) _ _ s
  refine wpAny_pure ?_
  refine wpAny_bind (not_inst X at0 e ?_)
  rw [if_pos (by decide)]
  exact wpAny_bind (wpAny_rule (wpAny_pure ⟨_, rfl, h⟩))
/-- object.__ne__ of an instance asks its own __eq__ -/
theorem call_objNe {f : Addr} {b : Value} {ox : Obj} {Q : Value → Shared → Prop} (hu : A.units + 1 < cLine) (X : K.In s.heap) (I : PySem.W.InstAt s.heap x ox C od) (hm : PySem.W.mroIn K C (.type "object") = some true) (hs : PySem.W.findIn K (.ref C) "__eq__" = some (some (.ref f))) (hf : PySem.W.isFn K (.ref f) = true)
    (h : wpAny (model prog w) A.in1 (call (.ref f) [.ref x, b]) (fun v s' => ∃ r, v = .bool r ∧ Q (.bool (!r)) s') E s) : wpAny (model prog w) A (call (.builtin "object.__ne__") [.ref x, b]) Q E s := by
  refine wpAny_call (codeAny_call_builtin F.cmp_object.ne.plain F.cmpEntry_ne (PySem.W.check_slot F.cmpKind_ne F.cmpSplit_ne (I.type.andThen (PySem.W.looks_mroIn X hm)) (F.cmpArgs_ne _ _) ?_))
  unfold Builtin.«object.__ne__»
  refine wpAny_bind (m := slotArgs "__ne__" 1 ⟨[.ref x, b], []⟩) (wpAny_pure ?_)
  dsimp only
  refine wpAny_bind (wpAny_cRoomFor hu ?_)
  refine wpAny_bind (PySem.W.ifBound_K X I hs hf (wpAny_mono h (fun v s' hv => ?_) fun _ _ e => e))
  obtain ⟨r, rfl, q⟩ := hv
  show wpAny _ _ (truthy (Value.bool r) >>= _) _ _ _
  refine wpAny_bind (wpAny_truthy_bool ?_)
  exact wpAny_pure q
theorem bound_ne {args : List Value} {ox : Obj} {Q : Option Value → Shared → Prop} (X : K.In s.heap) (I : PySem.W.InstAt s.heap x ox C od) (hs : PySem.W.findIn K (.ref C) "__ne__" = some (some (.builtin "object.__ne__")))
    (h : wpAny M A (call (.builtin "object.__ne__") (.ref x :: args)) (fun v => Q (some v)) E s) : wpAny M A (callSpecialIfBound? (.ref x) "__ne__" args) Q E s := by
  simp only [callSpecialIfBound?, bindSpecialIfBound?]
  refine wpAny_holding (wpAny_bind (wpAny_bind (wpAny_bind (I.type.here ((PySem.W.looks_findIn X hs).here ?_)))))
  have last : wpAny M A (call (.builtin "object.__ne__") ([.ref x] ++ args) >>= fun v => pure (some v)) Q E s := wpAny_bind (wpAny_mono h (fun v s' q => wpAny_pure q) fun _ _ q => q)
  refine wpAny_bind (wpAny_askSetting (wpAny_ite ?_))
  split
  · exact wpAny_bind (wpAny_of_eq (F.cmp_object.ne.bind _) (wpAny_pure (by exact last)))
  · exact wpAny_tryCatch (wpAny_bind (wpAny_of_eq (F.cmp_object.ne.bind _) (wpAny_pure (by exact last))))
/-- x.__ne__(b), x an instance -/
theorem try_ne {f : Addr} {b : Value} {ox : Obj} {Q : Value → Shared → Prop} (hu : A.units + 1 < cLine) (X : K.In s.heap) (I : PySem.W.InstAt s.heap x ox C od) (hm : PySem.W.mroIn K C (.type "object") = some true) (hs : PySem.W.findIn K (.ref C) "__eq__" = some (some (.ref f))) (hf : PySem.W.isFn K (.ref f) = true) (hn : PySem.W.findIn K (.ref C) "__ne__" = some (some (.builtin "object.__ne__")))
    (h : wpAny (model prog w) A.in1 (call (.ref f) [.ref x, b]) (fun v s' => ∃ r, v = .bool r ∧ Q (.bool (!r)) s') E s) : wpAny (model prog w) A (tryCompare (.ref x) "__ne__" b) (fun r s' => ∃ v, r = some v ∧ Q v s') E s := by
  unfold tryCompare
  refine wpAny_bind (bound_ne X I hn (call_objNe hu X I hm hs hf (wpAny_mono h (fun v s' hv => ?_) fun _ _ e => e)))
  obtain ⟨r, rfl, q⟩ := hv
  exact ⟨r, rfl, wpAny_pure ⟨_, rfl, q⟩⟩
/-- x != b, x an instance -/
theorem rc_neL {f : Addr} {b tb : Value} {ox : Obj} {Q : Value → Shared → Prop} (hu : A.units + 1 < cLine) (X : K.In s.heap) (I : PySem.W.InstAt s.heap x ox C od) (hb : PySem.W.Looks (model prog w) s.heap (typeOf b) tb) (nf : PySem.W.notFirst K C tb = true) (hm : PySem.W.mroIn K C (.type "object") = some true) (hs : PySem.W.findIn K (.ref C) "__eq__" = some (some (.ref f))) (hf : PySem.W.isFn K (.ref f) = true) (hn : PySem.W.findIn K (.ref C) "__ne__" = some (some (.builtin "object.__ne__")))
    (h : wpAny (model prog w) A.in1 (call (.ref f) [.ref x, b]) (fun v s' => ∃ r, v = .bool r ∧ Q (.bool (!r)) s') E s) : wpAny (model prog w) A (richCompare .NotEq (.ref x) b) Q E s := by
  have one := try_ne hu X I hm hs hf hn h
  unfold richCompare
  simp only [oneThing_ref]
  refine wpAny_holding (wpAny_bind (wpAny_cRoomFor (Nat.lt_of_succ_lt hu) ?_))
  rw [cmpInfo_NotEq]
  dsimp only
  refine wpAny_bind (I.type.here (wpAny_bind (hb.here ?_)))
  split
  · rename_i q
    have e : PySem.W.subIn K tb (.ref C) = some false := by
      rcases Bool.or_eq_true_iff.mp nf with e | e
      · rw [beq_iff_eq.mp e] at q
        simp at q
      · exact beq_iff_eq.mp e
    refine wpAny_bind ((PySem.W.looks_subIn X e).here ?_)
    simp only [Bool.false_eq_true, if_false]
    refine wpAny_bind (wpAny_mono one (fun r s' z => ?_) fun _ _ e => e)
    obtain ⟨v, rfl, hq⟩ := z
    exact wpAny_pure hq
  · refine wpAny_bind (wpAny_pure ?_)
    simp only [Bool.false_eq_true, if_false]
    refine wpAny_bind (wpAny_mono one (fun r s' z => ?_) fun _ _ e => e)
    obtain ⟨v, rfl, hq⟩ := z
    exact wpAny_pure hq
/-- a != x, a of a built-in type whose __ne__ declines -/
theorem rc_neR {f : Addr} {a : Value} {T id : String} {ox : Obj} {Q : Value → Shared → Prop} (hu : A.units + 1 < cLine) (X : K.In s.heap) (I : PySem.W.InstAt s.heap x ox C od) (ha : s.TypeIs a T) (one : oneThing? .NotEq a (.ref x) = none) (ns : PySem.W.subIn K (.ref C) (.type T) = some false) (sl : Slot T "__ne__" id) (dec : ∀ (Q : Value → Shared → Prop), Q .notImplemented s → wpAny (model prog w) A (call (.builtin id) [a, .ref x]) Q E s)
    (hm : PySem.W.mroIn K C (.type "object") = some true) (hs : PySem.W.findIn K (.ref C) "__eq__" = some (some (.ref f))) (hf : PySem.W.isFn K (.ref f) = true) (hn : PySem.W.findIn K (.ref C) "__ne__" = some (some (.builtin "object.__ne__")))
    (h : wpAny (model prog w) A.in1 (call (.ref f) [.ref x, a]) (fun v s' => ∃ r, v = .bool r ∧ Q (.bool (!r)) s') E s) : wpAny (model prog w) A (richCompare .NotEq a (.ref x)) Q E s := by
  have two := try_ne hu X I hm hs hf hn h
  unfold richCompare
  simp only [one]
  refine wpAny_holding (wpAny_bind (wpAny_cRoomFor (Nat.lt_of_succ_lt hu) ?_))
  rw [cmpInfo_NotEq]
  dsimp only
  refine wpAny_bind (wpAny_typeOf ha (wpAny_bind (I.type.here ?_)))
  have rest : wpAny (model prog w) A (do
      if let some v ← tryCompare a "__ne__" (.ref x) then return v
      if let some v ← tryCompare (.ref x) "__ne__" a then return v
      rule "compare.ne-identity"; return .bool (!(← isSame a (.ref x)))) Q E s := by
    refine wpAny_bind (wpAny_tryCompare_declines ha sl (dec _ ⟨rfl, ?_⟩))
    refine wpAny_bind (wpAny_mono two (fun r s' z => ?_) fun _ _ e => e)
    obtain ⟨v, rfl, hq⟩ := z
    exact wpAny_pure hq
  split
  · refine wpAny_bind ((PySem.W.looks_subIn X ns).here ?_)
    simp only [Bool.false_eq_true, if_false, Bool.not_false, if_true]
    exact rest
  · refine wpAny_bind (wpAny_pure ?_)
    simp only [Bool.false_eq_true, if_false, Bool.not_false, if_true]
    exact rest
end
end EV
/-! != of an instance with an own __eq__ and any other thing, as a rule. -/
namespace EV
open PySem PySem.Spec PyProof.Rows L2
def oddTypes : List String := ["NoneType", "int", "str", "list", "tuple", "dict"]
structure NeTxt (K : PySem.W.Frag) (C f : Addr) : Prop where
  eq : PySem.W.findIn K (.ref C) "__eq__" = some (some (.ref f))
  fn : PySem.W.isFn K (.ref f) = true
  ne : PySem.W.findIn K (.ref C) "__ne__" = some (some (.builtin "object.__ne__"))
  obj : PySem.W.mroIn K C (.type "object") = some true
  sub : ∀ T ∈ oddTypes, PySem.W.subIn K (.ref C) (.type T) = some false
/-- things of built-in types, as left ones -/
inductive OddL (K : PySem.W.Frag) (H : Hp) : V → Prop
  | non : OddL K H .non
  | int (i : Int) : OddL K H (.int i)
  | str (z : Str) : OddL K H (.str z)
  | lst {a : Addr} {xs : List V} (h : SqL K H a xs) : OddL K H (.ref a)
  | tup {a : Addr} {xs : List V} (h : SqT K H a xs) : OddL K H (.ref a)
  | dct {a : Addr} {kvs : List (Key × V)} (h : H a = some (.dK kvs)) : OddL K H (.ref a)
section
variable {X : Cx} {CX : CXT} {n : Nat} {C f : Addr} {fd : FuncData} {ps : List Str} {sp : Sp} {E : XK}
def rNeL (K : PySem.W.Frag) (C : Addr) (sp : Sp) (E : XK) (x y : V) (H : Hp) (Q : VK) : Prop := ∃ a dx fs t, x = .ref a ∧ H a = some (.ins C dx fs) ∧ TyX K H y t ∧ PySem.W.notFirst K C t = true ∧ sp [.ref a, y] H (fun v H' => ∃ b, v = .bl b ∧ Q (.bl !b) H') E
def rNeR (K : PySem.W.Frag) (C : Addr) (sp : Sp) (E : XK) (x y : V) (H : Hp) (Q : VK) : Prop := ∃ a dx fs, y = .ref a ∧ H a = some (.ins C dx fs) ∧ OddL K H x ∧ sp [.ref a, x] H (fun v H' => ∃ b, v = .bl b ∧ Q (.bl !b) H') E
theorem op_neOwn (F : FnOk X.prog X.w X.K X.mg X.base CX n f fd ps sp) (T : NeTxt X.K C f) (hb : L2.Binds X.K fd ps []) (hx : Passes CX X E) (hr : Room (n + 1) X.A) :
    OpR X (compareOp .NotEq) fun x y H Q => rNeL X.K C sp E x y H Q ∨ rNeR X.K C sp E x y H Q := by
  intro pins s σ H x y v u Q I rx ry h
  have sb : L2.Sub X (n + 1) X.A := ⟨hr, rfl⟩
  have hu : X.A.units + 1 < cLine := hu_of hr
  show wpAny (model X.prog X.w) X.A (richCompare .NotEq v u) (EP X pins σ Q) X.xe s
  rcases h with ⟨a, dx, fs, t, rfl, ha, ty, nf, hsp⟩ | ⟨a, dx, fs, rfl, ha, odd, hsp⟩
  · obtain rfl : v = Value.ref a := rx
    obtain ⟨mA, J, _⟩ := ins_get I.hok ha
    obtain ⟨od, J, _⟩ := J.look
    obtain ⟨P, Z, hP, _⟩ := kit_of I ry ty
    refine rc_neL hu I.kIn J (Z.ty _ _ I.kIn hP) nf T.obj T.eq T.fn T.ne (wpAny_mono (own_call (Q := fun v H' => ∃ b, v = .bl b ∧ Q (.bl !b) H') sb.in1 I F hb hx (.cons (show RelV (.ref a) (.ref a) from rfl) (.cons ry .nil)) hsp) (fun w s' z => ?_) fun _ _ e => e)
    obtain ⟨z, H', I', rz, b, rfl, q⟩ := z
    obtain rfl : w = Value.bool b := rz
    exact ⟨b, rfl, .bl !b, H', I', rfl, q⟩
  · obtain rfl : u = Value.ref a := ry
    obtain ⟨mA, J0, _⟩ := ins_get I.hok ha
    have at0 := J0.obj
    obtain ⟨od, J, _⟩ := J0.look
    have inner : ∀ {w : Value}, RelV x w → wpAny (model X.prog X.w) X.A.in1 (call (.ref f) [.ref a, w]) (fun v s' => ∃ r, v = .bool r ∧ EP X pins σ Q (.bool (!r)) s') X.xe s := fun rw' => by
      refine wpAny_mono (own_call (Q := fun v H' => ∃ b, v = .bl b ∧ Q (.bl !b) H') sb.in1 I F hb hx (.cons (show RelV (.ref a) (.ref a) from rfl) (.cons rw' .nil)) hsp) (fun w s' z => ?_) fun _ _ e => e
      obtain ⟨z, H', I', rz, b, rfl, q⟩ := z
      obtain rfl : w = Value.bool b := rz
      exact ⟨b, rfl, .bl !b, H', I', rfl, q⟩
    have sub : ∀ T' ∈ oddTypes, PySem.W.subIn X.K (.ref C) (.type T') = some false := T.sub
    cases odd with
    | non =>
      obtain rfl : v = Value.none := rx
      exact rc_neR hu I.kIn J rfl rfl (sub "NoneType" (by decide)) PySem.F.slot_NoneType_ne (fun Q q => ne_none q) T.obj T.eq T.fn T.ne (inner rfl)
    | int i =>
      obtain ⟨t, rfl⟩ := rx
      exact rc_neR hu I.kIn J (typeIs_int s i t) rfl (sub "int" (by decide)) PySem.F.slot_int_ne (fun Q q => ne_int at0 q) T.obj T.eq T.fn T.ne (inner ⟨t, rfl⟩)
    | str z =>
      obtain ⟨t, rfl⟩ := rx
      exact rc_neR hu I.kIn J (typeIs_str s z t) rfl (sub "str" (by decide)) PySem.F.slot_str_ne (fun Q q => ne_str at0 q) T.obj T.eq T.fn T.ne (inner ⟨t, rfl⟩)
    | @lst l xs hl =>
      obtain rfl : v = Value.ref l := rx
      obtain ⟨its, _, p, _⟩ := I.list hl
      have tl : s.TypeIs (.ref l) "list" := p.isList.elim fun o q => ⟨o, q.1, q.2.1⟩
      exact rc_neR hu I.kIn J tl rfl (sub "list" (by decide)) PySem.F.slot_list_ne (fun Q q => ne_list I.kIn at0 (sub "list" (by decide)) tl q) T.obj T.eq T.fn T.ne (inner rfl)
    | @tup l xs hl =>
      obtain rfl : v = Value.ref l := rx
      obtain ⟨its, _, p, _⟩ := I.tuple hl
      have hp : s.heap.IsTuple l its.toArray := p
      have tl : s.TypeIs (.ref l) "tuple" := hp.elim fun o q => ⟨o, q.1, q.2.1⟩
      exact rc_neR hu I.kIn J tl rfl (sub "tuple" (by decide)) PySem.F.slot_tuple_ne (fun Q q => ne_tuple I.kIn at0 (sub "tuple" (by decide)) tl q) T.obj T.eq T.fn T.ne (inner rfl)
    | @dct l kvs hl =>
      obtain rfl : v = Value.ref l := rx
      obtain ⟨_, hd, vs, rel, dd⟩ := dk_of I.hok hl
      have tl : s.TypeIs (.ref l) "dict" := dd.typeIs
      exact rc_neR hu I.kIn J tl rfl (sub "dict" (by decide)) PySem.F.slot_dict_ne (fun Q q => ne_dict I.kIn at0 (sub "dict" (by decide)) tl q) T.obj T.eq T.fn T.ne (inner rfl)
end
end EV
namespace K6
open PySem PySem.Spec PyProof.Rows L2 LamX NdefX EV
/-! ### rows as literals of distinct names -/
theorem lit_inj {p q : Bool × Str} (hp : Name1 p.2) (hq : Name1 q.2) (e : lit p = lit q) : p = q := by
  obtain ⟨a, m⟩ := p
  obtain ⟨b, n⟩ := q
  unfold lit at e
  cases a <;> cases b <;> simp at e
  · rw [e]
  · exact (name_neg hp e).elim
  · exact (name_neg hq e.symm).elim
  · rw [neg_inj e]
def pairs (ns : List Str) : List (Bool × Str) := ns.flatMap fun n => [(false, n), (true, n)]
theorem pairs_lit : ∀ ns : List Str, (pairs ns).map lit = lits ns
  | [] => rfl
  | n :: r => by
    show lit (false, n) :: lit (true, n) :: (pairs r).map lit = n :: neg n :: lits r
    rw [pairs_lit r]
    rfl
theorem pairs_mem {ns : List Str} {q : Bool × Str} : q ∈ pairs ns ↔ q.2 ∈ ns := by
  unfold pairs
  rw [List.mem_flatMap]
  constructor
  · rintro ⟨n, hn, h⟩
    rcases List.mem_cons.mp h with h | h
    · rw [h]; exact hn
    · rw [List.mem_singleton.mp h]; exact hn
  · intro h
    refine ⟨q.2, h, ?_⟩
    obtain ⟨b, n⟩ := q
    cases b <;> simp
theorem pairs_nodup : ∀ (ns : List Str) (p : Bool × Str → Bool), ns.Nodup → (∀ n ∈ ns, ¬ (p (false, n) = true ∧ p (true, n) = true)) → (((pairs ns).filter p).map Prod.snd).Nodup
  | [], _, _, _ => List.nodup_nil
  | n :: r, p, nd, one => by
    obtain ⟨n1, n2⟩ := List.nodup_cons.mp nd
    have ih := pairs_nodup r p n2 fun m hm => one m (List.mem_cons_of_mem _ hm)
    have fresh : n ∉ ((pairs r).filter p).map Prod.snd := fun q => by
      obtain ⟨z, hz, e⟩ := List.mem_map.mp q
      have z2 := pairs_mem.mp (List.mem_filter.mp hz).1
      rw [e] at z2
      exact n1 z2
    have o := one n List.mem_cons_self
    show ((((false, n) :: (true, n) :: pairs r).filter p).map Prod.snd).Nodup
    cases h1 : p (false, n) with
    | true =>
      have h2 : p (true, n) = false := by
        cases h2 : p (true, n) with
        | false => rfl
        | true => exact absurd ⟨h1, h2⟩ o
      rw [List.filter_cons_of_pos h1, List.filter_cons_of_neg (by rw [h2]; decide), List.map_cons]
      exact List.nodup_cons.mpr ⟨fresh, ih⟩
    | false =>
      rw [List.filter_cons_of_neg (by rw [h1]; decide)]
      cases h2 : p (true, n) with
      | true =>
        rw [List.filter_cons_of_pos h2, List.map_cons]
        exact List.nodup_cons.mpr ⟨fresh, ih⟩
      | false =>
        rw [List.filter_cons_of_neg (by rw [h2]; decide)]
        exact ih
/-- a row is a clause again -/
theorem RowOf.lits {ns r : List Str} (nd : ns.Nodup) (good : ∀ z ∈ ns, Name1 z) (h : RowOf ns r) : ∃ qs, Lits ns qs ∧ r = qs.map lit := by
  obtain ⟨qs, hq, rfl⟩ := h
  refine ⟨(pairs ns).filter fun q => decide (lit q ∈ qs.map lit), ⟨pairs_nodup ns _ nd ?_, fun q h => pairs_mem.mp (List.mem_filter.mp h).1⟩, ?_⟩
  · rintro n hn ⟨h1, h2⟩
    obtain ⟨p, hp, e1⟩ := List.mem_map.mp (of_decide_eq_true h1)
    obtain ⟨q, hq', e2⟩ := List.mem_map.mp (of_decide_eq_true h2)
    have p1 := lit_inj (good _ (hq.sub p hp)) (good n hn) e1
    have q1 := lit_inj (good _ (hq.sub q hq')) (good n hn) e2
    subst p1 q1
    have same : ∀ {qs : List (Bool × Str)} {p q : Bool × Str}, (qs.map Prod.snd).Nodup → p ∈ qs → q ∈ qs → p.2 = q.2 → p = q := fun {qs} => by
      induction qs with
      | nil => intro p q _ h; cases h
      | cons z r ih =>
        intro p q nd hp hq e
        rw [List.map_cons] at nd
        obtain ⟨m1, m2⟩ := List.nodup_cons.mp nd
        rcases List.mem_cons.mp hp with h1 | h1
        · rcases List.mem_cons.mp hq with h2 | h2
          · exact h1.trans h2.symm
          · exact absurd (h1 ▸ e ▸ List.mem_map_of_mem h2 : z.2 ∈ r.map Prod.snd) m1
        · rcases List.mem_cons.mp hq with h2 | h2
          · exact absurd (h2 ▸ e ▸ List.mem_map_of_mem h1 : z.2 ∈ r.map Prod.snd) m1
          · exact ih m2 h1 h2 e
    have z := same hq.nd hp hq' rfl
    cases z
  · unfold asc
    rw [← pairs_lit, List.filter_map]
    rfl
theorem Lits.names {ns ns' : List Str} {qs : List (Bool × Str)} (h : Lits ns qs) (sub : ∀ z ∈ ns, z ∈ ns') : Lits ns' qs := ⟨h.nd, fun q hq => sub _ (h.sub q hq)⟩
theorem lits_mem {ns : List Str} {l : Str} : l ∈ lits ns ↔ ∃ n ∈ ns, l = n ∨ l = neg n := by
  unfold lits
  rw [List.mem_flatMap]
  constructor
  · rintro ⟨n, hn, h⟩
    rcases List.mem_cons.mp h with h | h
    · exact ⟨n, hn, .inl h⟩
    · exact ⟨n, hn, .inr (List.mem_singleton.mp h)⟩
  · rintro ⟨n, hn, h | h⟩
    · exact ⟨n, hn, by rw [h]; exact List.mem_cons_self⟩
    · exact ⟨n, hn, by rw [h]; exact List.mem_cons_of_mem _ (List.mem_singleton.mpr rfl)⟩
theorem asc_congr {ns a b : List Str} (h : ∀ l, l ∈ a ↔ l ∈ b) : asc ns a = asc ns b := by
  unfold asc
  refine List.filter_congr fun l _ => ?_
  exact decide_eq_decide.mpr (h l)
theorem asc_asc {ns ls : List Str} : asc ns (asc ns ls) = asc ns ls := by
  unfold asc
  refine List.filter_congr fun l hl => ?_
  exact decide_eq_decide.mpr ⟨fun h => of_decide_eq_true (List.mem_filter.mp h).2, fun h => List.mem_filter.mpr ⟨hl, decide_eq_true h⟩⟩
end K6
namespace K6
open PySem PySem.Spec PyProof.Rows L2 LamX NdefX EV
/-! ### rows, each once -/
def addRow (rs : List (List Str)) (r : List Str) : List (List Str) := if r ∈ rs then rs else rs ++ [r]
def rowKv (r : List Str) : List Key × V := (r.map Sum.inr, .bl true)
theorem inr_inj : ∀ {a b : List Str}, a.map (Sum.inr : Str → Key) = b.map Sum.inr → a = b
  | [], [], _ => rfl
  | [], _ :: _, h => nomatch h
  | _ :: _, [], h => nomatch h
  | x :: a, y :: b, h => by
    injection h with h1 h2
    injection h1 with h1
    rw [h1, inr_inj h2]
theorem row_some {r : List Str} : ∀ rs : List (List Str), r ∈ rs → valV (rs.map rowKv) (r.map Sum.inr) = some (.bl true)
  | [], h => nomatch h
  | m :: rs, h => by
    by_cases e : m = r
    · subst e
      exact valV_pos rfl
    · rw [List.map_cons, valV_neg (fun q => e (inr_inj q))]
      exact row_some rs ((List.mem_cons.mp h).resolve_left fun q => e q.symm)
theorem row_none {r : List Str} : ∀ rs : List (List Str), r ∉ rs → valV (rs.map rowKv) (r.map Sum.inr) = none
  | [], _ => rfl
  | m :: rs, h => by
    rw [List.map_cons, valV_neg (fun q => h (by rw [inr_inj q]; exact List.mem_cons_self))]
    exact row_none rs fun q => h (List.mem_cons_of_mem _ q)
theorem row_put {rs : List (List Str)} {r : List Str} : putK (rs.map rowKv) (r.map Sum.inr) (.bl true) = (addRow rs r).map rowKv := by
  unfold addRow
  by_cases h : r ∈ rs
  · rw [if_pos h]
    unfold putK
    rw [valV_any, row_some rs h]
    show List.map (fun kv => if kv.1 = r.map Sum.inr then (kv.1, V.bl true) else kv) (List.map rowKv rs) = _
    rw [List.map_map]
    refine List.map_congr_left fun m _ => ?_
    show (if (rowKv m).1 = _ then _ else _) = _
    split
    · rfl
    · rfl
  · rw [if_neg h, putK_new (row_none rs h), List.map_append]
    rfl
theorem addRow_len (rs : List (List Str)) (r : List Str) : (addRow rs r).length ≤ rs.length + 1 := by
  unfold addRow
  split
  · omega
  · rw [List.length_append]; exact Nat.le_refl _
theorem kV_strs (r : List Str) : (r.map (Sum.inr : Str → Key)).map kV = r.map V.str := by
  rw [List.map_map]
  rfl
/-- the rows of clauses, each once, in the order in which they come -/
def rowsOf (ns : List Str) (qss : List (List (Bool × Str))) : List (List Str) := (qss.map fun qs => asc ns (qs.map lit)).foldl addRow []
theorem rowsOf_snoc (ns : List Str) (qss : List (List (Bool × Str))) (qs : List (Bool × Str)) : rowsOf ns (qss ++ [qs]) = addRow (rowsOf ns qss) (asc ns (qs.map lit)) := by
  unfold rowsOf
  rw [List.map_append, List.foldl_append]
  rfl
theorem rowsOf_len (ns : List Str) : ∀ qss : List (List (Bool × Str)), (rowsOf ns qss).length ≤ qss.length := by
  have go : ∀ (xs acc : List (List Str)), (xs.foldl addRow acc).length ≤ acc.length + xs.length := by
    intro xs
    induction xs with
    | nil => intro acc; exact Nat.le_refl _
    | cons x r ih =>
      intro acc
      have z := ih (addRow acc x)
      have y := addRow_len acc x
      rw [List.foldl_cons, List.length_cons]
      omega
  intro qss
  have z := go (qss.map fun qs => asc ns (qs.map lit)) []
  rw [List.length_map] at z
  unfold rowsOf
  simpa using z
/-- all but x stays -/
def Grow (x : Addr) (H H' : Hp) : Prop := ∀ c o, c ≠ x → H c = some o → H' c = some o
theorem Grow.of {x : Addr} {H H' : Hp} (s : Same H H') : Grow x H H' := fun c o _ h => s c o h
theorem Grow.trans {x : Addr} {H H1 H2 : Hp} (a : Grow x H H1) (b : Grow x H1 H2) : Grow x H H2 := fun c o n h => b c o n (a c o n h)
theorem Grow.put {x : Addr} {H : Hp} {o : HO} : Grow x H (upd H x o) := fun _ _ n h => (upd_ne n).trans h
theorem tup_any {K : PySem.W.Frag} {H : Hp} {b : Bool} {a x : Addr} {xs : List V} {Q : VK} (hs : ∀ H', Grow x H H' → Sq K b H' a xs) {o : HO} (hx : H x = some o) (k : ∀ q H', Same H H' → (∀ H2, Grow x H' H2 → SqT K H2 q xs) → Q (.ref q) H') : kTup K (.ref a) H Q := by
  have h := hs H (Grow.of (Same.refl H))
  cases b with
  | false => exact .inr ⟨a, xs, rfl, h, k a H (Same.refl H) fun H2 g => hs H2 g⟩
  | true => exact .inl ⟨a, xs, rfl, h, fun q hq => k q _ (same_new hq) fun H2 g => SqT.of (g _ _ (ne_of_none hx hq).symm upd_same)⟩
/-- one clause handed over: a list or tuple of literals of distinct names -/
def Given (K : PySem.W.Frag) (s : Addr) (H : Hp) (ns : List Str) (x : V) (qs : List (Bool × Str)) : Prop := Lits ns qs ∧ ∃ (b : Bool) (A : Addr) (t : Value), x = .ref A ∧ (∀ H', Grow s H H' → TyX K H' (.ref A) t) ∧ PySem.W.kitAny K t [.type "list", .type "tuple"] = some true ∧ ∀ H', Grow s H H' → Sq K b H' A ((qs.map lit).map V.str)
theorem Given.ask {K : PySem.W.Frag} {s : Addr} {H : Hp} {ns : List Str} {x : V} {qs : List (Bool × Str)} (g : Given K s H ns x qs) : Ask K H ns true x := by
  obtain ⟨hq, b, A, t, rfl, ty, kit, sq⟩ := g
  exact .seq t (fun H' s' => ty H' (.of s')) kit (fun H' s' => sq H' (.of s')) fun _ _ => .ok hq
section
variable {P : Program} {w : World} {K : PySem.W.Frag} {mg : Str → Option Value} {base : Heap} {f fN fP fC fO C : Addr} {fd fdN fdP fdC fdO : FuncData}
end
end K6
namespace K6
open PySem PySem.Spec PyProof.Rows L2 LamX NdefX EV
/-! ### repr of data without dicts -/
mutual
theorem dp_free {K : PySem.W.Frag} {H : Hp} : ∀ {v : V} {d : PyData}, Dp K H v d → d.hasDict = false
  | _, _, .non => rfl
  | _, _, .bl _ => rfl
  | _, _, .int _ => rfl
  | _, _, .str _ => rfl
  | _, _, .lst _ h => by
    show PyData.hasDictAll _ = false
    exact dps_free h
  | _, _, .tup _ h => by
    show PyData.hasDictAll _ = false
    exact dps_free h
theorem dps_free {K : PySem.W.Frag} {H : Hp} : ∀ {vs : List V} {ds : List PyData}, DpAll K H vs ds → PyData.hasDictAll ds = false
  | _, _, .nil => rfl
  | _, _, .cons h t => by
    show (PyData.hasDict _ || PyData.hasDictAll _) = false
    rw [dp_free h, dps_free t]
    rfl
end
def rReprP (K : PySem.W.Frag) : List V → Hp → VK → Prop := fun xs H Q => ∃ (x : V) (d : PyData), xs = [x] ∧ Dp K H x d ∧ d.showable = true ∧ d.shown.length ≤ sizeLine ∧ d.depth ≤ 60 ∧ Q (.str d.shown) H
theorem call_reprP {X : Cx} (hg : X.A.guards = some []) (hu : X.A.units + 64 < cLine) : CallR X (.builtin "repr") (rReprP X.K) := by
  intro pins s σ H xs us Q I r h
  obtain ⟨x, d, rfl, hd, hs, hz, hdp, q⟩ := h
  obtain ⟨u, rfl, ru⟩ := r.one
  have hf := dp_free hd
  cases hd with
  | non =>
    cases ru
    exact PySem.P.repr_of_none ⟨.str _, H, I.tok _, ⟨_, rfl⟩, q⟩
  | bl b =>
    cases ru
    refine PySem.P.repr_of_bool ⟨.str _, H, I.tok _, ⟨_, rfl⟩, ?_⟩
    cases b <;> exact q
  | int i =>
    obtain ⟨t, rfl⟩ := ru
    exact PySem.P.repr_of_int (by simpa [PyData.showable] using hs) ⟨.str _, H, I.tok _, ⟨_, rfl⟩, q⟩
  | str y =>
    obtain ⟨t, rfl⟩ := ru
    exact PySem.P.repr_of_str ⟨.str _, H, I.tok _, ⟨_, rfl⟩, q⟩ hz
  | lst h2 h3 =>
    obtain ⟨as, hr⟩ := Dp.reads I _ _ _ (.lst h2 h3) ru
    cases ru
    exact repr_of_reads' hr hs (fun z => by rw [hf] at z; cases z) hg (by omega) (fun _ _ e => e) (fun h' u tk k => ⟨.str _, H, I.kept k, ⟨u, rfl⟩, q⟩) hz
  | tup h2 h3 =>
    obtain ⟨as, hr⟩ := Dp.reads I _ _ _ (.tup h2 h3) ru
    cases ru
    exact repr_of_reads' hr hs (fun z => by rw [hf] at z; cases z) hg (by omega) (fun _ _ e => e) (fun h' u tk k => ⟨.str _, H, I.kept k, ⟨u, rfl⟩, q⟩) hz
/-! ### what is shown is small -/
/-- texts of few signs, shown within few places -/
structure Small (d : PyData) (n : Nat) : Prop where
  ls : d.leavesShort 40 = true
  bk : d.bulk ≤ n
  sh : d.showable = true
  dp : d.depth ≤ 10
theorem Small.fits {d : PyData} {n : Nat} (h : Small d n) (hn : n ≤ 20000) : d.shown.length ≤ sizeLine := by
  have z := PyData.shown_le_bulk 40 (by decide) d h.ls
  have b := h.bk
  rw [sizeLine_eq]
  omega
structure SmallAll (ds : List PyData) (n m : Nat) : Prop where
  ls : PyData.leavesShortAll 40 ds = true
  bk : PyData.bulkAll ds ≤ n
  sh : PyData.showableAll ds = true
  dp : PyData.depthAll ds ≤ m
theorem SmallAll.nil {m : Nat} : SmallAll [] 0 m := ⟨rfl, Nat.le_refl 0, rfl, Nat.zero_le _⟩
theorem SmallAll.cons {d : PyData} {ds : List PyData} {a b m : Nat} (h : d.leavesShort 40 = true) (h2 : d.bulk ≤ a) (h3 : d.showable = true) (h4 : d.depth ≤ m) (t : SmallAll ds b m) : SmallAll (d :: ds) (a + 1 + b) m := by
  refine ⟨?_, ?_, ?_, ?_⟩
  · simp only [PyData.leavesShortAll, h, t.ls, Bool.and_self]
  · have := t.bk
    simp only [PyData.bulkAll]
    omega
  · simp only [PyData.showableAll, h3, t.sh, Bool.and_self]
  · have := t.dp
    simp only [PyData.depthAll]
    omega
theorem name_short {z : Str} (h : Fit z) : (z.cps.toList.all fun c => decide (c < 16 ^ 8)) = true := List.all_eq_true.mpr fun c hc => decide_eq_true (Nat.lt_trans (h c hc) (by decide))
/-- lists of short texts -/
theorem small_strs {n : Nat} : ∀ xs : List Str, (∀ z ∈ xs, Fit z ∧ z.length ≤ n) → SmallAll (xs.map PyData.str) ((n + 1) * xs.length) 2
  | [], _ => SmallAll.nil
  | x :: xs, h => by
    have z := SmallAll.cons (d := .str x) (a := n) (name_short (h x List.mem_cons_self).1) (h x List.mem_cons_self).2 rfl (Nat.zero_le _) (small_strs xs fun z hz => h z (List.mem_cons_of_mem _ hz))
    refine ⟨z.ls, ?_, z.sh, z.dp⟩
    have b := z.bk
    rw [List.length_cons, Nat.mul_succ]
    show PyData.bulkAll (.str x :: xs.map PyData.str) ≤ _
    omega
theorem small_list {ds : List PyData} {n m : Nat} (h : SmallAll ds n m) : (PyData.list ds).leavesShort 40 = true ∧ (PyData.list ds).bulk ≤ n ∧ (PyData.list ds).showable = true ∧ (PyData.list ds).depth ≤ m + 1 := by
  refine ⟨h.ls, h.bk, h.sh, ?_⟩
  have := h.dp
  simp only [PyData.depth]
  omega
theorem small_tup {ds : List PyData} {n m : Nat} (h : SmallAll ds n m) : (PyData.tuple ds).leavesShort 40 = true ∧ (PyData.tuple ds).bulk ≤ n ∧ (PyData.tuple ds).showable = true ∧ (PyData.tuple ds).depth ≤ m + 1 := by
  refine ⟨h.ls, h.bk, h.sh, ?_⟩
  have := h.dp
  simp only [PyData.depth]
  omega
theorem small_rows {n m : Nat} : ∀ rs : List (List Str), (∀ r ∈ rs, r.length ≤ m ∧ ∀ z ∈ r, Fit z ∧ z.length ≤ n) → SmallAll (rs.map fun r => PyData.tuple (r.map PyData.str)) (((n + 1) * m + 1) * rs.length) 3
  | [], _ => SmallAll.nil
  | r :: rs, h => by
    obtain ⟨h1, h2⟩ := h r List.mem_cons_self
    obtain ⟨a1, a2, a3, a4⟩ := small_tup (small_strs r h2)
    have z := SmallAll.cons a1 a2 a3 a4 (small_rows rs fun z hz => h z (List.mem_cons_of_mem _ hz))
    refine ⟨z.ls, ?_, z.sh, z.dp⟩
    have b := z.bk
    have c : (n + 1) * r.length ≤ (n + 1) * m := Nat.mul_le_mul_left _ h1
    rw [List.length_cons, Nat.mul_succ]
    show PyData.bulkAll (.tuple (r.map PyData.str) :: rs.map fun r => PyData.tuple (r.map PyData.str)) ≤ _
    omega
theorem dp_app {K : PySem.W.Frag} {H : Hp} : ∀ {vs ws : List V} {ds es : List PyData}, DpAll K H vs ds → DpAll K H ws es → DpAll K H (vs ++ ws) (ds ++ es)
  | _, _, _, _, .nil, h => h
  | _, _, _, _, .cons h t, h2 => .cons h (dp_app t h2)
theorem small_app {n k m : Nat} : ∀ {ds es : List PyData}, SmallAll ds n m → SmallAll es k m → SmallAll (ds ++ es) (n + k) m := fun {ds es} h1 h2 => by
  have go : ∀ ds : List PyData, (PyData.leavesShortAll 40 (ds ++ es) = (PyData.leavesShortAll 40 ds && PyData.leavesShortAll 40 es)) ∧ PyData.bulkAll (ds ++ es) = PyData.bulkAll ds + PyData.bulkAll es ∧ PyData.showableAll (ds ++ es) = (PyData.showableAll ds && PyData.showableAll es) ∧ PyData.depthAll (ds ++ es) ≤ max (PyData.depthAll ds) (PyData.depthAll es) := by
    intro ds
    induction ds with
    | nil => exact ⟨rfl, by simp [PyData.bulkAll], rfl, by simp [PyData.depthAll]⟩
    | cons d ds ih =>
      obtain ⟨i1, i2, i3, i4⟩ := ih
      refine ⟨?_, ?_, ?_, ?_⟩
      · simp only [List.cons_append, PyData.leavesShortAll, i1, Bool.and_assoc]
      · simp only [List.cons_append, PyData.bulkAll, i2]
        omega
      · simp only [List.cons_append, PyData.showableAll, i3, Bool.and_assoc]
      · simp only [List.cons_append, PyData.depthAll]
        omega
  obtain ⟨g1, g2, g3, g4⟩ := go ds
  have a1 := h1.bk
  have a2 := h2.bk
  have a3 := h1.dp
  have a4 := h2.dp
  exact ⟨by rw [g1, h1.ls, h2.ls]; rfl, by omega, by rw [g3, h1.sh, h2.sh]; rfl, by omega⟩
/-! ### _law_same over such data -/
def spSameP (K : PySem.W.Frag) : Sp := fun vs H Q _ => ∃ (x y : V) (d : PyData) (n : Nat), vs = [x, y] ∧ Dp K H x d ∧ Dp K H y d ∧ Small d n ∧ n ≤ 20000 ∧ Q (.bl true) H
section
variable {P : Program} {w : World} {K : PySem.W.Frag} {mg : Str → Option Value} {base : Heap} {f : Addr} {fd : FuncData}
theorem ok_sameP (F : Fun K "_law_same" "_law_same" sSame f fd) (mr : mg "repr" = none) : FnG P w K mg base 1 f fd ["_law_found", "_law_due"] (spSameP K) := by
  refine fng_of F scSame (fun vs H Q E h => ?_) (fun cdv A outer s H vs Q E hg hr h => ?_)
  · obtain ⟨x, y, d, n, rfl, _⟩ := h
    rfl
  · obtain ⟨x, y, d, n, rfl, hx, hy, sm, hn, k⟩ := h
    refine ⟨_, pss_one (ps_ret (pe_cmpR op_eq (pe_callB (call_reprP hg hr.units) (by rfl) mr (by decide +kernel) (pa_cons (pv 0) pa_nil)) (pe_callB (call_reprP hg hr.units) (by rfl) mr (by decide +kernel) (pa_cons (pv 1) pa_nil)) (nomark _))), ?_⟩
    have h3 : d.depth ≤ 60 := Nat.le_trans sm.dp (by decide)
    refine ⟨_, rfl, _, d, rfl, hx, sm.sh, sm.fits hn, h3, _, rfl, _, d, rfl, hy, sm.sh, sm.fits hn, h3, rfl, ?_⟩
    show Q (.bl (decide (V.str d.shown = V.str d.shown))) H
    rw [decide_eq_true rfl]
    exact k
end
end K6
namespace K6
open PySem PySem.Spec PyProof.Rows L2 LamX NdefX EV
/-- a tuple stands while a dict elsewhere is locked -/
theorem sqT_off {K : PySem.W.Frag} {H H' : Hp} {a d : Addr} {xs : List V} {ws : List (List Key × V)} (h : SqT K H a xs) (hd : H d = some (.dT ws)) (g : Grow d H H') : SqT K H' a xs := by
  rcases h with h | h
  · refine .inl ?_
    rcases h with h | ⟨o, h⟩
    · exact .inl (g _ _ (fun e => by rw [e, hd] at h; cases h) h)
    · exact .inr ⟨o, g _ _ (fun e => by rw [e, hd] at h; cases h) h⟩
  · exact .inr h
section
variable {P : Program} {w : World} {K : PySem.W.Frag} {mg : Str → Option Value} {base : Heap} {f C : Addr} {fd : FuncData}
end
end K6
namespace K6
open PySem PySem.Spec PyProof.Rows L2 LamX NdefX EV
structure CIs (K : PySem.W.Frag) (C : Addr) : Prop where
  cl : PySem.W.findIn K (.ref C) "__class__" = some (some (.builtin "object.__class__"))
  gt : PySem.W.specialIn K (.builtin "object.__class__") "__get__" = some (some (.builtin "getset_descriptor.__get__"))
  tk : PySem.W.takesIn K (.builtin "object.__class__") = some true
  ob : PySem.W.mroIn K C (.type "object") = some true
theorem mem_same {xs ys : List Str} (h : sameMem xs ys = true) : ∀ x ∈ xs, x ∈ ys := (sameMem_iff.mp h).2
theorem nodup_back : ∀ {xs ys : List Str}, xs.Nodup → xs.length = ys.length → (∀ x ∈ xs, x ∈ ys) → ∀ y ∈ ys, y ∈ xs := fun {xs ys} nd len sub y hy => by
  by_cases h : y ∈ xs
  · exact h
  · have z := nodup_le (y :: xs) ys (List.nodup_cons.mpr ⟨h, nd⟩) fun a ha => (List.mem_cons.mp ha).elim (fun e => e ▸ hy) (sub a)
    rw [List.length_cons] at z
    omega
section
variable {P : Program} {w : World} {K : PySem.W.Frag} {mg : Str → Option Value} {base : Heap} {f fS fI C : Addr} {fd fdS fdI : FuncData}
end
end K6
namespace K6
open PySem PySem.Spec PyProof.Rows L2 LamX NdefX EV
def more : Str := Str.ofString "more"
theorem more_fit : Fit more ∧ more.length ≤ 9 := ⟨by unfold Fit; decide +kernel, by decide +kernel⟩
theorem row_texts {ns r : List Str} (good : ∀ z ∈ ns, Name1 z) (h : RowOf ns r) : r.length ≤ 2 * ns.length ∧ ∀ z ∈ r, Fit z ∧ z.length ≤ 9 := by
  obtain ⟨qs, hq, rfl⟩ := h
  refine ⟨asc_len ns _, fun z hz => ?_⟩
  obtain ⟨n, hn, e⟩ := lits_mem.mp (List.mem_filter.mp hz).1
  have g := good n hn
  have l8 : n.length ≤ 8 := g.2.1
  rcases e with rfl | rfl
  · exact ⟨g.fit, by omega⟩
  · exact ⟨g.fit.neg, by rw [neg_len]; omega⟩
def ap (b : Bool) (xs : List V) : List V := if b = true then xs ++ [.str more] else xs
/-- what such a list shows -/
theorem small_more {xs : List Str} (h : ∀ z ∈ xs, Name1 z) (n4 : xs.length ≤ 10) : SmallAll ((xs ++ [more]).map PyData.str) 110 2 := by
  have z := small_strs (n := 9) (xs ++ [more]) fun z hz => by
    rcases List.mem_append.mp hz with q | q
    · have g := h z q
      have l8 : z.length ≤ 8 := g.2.1
      exact ⟨g.fit, by omega⟩
    · rw [List.mem_singleton.mp q]
      exact more_fit
  refine ⟨z.ls, Nat.le_trans z.bk ?_, z.sh, z.dp⟩
  rw [List.length_append, List.length_singleton]
  omega
theorem shown_int {n : Nat} (h : n ≤ 7) : (PyData.int (n : Int)).leavesShort 40 = true ∧ (PyData.int (n : Int)).showable = true := by
  match n, h with
  | 0, _ => decide +kernel
  | 1, _ => decide +kernel
  | 2, _ => decide +kernel
  | 3, _ => decide +kernel
  | 4, _ => decide +kernel
  | 5, _ => decide +kernel
  | 6, _ => decide +kernel
  | 7, _ => decide +kernel
section
variable {P : Program} {w : World} {K : PySem.W.Frag} {mg : Str → Option Value} {base : Heap} {f fS f1 f2 f3 f4 C : Addr} {fd fdS fd1 fd2 fd3 fd4 : FuncData}
end
end K6
namespace K6
open PySem PySem.Spec PyProof.Rows L2 LamX NdefX EV
/-! ### making a code -/
theorem TyOf.same {K : PySem.W.Frag} {H H' : Hp} {v : V} {t : Value} (h : TyOf K H v t) (sm : Same H H') : TyOf K H' v t := by
  cases h with
  | non => exact .non
  | bl b => exact .bl b
  | int i => exact .int i
  | str z => exact .str z
  | flt z => exact .flt z
  | lst e => exact .lst (sm _ _ e)
  | frz e => exact .frz (sm _ _ e)
  | tup e => exact .tup (sm _ _ e)
  | dK e => exact .dK (sm _ _ e)
  | dT e => exact .dT (sm _ _ e)
  | ins e a b c d f => exact .ins (sm _ _ e) a b c d f
theorem TyX.same {K : PySem.W.Frag} {H H' : Hp} {v : V} {t : Value} (h : TyX K H v t) (sm : Same H H') : TyX K H' v t := by
  cases h with
  | base h => exact .base (TyOf.same h sm)
  | byt b => exact .byt b
  | set e => exact .set (sm _ _ e)
  | kList a b => exact .kList a b
  | kTuple a b => exact .kTuple a b
  | kDict a b => exact .kDict a b
  | fTuple e => exact .fTuple (sm _ _ e)
  | fDict e => exact .fDict (sm _ _ e)
theorem Sq.same {K : PySem.W.Frag} {H H' : Hp} {b : Bool} {a : Addr} {xs : List V} (h : Sq K b H a xs) (sm : Same H H') : Sq K b H' a xs := by
  cases b
  · exact sqT_same sm h
  · exact Same.seq sm h
/-- a clause that is handed over -/
def Handed (K : PySem.W.Frag) (H : Hp) (ns : List Str) (x : V) (qs : List (Bool × Str)) : Prop := Lits ns qs ∧ ∃ (b : Bool) (A : Addr), x = .ref A ∧ Sq K b H A ((qs.map lit).map V.str)
theorem Sq.ty {K : PySem.W.Frag} {H : Hp} {b : Bool} {a : Addr} {xs : List V} (h : Sq K b H a xs) : TyX K H (.ref a) (.type (if b = true then "list" else "tuple")) := by
  cases b
  · rcases h with (h | ⟨o, h⟩) | ⟨o, its, n, h1, h2, _⟩
    · exact .base (.tup h)
    · exact .fTuple h
    · exact .kTuple h1 h2
  · rcases h with (h | ⟨o, h⟩) | ⟨o, its, n, h1, h2, _⟩
    · exact .base (.lst h)
    · exact .base (.frz h)
    · exact .kList h1 h2
theorem kit_seq {K : PySem.W.Frag} (b : Bool) : PySem.W.kitAny K (.type (if b = true then "list" else "tuple")) [.type "list", .type "tuple"] = some true := by
  cases b
  · exact kitAny_cons (b := false) (kit_ty (by decide +kernel)) (fun _ => kitAny_cons (b := true) (kit_ty (by decide +kernel)) (fun z => nomatch z) fun _ => rfl) (fun z => nomatch z)
  · exact kitAny_cons (b := true) (kit_ty (by decide +kernel)) (fun z => nomatch z) fun _ => rfl
theorem Handed.given {K : PySem.W.Frag} {H H1 : Hp} {s : Addr} {ns : List Str} {x : V} {qs : List (Bool × Str)} (h : Handed K H ns x qs) (g : ∀ H', Grow s H1 H' → Same H H') : Given K s H1 ns x qs := by
  obtain ⟨hq, b, A, rfl, sq⟩ := h
  exact ⟨hq, b, A, _, rfl, fun H' gg => Sq.ty (Sq.same sq (g H' gg)), kit_seq b, fun H' gg => Sq.same sq (g H' gg)⟩
theorem Handed.same {K : PySem.W.Frag} {H H' : Hp} {ns : List Str} {x : V} {qs : List (Bool × Str)} (h : Handed K H ns x qs) (sm : Same H H') : Handed K H' ns x qs := by
  obtain ⟨hq, b, A, rfl, sq⟩ := h
  exact ⟨hq, b, A, rfl, Sq.same sq sm⟩
/-! ### what a code is like -/
theorem addRow_mem {rs : List (List Str)} {r x : List Str} (h : x ∈ addRow rs r) : x ∈ rs ∨ x = r := by
  unfold addRow at h
  split at h
  · exact .inl h
  · rcases List.mem_append.mp h with q | q
    · exact .inl q
    · exact .inr (List.mem_singleton.mp q)
theorem fold_mem : ∀ (xs acc : List (List Str)) (x : List Str), x ∈ xs.foldl addRow acc → x ∈ acc ∨ x ∈ xs
  | [], _, _, h => .inl h
  | y :: xs, acc, x, h => by
    rcases fold_mem xs (addRow acc y) x h with q | q
    · rcases addRow_mem q with q | q
      · exact .inl q
      · exact .inr (by rw [q]; exact List.mem_cons_self)
    · exact .inr (List.mem_cons_of_mem _ q)
theorem rowsOf_row {ns : List Str} {qss : List (List (Bool × Str))} (h : ∀ qs ∈ qss, Lits ns qs) : ∀ r ∈ rowsOf ns qss, RowOf ns r := fun r hr => by
  rcases fold_mem _ _ r hr with q | q
  · cases q
  · obtain ⟨qs, hqs, rfl⟩ := List.mem_map.mp q
    exact ⟨qs, h qs hqs, rfl⟩
theorem fold_id : ∀ (xs acc : List (List Str)), (acc ++ xs).Nodup → xs.foldl addRow acc = acc ++ xs
  | [], acc, _ => (List.append_nil acc).symm
  | x :: xs, acc, nd => by
    have e : acc ++ x :: xs = (acc ++ [x]) ++ xs := by rw [List.append_assoc]; rfl
    have nx : x ∉ acc := fun q => (List.nodup_append.mp nd).2.2 x q x List.mem_cons_self rfl
    rw [List.foldl_cons]
    unfold addRow
    rw [if_neg nx, e]
    exact fold_id xs (acc ++ [x]) (e ▸ nd)
theorem fold_in : ∀ (xs acc : List (List Str)), (∀ x ∈ xs, x ∈ acc) → xs.foldl addRow acc = acc
  | [], _, _ => rfl
  | x :: xs, acc, h => by
    have e : addRow acc x = acc := if_pos (h x List.mem_cons_self)
    rw [List.foldl_cons, e]
    exact fold_in xs acc fun y hy => h y (List.mem_cons_of_mem _ hy)
end K6
namespace K6
open PySem PySem.Spec PyProof.Rows L2 LamX NdefX EV
/-! ### codes unlike a code -/
theorem sameMem_len {xs ys : List Str} (h : xs.length ≠ ys.length) : sameMem xs ys = false := by
  cases e : sameMem xs ys with
  | false => rfl
  | true => exact absurd (sameMem_iff.mp e).1 h
/-- two places that hold lists -/
def Two (H : Hp) (S L : Addr) : Prop := (∃ xs, H S = some (.lst xs)) ∧ ∃ xs, H L = some (.lst xs)
theorem StreamAt.two {H : Hp} {S L : Addr} {c : Nat} (h : StreamAt H S L c) : Two H S L := by
  obtain ⟨ns, x, m, h1, h2, _⟩ := h
  exact ⟨⟨_, h1⟩, ⟨_, h2⟩⟩
theorem sqT_kept {K : PySem.W.Frag} {H H' : Hp} {S L a : Addr} {xs : List V} (h : SqT K H a xs) (hS : Two H S L) (k : Kept S L H H') : SqT K H' a xs := by
  obtain ⟨⟨_, h1⟩, ⟨_, h2⟩⟩ := hS
  rcases h with h | h
  · refine .inl ?_
    rcases h with h | ⟨o, h⟩
    · exact .inl (k _ _ h (ne_of h h1 fun z => nomatch z) (ne_of h h2 fun z => nomatch z))
    · exact .inr ⟨o, k _ _ h (ne_of h h1 fun z => nomatch z) (ne_of h h2 fun z => nomatch z)⟩
  · exact .inr h
theorem RowsAt.kept {H H' : Hp} {S L : Addr} {ts : List Addr} {rs : List (List Str)} (h : RowsAt H ts rs) (hS : Two H S L) (k : Kept S L H H') : RowsAt H' ts rs := by
  obtain ⟨⟨_, g1⟩, ⟨_, g2⟩⟩ := hS
  exact Paired.mapP h fun t r z => k _ _ z (ne_of z g1 fun q => nomatch q) (ne_of z g2 fun q => nomatch q)
/-- rows as clauses that are handed over, for these names or more -/
theorem handed_rows {K : PySem.W.Frag} {H : Hp} {n0 ns : List Str} (nd : n0.Nodup) (good : ∀ z ∈ n0, Name1 z) (sub : ∀ z ∈ n0, z ∈ ns) : ∀ {ts : List Addr} {rs : List (List Str)}, RowsAt H ts rs → (∀ r ∈ rs, RowOf n0 r) →
    ∃ qss, Paired (Handed K H ns) (ts.map V.ref) qss ∧ rs = qss.map (fun qs => qs.map lit) ∧ ∀ qs ∈ qss, Lits n0 qs
  | [], [], _, _ => ⟨[], .nil, rfl, fun _ h => nomatch h⟩
  | t :: ts, r :: rs, .cons h tl, rows => by
    obtain ⟨qs, hq, rfl⟩ := (rows r List.mem_cons_self).lits nd good
    obtain ⟨qss, h1, h2, h3⟩ := handed_rows nd good sub tl fun x hx => rows x (List.mem_cons_of_mem _ hx)
    refine ⟨qs :: qss, .cons ⟨hq.names sub, false, t, rfl, Sq.tup h⟩ h1, by rw [List.map_cons, h2], fun x hx => ?_⟩
    rcases List.mem_cons.mp hx with rfl | hx
    · exact hq
    · exact h3 x hx
theorem row_id {ns r : List Str} (h : RowOf ns r) : asc ns r = r := by
  obtain ⟨qs, _, rfl⟩ := h
  exact asc_asc
theorem rows_id {ns : List Str} {rs : List (List Str)} {qss : List (List (Bool × Str))} (e : rs = qss.map (fun qs => qs.map lit)) (rows : ∀ r ∈ rs, RowOf ns r) (nd : rs.Nodup) : rowsOf ns qss = rs := by
  unfold rowsOf
  have z : (qss.map fun qs => asc ns (qs.map lit)) = rs := by
    rw [e]
    refine List.map_congr_left fun qs hq => ?_
    exact row_id (rows _ (by rw [e]; exact List.mem_map_of_mem hq))
  rw [z]
  exact fold_id rs [] (by simpa using nd)
section
variable {K : PySem.W.Frag} {C : Addr} {H0 H H' : Hp} {S L d ps ph pc N F : Addr} {sg hp : List Str} {ts : List Addr} {rs : List (List Str)} {vs : List V} {c : Nat}
end
theorem eqv_nilR : ∀ rs : List (List Str), PyData.eqv (.list (rs.map fun r => PyData.tuple (r.map PyData.str))) (.list []) = decide (rs = [])
  | [] => rfl
  | r :: rs => by simp [PyData.eqv, PyData.eqvAll]
theorem paired_right {α β : Type} {R : α → β → Prop} : ∀ {xs : List α} {ys : List β}, Paired R xs ys → ∀ y ∈ ys, ∃ x, R x y
  | [], [], .nil, y, h => nomatch h
  | x :: xs, z :: ys, .cons r t, y, h => by
    rcases List.mem_cons.mp h with e | h
    · exact ⟨x, by rw [e]; exact r⟩
    · exact paired_right t y h
theorem drop_row {K : PySem.W.Frag} {H : Hp} {ns : List Str} {xs : List V} {qss : List (List (Bool × Str))} (h : Paired (Handed K H ns) xs qss) : Paired (Handed K H ns) (xs.drop 1) (qss.drop 1) := by
  cases h with
  | nil => exact .nil
  | cons _ t => exact t
theorem paired_snoc {α β : Type} {R : α → β → Prop} {xs : List α} {ys : List β} {x : α} {y : β} (h : Paired R xs ys) (r : R x y) : Paired R (xs ++ [x]) (ys ++ [y]) := Paired.snoc h r
/-- a conditional expression whose two ways come to the same -/
theorem two_ways {c : Bool} {ta tb : TE} {σ : L2.St} {H : Hp} {Q : VK} (I : V → Hp → Prop) (hA : c = true → ∀ Q' : VK, (∀ v H', I v H' → Q' v H') → ta σ H Q') (hB : c = false → ∀ Q' : VK, (∀ v H', I v H' → Q' v H') → tb σ H Q') (rest : ∀ v H', I v H' → Q v H') : if c = true then ta σ H Q else tb σ H Q := by
  cases c with
  | true => exact iteT (hA rfl Q rest)
  | false => exact iteF (hB rfl Q rest)
end K6
namespace K6
open PySem PySem.Spec PyProof.Rows L2 LamX NdefX EV
/-! ### contracts by name -/
def Has (P : Program) (w : World) (K : PySem.W.Frag) (mg : Str → Option Value) (base : Heap) (k : Nat) (x : Str) (ps : List Str) (sp : Sp) : Prop := ∃ f fd, FnOk P w K mg base CX0 k f fd ps sp ∧ mg x = some (.ref f) ∧ PySem.W.keepIn K (.ref f) = true ∧ L2.Binds K fd ps []
def HasG (P : Program) (w : World) (K : PySem.W.Frag) (mg : Str → Option Value) (base : Heap) (k : Nat) (x : Str) (ps : List Str) (sp : Sp) : Prop := ∃ f fd, FnG P w K mg base k f fd ps sp ∧ mg x = some (.ref f) ∧ PySem.W.keepIn K (.ref f) = true ∧ L2.Binds K fd ps []
section
variable {X : Cx} {k : Nat} {x : Str} {ps : List Str} {sp : Sp} {p pos : Pos} {e : Expr} {es : List Expr} {t : TA}
theorem pe_callH (h : Has X.prog X.w X.K X.mg X.base k x ps sp) (hr : Room k X.A) (hg : Gl X x) (ha : PA X (e :: es) t) (hdb : (x == ("__debug__" : Str)) = false := by decide) (he : starEach (e :: es) X.env = (false, eval e X.env) :: starEach es X.env := by rfl) (hpl : (backTo pos (starEach es X.env)).any (·.1) = false := by rfl) :
    PE X (.Call (.Name x p) (e :: es) [] pos) (tCall sp [] E0 t) := by
  obtain ⟨f, fd, F, m, kp, b⟩ := h
  exact pe_call F hr hg m kp b .nil pass0 ha hdb he hpl
theorem pe_callHG (h : HasG X.prog X.w X.K X.mg X.base k x ps sp) (gd : X.A.guards = some []) (hr : Room k X.A) (hg : Gl X x) (ha : PA X (e :: es) t) (hdb : (x == ("__debug__" : Str)) = false := by decide) (he : starEach (e :: es) X.env = (false, eval e X.env) :: starEach es X.env := by rfl) (hpl : (backTo pos (starEach es X.env)).any (·.1) = false := by rfl) :
    PE X (.Call (.Name x p) (e :: es) [] pos) (tCall sp [] E0 t) := by
  obtain ⟨f, fd, F, m, kp, b⟩ := h
  exact pe_callG F gd hr hg m kp b ha hdb he hpl
end
theorem OddL.ty {K : PySem.W.Frag} {H : Hp} {v : V} (o : OddL K H v) : ∃ T ∈ oddTypes, TyX K H v (.type T) := by
  cases o with
  | non => exact ⟨"NoneType", by decide, .base .non⟩
  | int i => exact ⟨"int", by decide, .base (.int i)⟩
  | str z => exact ⟨"str", by decide, .base (.str z)⟩
  | lst h => exact ⟨"list", by decide, Sq.ty (b := true) h⟩
  | tup h => exact ⟨"tuple", by decide, Sq.ty (b := false) h⟩
  | dct h => exact ⟨"dict", by decide, .base (.dK h)⟩
theorem OddL.same {K : PySem.W.Frag} {H H' : Hp} {v : V} (o : OddL K H v) (sm : Same H H') : OddL K H' v := by
  cases o with
  | non => exact .non
  | int i => exact .int i
  | str z => exact .str z
  | lst h => exact .lst (Same.seq sm h)
  | tup h => exact .tup (sqT_same sm h)
  | dct h => exact .dct (sm _ _ h)
def forBody : Stmt → List Stmt
  | .For _ _ b _ _ => b
  | _ => []
end K6
namespace K6
open PySem PySem.Spec PyProof.Rows L2 LamX NdefX EV
/-! ### what stands in a turn, behind the making of the code -/
theorem StreamAt.same {H H' : Hp} {S L : Addr} {c : Nat} (h : StreamAt H S L c) (sm : Same H H') : StreamAt H' S L c := by
  obtain ⟨ns, x, m, h1, h2, r⟩ := h
  exact ⟨ns, x, m, sm _ _ h1, sm _ _ h2, r⟩
section
variable {K : PySem.W.Frag} {C : Addr} {H H' : Hp} {S L d ps ph pc N x r : Addr} {sg hp : List Str} {ts : List Addr} {rs : List (List Str)} {c : Nat}
end
section
variable {P : Program} {w : World} {K : PySem.W.Frag} {mg : Str → Option Value} {base : Heap} {C : Addr}
variable {f : Addr} {cdv : Value} {A : Around} {outer : List Env} {s0 : Shared} {HH : Hp} {E : XK}
end
end K6
namespace K6
open PySem PySem.Spec PyProof.Rows L2 LamX NdefX EV
/-! ### the same code in another order -/
theorem perm_unmap {α β : Type} {f : α → β} : ∀ {ms l : List β}, ms.Perm l → ∀ qs : List α, l = qs.map f → ∃ qs' : List α, qs'.Perm qs ∧ ms = qs'.map f := by
  intro ms l h
  induction h with
  | nil => intro qs e; exact ⟨qs, .refl _, e⟩
  | @cons x l1 l2 _ ih =>
    intro qs e
    cases qs with
    | nil => cases e
    | cons q r =>
      injection e with e1 e2
      obtain ⟨qs', p, e'⟩ := ih r e2
      exact ⟨q :: qs', p.cons q, by rw [List.map_cons, ← e1, ← e']⟩
  | @swap x y l1 =>
    intro qs e
    match qs, e with
    | a :: b :: r, e =>
      injection e with e1 e2
      injection e2 with e2 e3
      exact ⟨b :: a :: r, .swap a b r, by rw [List.map_cons, List.map_cons, ← e1, ← e2, ← e3]⟩
  | trans _ _ ih1 ih2 =>
    intro qs e
    obtain ⟨q2, p2, e2⟩ := ih2 qs e
    obtain ⟨q1, p1, e1⟩ := ih1 q2 e2
    exact ⟨q1, p1.trans p2, e1⟩
theorem Lits.perm {ns : List Str} {qs qs' : List (Bool × Str)} (h : Lits ns qs) (p : qs'.Perm qs) : Lits ns qs' := ⟨(p.map Prod.snd).nodup_iff.mpr h.nd, fun q hq => h.sub q (p.mem_iff.mp hq)⟩
theorem asc_perm {ns : List Str} {qs qs' : List (Bool × Str)} (p : qs'.Perm qs) : asc ns (qs'.map lit) = asc ns (qs.map lit) := asc_congr fun l => (p.map lit).mem_iff
theorem asc_mem {ns l : List Str} {x : Str} : x ∈ asc ns l ↔ x ∈ lits ns ∧ x ∈ l := by
  unfold asc
  rw [List.mem_filter]
  exact ⟨fun h => ⟨h.1, of_decide_eq_true h.2⟩, fun h => ⟨h.1, decide_eq_true h.2⟩⟩
/-- brought into another order of the same names, and back -/
theorem asc_back {ns ns2 r : List Str} (p : ∀ x, x ∈ ns2 ↔ x ∈ ns) (h : RowOf ns r) : asc ns (asc ns2 r) = r := by
  have e : asc ns (asc ns2 r) = asc ns r := asc_congr fun l => by
    rw [asc_mem]
    refine ⟨fun h => h.2, fun hl => ⟨?_, hl⟩⟩
    obtain ⟨qs, _, rfl⟩ := h
    obtain ⟨n, hn, q⟩ := lits_mem.mp (asc_mem.mp hl).1
    exact lits_mem.mpr ⟨n, (p n).mpr hn, q⟩
  rw [e]
  exact row_id h
theorem nodup_map_inj {α β : Type} {f : α → β} : ∀ {l : List α}, l.Nodup → (∀ a ∈ l, ∀ b ∈ l, f a = f b → a = b) → (l.map f).Nodup
  | [], _, _ => List.nodup_nil
  | a :: l, nd, inj => by
    obtain ⟨h1, h2⟩ := List.nodup_cons.mp nd
    rw [List.map_cons]
    refine List.nodup_cons.mpr ⟨fun q => ?_, nodup_map_inj h2 fun x hx y hy => inj x (List.mem_cons_of_mem _ hx) y (List.mem_cons_of_mem _ hy)⟩
    obtain ⟨b, hb, e⟩ := List.mem_map.mp q
    have z := inj b (List.mem_cons_of_mem _ hb) a List.mem_cons_self e
    exact h1 (z ▸ hb)
/-- rows in another order -/
theorem rows_perm {H : Hp} {ts : List Addr} {rs : List (List Str)} (h : RowsAt H ts rs) {ys : List V} (p : ys.Perm (ts.map V.ref)) : ∃ ts2 rs2, ys = ts2.map V.ref ∧ RowsAt H ts2 rs2 ∧ rs2.Perm rs := by
  obtain ⟨ts2, p2, e⟩ := perm_unmap p ts rfl
  refine ⟨ts2, ?_⟩
  clear p
  have go : ∀ {ts2 ts : List Addr}, ts2.Perm ts → ∀ {rs : List (List Str)}, RowsAt H ts rs → ∃ rs2, RowsAt H ts2 rs2 ∧ rs2.Perm rs := by
    intro ts2 ts p
    induction p with
    | nil => intro rs h; exact ⟨rs, h, .refl _⟩
    | cons x _ ih =>
      intro rs h
      cases h with
      | cons r t =>
        obtain ⟨rs2, h2, p2⟩ := ih t
        exact ⟨_ :: rs2, .cons r h2, p2.cons _⟩
    | swap x y l =>
      intro rs h
      cases h with
      | cons r t =>
        cases t with
        | cons r2 t2 => exact ⟨_ :: _ :: _, .cons r2 (.cons r t2), .swap ..⟩
    | trans _ _ ih1 ih2 =>
      intro rs h
      obtain ⟨r2, h2, p2⟩ := ih2 h
      obtain ⟨r1, h1, p1⟩ := ih1 h2
      exact ⟨r1, h1, p1.trans p2⟩
  obtain ⟨rs2, h2, p3⟩ := go p2 h
  exact ⟨rs2, e, h2, p3⟩
end K6
namespace K6
open PySem PySem.Spec PyProof.Rows L2 LamX NdefX EV
/-- lists that hold clauses, one for each row, in drawn orders -/
def Mixes (H : Hp) (ns : List Str) (rs : List (List Str)) (S L : Addr) (H0 : Hp) (cs : List Addr) (qss : List (List (Bool × Str))) : Prop :=
  Paired (fun a qs => H a = some (.lst ((qs.map lit).map V.str)) ∧ (a ≠ S ∧ a ≠ L) ∧ H0 a = none) cs qss ∧ (∀ qs ∈ qss, Lits ns qs) ∧ qss.map (fun qs => asc ns (qs.map lit)) = rs
theorem kept_upd {S L p : Addr} {H H' : Hp} {o : HO} (k : Kept S L H H') (hp : H p = none) : Kept S L H (upd H' p o) := fun b u e n1 n2 => (upd_ne (ne_of_none e hp)).trans (k b u e n1 n2)
end K6
namespace K6
open PySem PySem.Spec PyProof.Rows L2 LamX NdefX EV
/-! ### things that are no clauses -/
theorem kit_no {K : PySem.W.Frag} {T : String} (h1 : PySem.W.kitOne K (.type T) (.type "list") = some false) (h2 : PySem.W.kitOne K (.type T) (.type "tuple") = some false) : PySem.W.kitAny K (.type T) [.type "list", .type "tuple"] = some false :=
  kitAny_cons (b := false) h1 (fun _ => kitAny_cons (b := false) h2 (fun _ => rfl) fun z => nomatch z) (fun z => nomatch z)
theorem ask_list {K : PySem.W.Frag} {H : Hp} {ns : List Str} {A : Addr} {xs : List V} (hA : H A = some (.lst xs)) (see : ∀ H', Same H H' → Seen K H' ns false xs) : Ask K H ns false (.ref A) :=
  .seq (b := true) (.type "list") (fun H' sm => .base (.lst (sm _ _ hA))) (kit_seq true) (fun H' sm => SqL.of (sm _ _ hA)) see
theorem zz_far {ns : List Str} (good : ∀ z ∈ ns, Name1 z) : Str.ofString "Zz" ∉ lits ns := fun h => by
  obtain ⟨n, hn, e⟩ := lits_mem.mp h
  obtain ⟨n1, _, ch⟩ := good n hn
  have e0 : (Str.ofString "Zz").cps.toList = [90, 122] := rfl
  rcases e with e | e
  · have z : (90 : Nat) ∈ n.cps.toList := by rw [← e, e0]; exact List.mem_cons_self
    have := (ch 90 z).1
    omega
  · have z := neg_list n
    rw [← e, e0] at z
    injection z with z _
    omega
theorem atI_0 {α : Type} {x : α} {l : List α} : atI (x :: l) 0 = some x := by
  unfold atI ixN
  rw [if_pos (by decide), if_pos (by rw [List.length_cons]; omega)]
  rfl
section
variable {K : PySem.W.Frag} {H : Hp} {ns : List Str}
theorem ask_non : Ask K H ns false .non := .odd (.type "NoneType") (fun H' _ => .base .non) (kit_no (kit_ty (by decide +kernel)) (kit_ty (by decide +kernel)))
theorem ask_int (i : Int) : Ask K H ns false (.int i) := .odd (.type "int") (fun H' _ => .base (.int i)) (kit_no (kit_ty (by decide +kernel)) (kit_ty (by decide +kernel)))
theorem ask_str (z : Str) : Ask K H ns false (.str z) := .odd (.type "str") (fun H' _ => .base (.str z)) (kit_no (kit_ty (by decide +kernel)) (kit_ty (by decide +kernel)))
theorem ask_dict {e : Addr} {ws : _} (h : H e = some (.dK ws)) : Ask K H ns false (.ref e) := .odd (.type "dict") (fun H' sm => .base (.dK (sm _ _ h))) (kit_no (kit_ty (by decide +kernel)) (kit_ty (by decide +kernel)))
theorem ask_zz {A : Addr} (good : ∀ z ∈ ns, Name1 z) (h : H A = some (.lst [.str (Str.ofString "Zz")])) : Ask K H ns false (.ref A) :=
  ask_list h fun H' sm => .bad (qs := []) (rest := []) ⟨List.nodup_nil, fun _ h => nomatch h⟩ (.far (zz_far good))
theorem ask_five {A : Addr} {i : Int} (h : H A = some (.lst [.int i])) : Ask K H ns false (.ref A) :=
  ask_list h fun H' sm => .bad (qs := []) (rest := []) ⟨List.nodup_nil, fun _ h => nomatch h⟩ (.odd (.type "int") (fun _ _ => .base (.int i)) (kit_ty (by decide +kernel)))
theorem ask_twice {A : Addr} {n : Str} (hn : n ∈ ns) (h : H A = some (.lst [.str n, .str n])) : Ask K H ns false (.ref A) :=
  ask_list h fun H' sm => .bad (qs := [(false, n)]) (x := .str (lit (false, n))) (rest := []) ⟨List.nodup_cons.mpr ⟨(fun h => nomatch h), List.nodup_nil⟩, fun q h => by rw [List.mem_singleton.mp h]; exact hn⟩ (.twice hn List.mem_cons_self)
theorem ask_deep {A B : Addr} {xs : List V} (hB : H B = some (.lst xs)) (h : H A = some (.lst [.ref B])) : Ask K H ns false (.ref A) :=
  ask_list h fun H' sm => .bad (qs := []) (rest := []) ⟨List.nodup_nil, fun _ h => nomatch h⟩ (.odd (.type "list") (fun H2 s2 => .base (.lst (s2 _ _ (sm _ _ hB)))) (kit_ty (by decide +kernel)))
end
section
variable {P : Program} {w : World} {K : PySem.W.Frag} {mg : Str → Option Value} {base : Heap} {C : Addr}
variable {f : Addr} {cdv : Value} {A : Around} {outer : List Env} {s0 : Shared} {HH : Hp} {E : XK}
end
end K6
namespace K6
open PySem PySem.Spec PyProof.Rows L2 LamX NdefX EV
theorem given_list {K : PySem.W.Frag} {H : Hp} {ns : List Str} {x p : Addr} {Cl : Addr} {dx : Addr} {fs : _} {qs : List (Bool × Str)} (hq : Lits ns qs) (hp : H p = some (.lst ((qs.map lit).map V.str))) (hx : H x = some (.ins Cl dx fs)) : Given K x H ns (.ref p) qs := by
  have n : p ≠ x := ne_of hp hx fun z => nomatch z
  exact ⟨hq, true, p, .type "list", rfl, fun H' g => .base (.lst (g _ _ n hp)), kit_seq true, fun H' g => SqL.of (g _ _ n hp)⟩
theorem given_tup {K : PySem.W.Frag} {H : Hp} {ns : List Str} {x p : Addr} {Cl : Addr} {dx : Addr} {fs : _} {qs : List (Bool × Str)} (hq : Lits ns qs) (hp : H p = some (.tup ((qs.map lit).map V.str))) (hx : H x = some (.ins Cl dx fs)) : Given K x H ns (.ref p) qs := by
  have n : p ≠ x := ne_of hp hx fun z => nomatch z
  exact ⟨hq, false, p, .type "tuple", rfl, fun H' g => .base (.tup (g _ _ n hp)), kit_seq false, fun H' g => Sq.tup (g _ _ n hp)⟩
section
variable {P : Program} {w : World} {K : PySem.W.Frag} {mg : Str → Option Value} {base : Heap} {C : Addr}
variable {f : Addr} {cdv : Value} {A : Around} {outer : List Env} {s0 : Shared} {HH : Hp} {E : XK}
end
end K6
/-! t[::-1] of a tuple; <= of instances with an own __le__. -/
namespace EV
open PySem PySem.Spec PyProof.Rows L2 HT
section
variable {prog : Program} {w : World} {A : Around} {E : Value → Shared → Prop} {s : Shared}
theorem adjust_rev (n : Nat) : Builtin.Slice.sliceAdjust none none (-1) (n : Int) = ((n : Int) - 1, -1) := by
  unfold Builtin.Slice.sliceAdjust
  simp
theorem places_rev (n : Nat) : Builtin.Slice.slicePlaces ((n : Int) - 1) (-1) (-1) = n := by
  unfold Builtin.Slice.slicePlaces
  rw [if_neg (by decide)]
  split
  · rw [show (- -1 : Int) = 1 by decide, Int.ediv_one]
    omega
  · omega
theorem sliceApplied_rev {sl : Addr} {vs : Value} {n : Nat} {Q : Int × Int × Nat → Shared → Prop} (hs : s.heap.IsSliceOf sl .none .none vs) (ps : IsPart vs (some (-1)))
    (h : Q ((n : Int) - 1, -1, n) s) : wpAny (model prog w) A (Builtin.Slice.sliceApplied (.ref sl) (pure (n : Int))) Q E s := by
  obtain ⟨os, hos, hcs, hds⟩ := id hs
  unfold Builtin.Slice.sliceApplied Builtin.Slice.sliceFields
  refine wpAny_bind (wpAny_bind (wpAny_field hos hds (x := .none) rfl (wpAny_bind (wpAny_field hos hds (x := .none) rfl (wpAny_bind (wpAny_field hos hds (x := vs) rfl (wpAny_pure ?_)))))))
  refine wpAny_bind (slicePart_ ps ?_)
  show wpAny _ _ (if ((-1 : Int) == 0) = true then _ else _) _ _ s
  rw [if_neg (by decide)]
  refine wpAny_bind (slicePart_none (wpAny_bind (slicePart_none (wpAny_bind (wpAny_pure ?_)))))
  show wpAny _ _ (match Builtin.Slice.sliceAdjust none none (-1) (n : Int) with | (lo, hi) => pure (lo, (-1 : Int), Builtin.Slice.slicePlaces lo hi (-1))) _ _ s
  rw [adjust_rev]
  show wpAny _ _ (pure ((n : Int) - 1, (-1 : Int), Builtin.Slice.slicePlaces ((n : Int) - 1) (-1) (-1))) _ _ s
  rw [places_rev]
  exact wpAny_pure h
theorem fm_congr {α β : Type} {f g : α → Option β} : ∀ (l : List α), (∀ x ∈ l, f x = g x) → l.filterMap f = l.filterMap g
  | [], _ => rfl
  | x :: l, h => by
    rw [List.filterMap_cons, List.filterMap_cons, h x List.mem_cons_self, fm_congr l fun y hy => h y (List.mem_cons_of_mem _ hy)]
theorem pick_rev (xs : Array Value) : ((List.range xs.size).filterMap fun (m : Nat) => xs[(((xs.size : Int) - 1) + (m : Int) * -1).toNat]?).toArray = xs.toList.reverse.toArray := by
  have z := PySem.W.krv_pick xs
  unfold slicePick at z
  rw [PySem.W.krv_bounds] at z
  replace z : ((sliceRange ((xs.size : Int) - 1) (-1) (-1)).filterMap (xs[·]?)).toArray = xs.toList.reverse.toArray := z
  rw [PySem.W.krv_sliceRange, List.filterMap_map] at z
  rw [← z]
  refine congrArg List.toArray (fm_congr _ fun m hm => ?_)
  have lt := List.mem_range.mp hm
  have e : (((xs.size : Int) - 1) + (m : Int) * -1).toNat = xs.size - 1 - m := by omega
  show xs[(((xs.size : Int) - 1) + (m : Int) * -1).toNat]? = xs[xs.size - 1 - m]?
  rw [e]
theorem getItem_tuple_rev {t sl : Addr} {items : Array Value} {vs : Value} {Q : Value → Shared → Prop} (ht : IsTup s.heap t items) (hs : s.heap.IsSliceOf sl .none .none vs) (ps : IsPart vs (some (-1)))
    (h : Q (.ref s.heap.objs.size) { s with heap := s.heap.push { cls := .type "tuple", data := .seq items.toList.reverse.toArray } })
    (hsz : items.size ≤ sizeLine) : wpAny (model prog w) A (getItem (.ref t) (.ref sl)) Q E s := by
  have htake : sizeOk (.seq items.toList.reverse.toArray) := by
    show items.toList.reverse.toArray.size ≤ sizeLine
    rw [List.size_toArray, List.length_reverse, Array.length_toList]
    exact hsz
  obtain ⟨os, hos, hcs, hds⟩ := id hs
  have hTs : s.TypeIs (.ref sl) "slice" := ⟨os, hos, hcs⟩
  unfold getItem
  try with_reducible refine wpAny_holding ?_
  first | refine wpAny_bind (wpAny_pure ?_) | skip
  refine wpAny_bind (wpAny_sequenceKey ht.typeIs (by decide) ?_)
  refine wpAny_bind (wpAny_callSpecial?_slot (name := Str.ofString "__getitem__") ht.typeIs PyProof.Rows.slot_tuple_getitem
    (wpAny_call_entry PyProof.Rows.slot_tuple_getitem ht.typeIs entry_tuple_getitem ?_ (args_tuple_getitem _ _)))
  show wpAny _ _ (Builtin.Tuple.tupleItemsOf (.ref t) >>= _) _ _ s
  refine wpAny_bind (tupleItemsOf_ ht ?_)
  refine wpAny_bind (wpAny_typeOf hTs ?_)
  rw [if_pos (by decide)]
  refine wpAny_bind (sliceApplied_rev hs ps ?_)
  have hno : ¬ ((((items.size : Int) - 1) == 0 && (-1 : Int) == 1 && items.size == items.size) = true) := by
    intro q
    rw [Bool.and_eq_true, Bool.and_eq_true] at q
    exact absurd q.1.2 (by decide)
  show wpAny _ _ (if (((items.size : Int) - 1) == 0 && (-1 : Int) == 1 && items.size == items.size) = true then _ else _) _ _ s
  rw [if_neg hno, pick_rev]
  first
    | exact wpAny_bind (m := Builtin.Tuple.tupleExact _) (wpAny_newObj_type (wpAny_pure ⟨_, rfl, wpAny_pure h⟩) htake)
    | exact wpAny_bind (m := Builtin.Tuple.tupleExact _) (wpAny_newObj_type (wpAny_bind (wpAny_pure (wpAny_pure ⟨_, rfl, wpAny_pure h⟩))) htake)
    | exact wpAny_bind (wpAny_bind (m := Builtin.Tuple.tupleExact _) (wpAny_newObj_type (wpAny_pure (wpAny_pure ⟨_, rfl, wpAny_pure h⟩)) htake))
    | exact wpAny_bind (wpAny_bind (m := Builtin.Tuple.tupleExact _) (wpAny_newObj_type (wpAny_pure ⟨_, rfl, wpAny_pure h⟩) htake))
end
section
variable {X : Cx}
def tRevT (K : PySem.W.Frag) (te : TE) : TE := fun σ H Q => te σ H fun x H1 => ∃ a xs, x = .ref a ∧ SqT K H1 a xs ∧ ∀ p, H1 p = none → Q (.ref p) (upd H1 p (.tup xs.reverse))
theorem pe_revT {e : Expr} {te : TE} {k : Nat} {p1 p2 p3 pos : Pos} (he : PE X e te) : PE X (.Subscript e (.Slice none none (some (.UnaryOp .USub (.Constant (.int 1) k p1) p2)) p3) pos) (tRevT X.K te) := by
  refine ⟨fun pins s σ H Q I h => ?_⟩
  refine Subscript_ (thn (he.run pins s σ H _ I h) fun v s1 ⟨x, H1, I1, r1, q1⟩ => ?_)
  obtain ⟨a, xs, ex, hx, q⟩ := q1
  subst ex
  cases r1
  have hst : PO X (some (.UnaryOp .USub (.Constant (.int 1) k p1) p2)) (tPart (tUn (rU fun i => .int (-i)) (tC (.int 1)))) := po_some (pe_un un_neg pe_int)
  refine wpAny_Slice (thn (po_none.run pins s1 σ H1 (fun o H2 => o = none ∧ H2 = H1) I1 ⟨rfl, rfl⟩) fun vl s2 ⟨l, H2, I2, pl, el, e2⟩ => ?_)
  subst el e2
  refine thn (po_none.run pins s2 σ H2 (fun o H3 => o = none ∧ H3 = H2) I2 ⟨rfl, rfl⟩) fun vu s3 ⟨u, H3, I3, pu, eu, e3⟩ => ?_
  subst eu e3
  refine thn (hst.run pins s3 σ H3 (fun o H4 => o = some (-1) ∧ H4 = H3) I3 ⟨1, rfl, -1, rfl, rfl, rfl⟩) fun vs s4 ⟨o, H4, I4, ps, eo, e4⟩ => ?_
  subst eo e4
  obtain rfl : vl = Value.none := by cases pl; rfl
  obtain rfl : vu = Value.none := by cases pu; rfl
  have I5 : Inv X pins σ H4 { s4 with heap := s4.heap.push { cls := .type "slice", data := .fields #[.none, .none, vs] } } := I4.kept (t' := s4.toks) fun b ob q => Heap.get?_push_of_some _ q
  obtain ⟨its, r, ht, hz⟩ := I5.tuple hx
  have hlen := r.length
  show wpAny (model X.prog X.w) X.A (subscriptTail e (.Slice none none (some (.UnaryOp .USub (.Constant (.int 1) k p1) p2)) p3) (.ref a) (.ref s4.heap.objs.size)) (EP X pins σ Q) X.xe { s4 with heap := s4.heap.push { cls := .type "slice", data := .fields #[.none, .none, vs] } }
  refine tail_any (ops := [.ref a, .ref s4.heap.objs.size]) ht.typeIs (PyProof.Rows.slot_tuple_getitem.lookup) ?_ (by with_unfolding_all rfl)
  refine getItem_tuple_rev ht (Heap.IsSliceOf.new _ .none .none vs) ps ?_ (by rw [List.size_toArray]; omega)
  refine ⟨.ref _, _, I5.laid (t' := s4.toks) (o := .tup xs.reverse) (fun b ob q => Heap.get?_push_of_some _ q) (Nat.le_refl _) ?_, rfl, q _ (I5.hok.fresh (Nat.le_refl _))⟩
  exact ⟨by rw [List.length_reverse]; exact hz, _, r.reverse, ⟨_, Heap.get?_push_size _ rfl, rfl, _, rfl⟩⟩
end
section
variable {X : Cx} {CX : CXT} {n : Nat} {C f : Addr} {fd : FuncData} {ps : List Str} {sp : Sp} {E : XK}
/-- <=, the left one an instance whose class has a method of its own for it -/
theorem op_leOwn (F : FnOk X.prog X.w X.K X.mg X.base CX n f fd ps sp) (hs : PySem.W.findIn X.K (.ref C) "__le__" = some (some (.ref f))) (hf : PySem.W.isFn X.K (.ref f) = true) (hb : L2.Binds X.K fd ps []) (hx : Passes CX X E) (hr : Room n X.A) :
    OpR X (compareOp .LtE) fun x y H Q => ∃ t, TyX X.K H y t ∧ PySem.W.notFirst X.K C t = true ∧ rOwn C sp E x y H fun b H' => Q (.bl b) H' := by
  intro pins s σ H x y v u Q I rx ry h
  obtain ⟨t, ty, nf, a, dx, fs, rfl, ha, hsp⟩ := h
  obtain rfl : v = Value.ref a := rx
  obtain ⟨mA, J, _⟩ := ins_get I.hok ha
  obtain ⟨od, J, _⟩ := J.look
  obtain ⟨m, hF⟩ := I.fr
  obtain ⟨P, Z, hP, _⟩ := kit_of I ry ty
  show wpAny (model X.prog X.w) X.A (richCompare .LtE (.ref a) u) (EP X pins σ Q) X.xe s
  refine PySem.W.cmp_K (op := .LtE) (tb := t) hr.units0 hF I.ok.mod.kin J (Z.ty _ _ I.kIn hP) nf hs hf (wpAny_mono (own_call (Q := fun v H' => ∃ b, v = .bl b ∧ Q (.bl b) H') ⟨hr, rfl⟩ I F hb hx (.cons (show RelV (.ref a) (.ref a) from rfl) (.cons ry .nil)) hsp) (fun w s' z => ?_) fun _ _ e => e)
  obtain ⟨z, H', I', rz, b, rfl, q⟩ := z
  obtain rfl : w = Value.bool b := rz
  exact ⟨.bl b, H', I', rfl, q⟩
end
end EV
namespace K6
open PySem PySem.Spec PyProof.Rows L2 LamX NdefX EV
/-! ### full settings -/
def grow1 (rows : List (List Str)) (n : Str) : List (List Str) := rows.flatMap fun r => [r ++ [n], r ++ [neg n]]
def fulls (ns : List Str) : List (List Str) := ns.foldl grow1 [[]]
theorem fulls_snoc (ns : List Str) (n : Str) : fulls (ns ++ [n]) = grow1 (fulls ns) n := by
  unfold fulls
  rw [List.foldl_append]
  rfl
theorem grow1_len (rows : List (List Str)) (n : Str) : (grow1 rows n).length = 2 * rows.length := by
  unfold grow1
  induction rows with
  | nil => rfl
  | cons r t ih => rw [List.flatMap_cons, List.length_append, ih]; simp only [List.length_cons, List.length_nil]; omega
theorem grow1_app (a b : List (List Str)) (n : Str) : grow1 (a ++ b) n = grow1 a n ++ grow1 b n := by
  unfold grow1
  exact List.flatMap_append
theorem foldl_len (ns : List Str) : ∀ rows : List (List Str), (ns.foldl grow1 rows).length = 2 ^ ns.length * rows.length := by
  induction ns with
  | nil => intro rows; simp
  | cons n r ih =>
    intro rows
    rw [List.foldl_cons, ih, grow1_len, List.length_cons, Nat.pow_succ, Nat.mul_assoc]
theorem fulls_len (ns : List Str) : (fulls ns).length = 2 ^ ns.length := by
  unfold fulls
  rw [foldl_len]
  simp
theorem fulls_few {ns : List Str} (h : ns.length ≤ 6) : (fulls ns).length ≤ 64 := by
  rw [fulls_len]
  exact Nat.pow_le_pow_right (by decide) h
theorem foldl_rows (ns : List Str) : ∀ (rows : List (List Str)) (r : List Str), r ∈ ns.foldl grow1 rows ↔ ∃ p ∈ rows, ∃ qs : List (Bool × Str), qs.map Prod.snd = ns ∧ r = p ++ qs.map lit := by
  induction ns with
  | nil =>
    intro rows r
    constructor
    · intro h
      exact ⟨r, h, [], rfl, by simp⟩
    · rintro ⟨p, hp, qs, e, rfl⟩
      obtain rfl : qs = [] := by simpa using e
      simpa using hp
  | cons n ns ih =>
    intro rows r
    rw [List.foldl_cons, ih]
    constructor
    · rintro ⟨p, hp, qs, e, rfl⟩
      obtain ⟨p0, hp0, h⟩ := List.mem_flatMap.mp hp
      rcases List.mem_cons.mp h with h | h
      · exact ⟨p0, hp0, (false, n) :: qs, by rw [List.map_cons, e], by rw [h, List.append_assoc]; rfl⟩
      · rw [List.mem_singleton.mp h]
        exact ⟨p0, hp0, (true, n) :: qs, by rw [List.map_cons, e], by rw [List.append_assoc]; rfl⟩
    · rintro ⟨p, hp, qs, e, rfl⟩
      cases qs with
      | nil => cases e
      | cons q qs =>
        injection e with e1 e2
        obtain ⟨b, m⟩ := q
        subst e1
        refine ⟨p ++ [lit (b, m)], List.mem_flatMap.mpr ⟨p, hp, ?_⟩, qs, e2, by rw [List.append_assoc]; rfl⟩
        cases b
        · exact List.mem_cons_self
        · exact List.mem_cons_of_mem _ List.mem_cons_self
/-- a full setting: one literal for each name, in the order of the names -/
theorem fulls_mem {ns r : List Str} : r ∈ fulls ns ↔ ∃ qs : List (Bool × Str), qs.map Prod.snd = ns ∧ r = qs.map lit := by
  unfold fulls
  rw [foldl_rows]
  constructor
  · rintro ⟨p, hp, qs, e, rfl⟩
    obtain rfl := List.mem_singleton.mp hp
    exact ⟨qs, e, rfl⟩
  · rintro ⟨qs, e, rfl⟩
    exact ⟨[], List.mem_singleton.mpr rfl, qs, e, rfl⟩
def spFS (K : PySem.W.Frag) : Sp := fun vs H Q _ => ∃ (T : Addr) (b : Bool) (ns : List Str), vs = [.ref T] ∧ (∀ H', Same H H' → Sq K b H' T (ns.map V.str)) ∧ ns.length ≤ 6 ∧ (∀ z ∈ ns, z.length ≤ 8) ∧
  ∀ (p : Addr) (ts : List Addr) (H' : Hp), H p = none → H' p = some (.lst (ts.map V.ref)) → RowsAt H' ts (fulls ns) → Same H H' → Q (.ref p) H'
theorem rows_snoc {H : Hp} {ts : List Addr} {rs : List (List Str)} {t : Addr} {r : List Str} (h : RowsAt H ts rs) (ht : TupAt H t r) : RowsAt H (ts ++ [t]) (rs ++ [r]) := Paired.snoc h ht
section
variable {P : Program} {w : World} {K : PySem.W.Frag} {mg : Str → Option Value} {base : Heap} {f : Addr} {fd : FuncData}
abbrev nFS : List Str := ["names", "rows", "name", "row", "literal"]
theorem scFS : FnScope nFS ["names"] (defScope sFullSettings) := ⟨rfl, rfl, rfl, by decide +kernel, rfl, by decide +kernel, by decide +kernel⟩
theorem ok_fs (F : Fun K "full_settings" "full_settings" sFullSettings f fd) : FnOk P w K mg base CX0 1 f fd ["names"] (spFS K) := by
  refine F.ok scFS (fun vs H Q E h => ?_) (fun cdv A outer s H vs Q E hr h => ?_)
  · obtain ⟨T, b, ns, rfl, _⟩ := h
    rfl
  · obtain ⟨T, b, ns, rfl, hT, hn, h8, k⟩ := h
    refine ⟨_, pss_cons (ps_set (i := 1) scFS.nd rfl (.inl rfl) (pe_lst (pa_cons (pe_tup pa_nil) pa_nil)))
      (pss_cons (ps_for PassesOwn.never rfl (pi_seq (pv 0)) (pg_name (i := 2) scFS.nd rfl (.inr rfl))
        (pss_one (ps_setLc2 (i := 1) (own := [("row", 3), ("literal", 4)]) (vs1 := [4]) (g := gName 3) (tt := tYes) (g1 := gName 4) (tt1 := tYes) (by rfl) scFS.nd rfl rfl (sw_true rfl rfl rfl (by decide +kernel)) (pi_list (pv 1)) (blkOk_by (N := nFS) (sc := defScope sFullSettings) (by decide +kernel)) (by decide)
          (fun _ _ _ _ _ => pg_name (i := 3) scFS.nd rfl (.inl rfl)) (fun _ _ _ _ _ => pts_nil) (fun _ _ _ _ _ => show PI _ _ _ (iTup K _) from pi_tup (pe_tup (pa_cons (pv 2) (pa_cons (pe_op op_add_str pe_str (pv 2)) pa_nil)))) (fun _ _ _ _ _ => pg_name (i := 4) scFS.nd rfl (.inl rfl)) (fun _ _ _ _ _ => pts_nil)
          (fun _ _ _ _ _ => pe_tup (show PA _ _ (StX.tStar K _ _) from StX.pa_star (pv 3) (pa_cons (pv 4) pa_nil))))))
      (pss_one (ps_ret (pv 1)))), ?_⟩
    refine ⟨Nat.zero_le _, fun t0 ht0 => ⟨(by show 1 ≤ sizeLine; decide), fun p0 hp0 => ?_⟩⟩
    have s0 : Same H _ := (same_new (o := .tup []) ht0).trans (same_new (o := .lst [.ref t0]) hp0)
    have w0 := (same_new (o := .lst [.ref t0]) hp0) _ _ (upd_same (H := H) (a := t0) (o := .tup []))
    have hp0H : H p0 = none := by
      have z := hp0
      rwa [upd_ne (ne_of_none (upd_same (H := H) (a := t0) (o := .tup [])) hp0).symm] at z
    refine ⟨_, rfl, b, T, _, rfl, hT _ s0, for_it walk_sq (fun i σ H2 => ∃ p ts o2, σ = [some (.ref T), some (.ref p), o2, none, none] ∧ H p = none ∧ H2 p = some (.lst (ts.map V.ref)) ∧ RowsAt H2 ts (fulls (ns.take i)) ∧ Same H H2) ⟨p0, [t0], none, rfl, hp0H, upd_same, .cons w0 .nil, s0⟩ (fun i σ H2 _ ⟨_, _, _, _, _, _, _, sm⟩ => hT _ sm) ?_ ?_⟩
    · rintro i x σ H2 H3 hi ⟨p, ts, o2, rfl, hp, hp2, rows, sm⟩ ⟨rfl, hx⟩
      obtain ⟨n, hn', rfl⟩ := get_map hx
      have n8 := h8 n (List.mem_of_getElem? hn')
      have ilt : i < ns.length := (List.getElem?_eq_some_iff.mp hn').1
      have et : ns.take (i + 1) = ns.take i ++ [n] := by rw [List.take_succ, hn']; rfl
      have few : (fulls (ns.take i)).length ≤ 64 := fulls_few (by rw [List.length_take]; omega)
      have lts : ts.length = (fulls (ns.take i)).length := Paired.length rows
      refine ⟨_, rfl, p, rfl, ⟨_, SqL.of hp2⟩, fun D hD => lc2_it walk_list (fun j H4 => Same H3 H4 ∧ ∃ us, H4 D = some (.lst (us.map V.ref)) ∧ RowsAt H4 us (grow1 ((fulls (ns.take i)).take j) n)) ⟨same_new hD, [], upd_same, .nil⟩ (fun j H4 _ hh => SqL.of (hh.1 _ _ hp2)) ?_ ?_⟩
      · rintro j y H4 H5 hj ⟨sm4, us, hD4, ru⟩ ⟨rfl, hy⟩
        obtain ⟨t, ht, rfl⟩ := get_map hy
        obtain ⟨r, hr', hrt3⟩ := RowsAt.get rows j t ht
        have er : (fulls (ns.take i)).take (j + 1) = (fulls (ns.take i)).take j ++ [r] := by rw [List.take_succ, hr']; rfl
        have lus : us.length ≤ 128 := by
          have z := Paired.length ru
          rw [grow1_len, List.length_take] at z
          omega
        have lr : r.length ≤ 6 := by
          obtain ⟨qs, e, rfl⟩ := fulls_mem.mp (List.mem_of_getElem? hr')
          have z := congrArg List.length e
          rw [List.length_map, List.length_take] at z
          rw [List.length_map]
          omega
        have np : p ≠ D := ne_of_none hp2 hD
        refine ⟨rfl, _, rfl, _, rfl, _, _, rfl, rfl, by show 1 + n.length ≤ sizeLine; rw [sizeLine_eq]; omega, by show 2 ≤ sizeLine; decide, fun t2 ht2 => ⟨t2, rfl, ⟨_, SqT.of upd_same⟩, in_it (walk_tup (xs := [V.str n, V.str (neg n)])) (fun m H6 => Same H3 H6 ∧ H6 t2 = some (.tup [.str n, .str (neg n)]) ∧ ∃ vs, H6 D = some (.lst ((us ++ vs).map V.ref)) ∧ vs.length ≤ m ∧ RowsAt H6 (us ++ vs) (grow1 ((fulls (ns.take i)).take j) n ++ ([n, neg n].take m).map fun l => r ++ [l])) ?_ (fun m H6 _ hh => SqT.of hh.2.1) ?_ ?_⟩⟩
        · refine ⟨sm4.trans (same_new ht2), upd_same, [], ?_, Nat.le_refl _, ?_⟩
          · rw [List.append_nil]
            exact (upd_ne (ne_of_none hD4 ht2)).trans hD4
          · rw [List.append_nil, List.take_zero, List.map_nil, List.append_nil]
            exact ru.same (same_new ht2)
        · rintro m z H6 H7 hm ⟨sm6, ht6, vs, hD6, lvs, rv⟩ ⟨rfl, hz⟩
          obtain ⟨l, hl, rfl⟩ := get_map (g := V.str) (xs := [n, neg n]) hz
          have e2 : [n, neg n].take (m + 1) = [n, neg n].take m ++ [l] := by rw [List.take_succ, hl]; rfl
          have m2 : m < 2 := hm
          have hrt7 : TupAt H7 t r := sm6 _ _ hrt3
          refine ⟨rfl, _, rfl, t, r.map V.str, rfl, .inl (SqT.of hrt7), _, rfl, by rw [List.length_append, List.length_map, sizeLine_eq]; show _ + 1 ≤ _; omega, fun q hq => ?_⟩
          have nqD : q ≠ D := (ne_of_none hD6 hq).symm
          have sq : Same H7 _ := same_new (o := .tup (r.map V.str ++ [.str l])) hq
          refine ⟨_, sq _ _ hD6, by rw [List.length_map, List.length_append, sizeLine_eq]; omega, fun b' o h => (upd_ne (ne_of_none h hD)).trans (sq _ _ (sm6 b' o h)), (upd_ne (ne_of ht6 hD6 fun z => nomatch z)).trans (sq _ _ ht6), vs ++ [q], ?_, by rw [List.length_append]; show _ + 1 ≤ _; omega, ?_⟩
          · rw [upd_same, ← List.append_assoc, List.map_append (l₁ := us ++ vs)]
            rfl
          · have e3 : grow1 ((fulls (ns.take i)).take j) n ++ ([n, neg n].take (m + 1)).map (fun l => r ++ [l]) = (grow1 ((fulls (ns.take i)).take j) n ++ ([n, neg n].take m).map (fun l => r ++ [l])) ++ [r ++ [l]] := by
              rw [e2, List.map_append, ← List.append_assoc]
              rfl
            rw [e3, ← List.append_assoc]
            refine RowsAt.put (sq _ _ hD6) (rows_snoc (rv.same sq) ?_)
            show upd _ _ _ _ = _
            rw [upd_same, List.map_append]
            rfl
        · rintro H6 ⟨sm6, _, vs, hD6, _, rv⟩
          refine ⟨sm6, us ++ vs, hD6, ?_⟩
          rw [er, grow1_app]
          exact rv
      · rintro H4 ⟨sm4, us, hD4, ru⟩
        rw [List.length_map, lts, List.take_length] at ru
        have hDH : H D = none := sm.free hD
        refine ⟨D, us, _, rfl, hDH, hD4, ?_, sm.trans sm4⟩
        rw [et, fulls_snoc]
        exact ru
    · rintro σ H2 ⟨p, ts, o2, rfl, hp, hp2, rows, sm⟩
      rw [List.length_map, List.take_length] at rows
      exact ⟨_, rfl, k p ts H2 hp hp2 rows sm⟩
end
end K6
namespace K6
open PySem PySem.Spec PyProof.Rows L2 LamX NdefX EV
theorem paired_app {α β : Type} {R : α → β → Prop} : ∀ {xs xs' : List α} {ys ys' : List β}, Paired R xs ys → Paired R xs' ys' → Paired R (xs ++ xs') (ys ++ ys')
  | _, _, _, _, .nil, h => h
  | _, _, _, _, .cons r t, h => .cons r (paired_app t h)
theorem cat_one {K : PySem.W.Frag} {H : Hp} {t q : Addr} {r : List Str} {l : Str} {Q : VK} (ht : TupAt H t r) (hq : H q = some (.tup [.str l])) (few : r.length ≤ 100) (k : ∀ p H', TupAt H' p (r ++ [l]) → Same H H' → Q (.ref p) H') : rCatA K (.ref t) (.ref q) H Q := by
  refine ⟨t, q, r.map V.str, [.str l], rfl, rfl, SqT.of ht, SqT.of hq, by rw [List.length_map, sizeLine_eq]; show _ + 1 ≤ _; omega, fun e => ?_, (fun _ e => nomatch e), fun _ _ p hp => ?_⟩
  · have e2 : r = [] := by simpa using e
    subst e2
    exact k q H hq (Same.refl H)
  · refine k p _ ?_ (same_new hp)
    show upd _ _ _ _ = _
    rw [upd_same, List.map_append]
    rfl
def spFulls (K : PySem.W.Frag) : Sp := fun vs H Q _ => ∃ (T : Addr) (ns : List Str), vs = [.ref T] ∧ (∀ H', Same H H' → SqL K H' T (ns.map V.str)) ∧ ns.length ≤ 6 ∧ (∀ z ∈ ns, z.length ≤ 8) ∧
  ∀ (p : Addr) (ts : List Addr) (H' : Hp), H p = none → H' p = some (.lst (ts.map V.ref)) → RowsAt H' ts (fulls ns) → Same H H' → Q (.ref p) H'
def spChkCount (K : PySem.W.Frag) : Sp := fun vs H Q _ => ∃ (T : Addr) (b : Bool) (xs : List V), vs = [.ref T] ∧ Sq K b H T xs ∧ xs.length ≤ 6 ∧ Q .non H
def spIsFull (K : PySem.W.Frag) : Sp := fun vs H Q _ => ∃ (PL : Addr) (x : V) (ns : List Str), vs = [.ref PL, x] ∧ H PL = some (.dK (plc ns)) ∧ ns.length ≤ 60 ∧ ns.Nodup ∧ (∀ z ∈ ns, Name1 z) ∧
  ((∃ s qs, Given K s H ns x qs ∧ ∀ H', Same H H' → Q (.bl (decide (qs.length = ns.length))) H') ∨ (Ask K H ns false x ∧ ∀ H', Same H H' → Q (.bl false) H'))
theorem Sq.len {K : PySem.W.Frag} {H : Hp} {b : Bool} {a : Addr} {xs : List V} (h : Sq K b H a xs) : LenV K (.ref a) H xs.length := by
  cases b
  · exact .inr ⟨xs, h, rfl⟩
  · exact .inl ⟨xs, h, rfl⟩
section
variable {P : Program} {w : World} {K : PySem.W.Frag} {mg : Str → Option Value} {base : Heap} {f fC : Addr} {fd fdC : FuncData}
abbrev nFulls : List Str := ["_law_names_here", "_law_found", "_law_name", "_law_longer", "_law_one"]
theorem scFulls : FnScope nFulls ["_law_names_here"] (defScope sFulls) := ⟨rfl, rfl, rfl, by decide +kernel, rfl, by decide +kernel, by decide +kernel⟩
theorem ok_fulls (F : Fun K "_law_fulls" "_law_fulls" sFulls f fd) : FnOk P w K mg base CX0 1 f fd ["_law_names_here"] (spFulls K) := by
  refine F.ok scFulls (fun vs H Q E h => ?_) (fun cdv A outer s H vs Q E hr h => ?_)
  · obtain ⟨T, ns, rfl, _⟩ := h
    rfl
  · obtain ⟨T, ns, rfl, hT, hn, h8, k⟩ := h
    refine ⟨_, pss_cons (ps_set (i := 1) scFulls.nd rfl (.inl rfl) (pe_lst (pa_cons (pe_tup pa_nil) pa_nil)))
      (pss_cons (ps_for PassesOwn.never rfl (pi_list (pv 0)) (pg_name (i := 2) scFulls.nd rfl (.inl rfl))
        (pss_cons (ps_set (i := 3) scFulls.nd rfl (.inl rfl) (pe_lst pa_nil))
        (pss_cons (ps_for PassesOwn.never rfl (pi_list (pv 1)) (pg_name (i := 4) scFulls.nd rfl (.inl rfl))
          (pss_one (ps_expr (pe_bm PySem.F.plainAttrs_list PySem.F.slot_list_extend PySem.F.type_list_extend mt_extend (pv 3) (pa_cons (pe_lst (pa_cons (pe_op op_catA (pv 4) (pe_tup (pa_cons (pv 2) pa_nil))) (pa_cons (pe_op op_catA (pv 4) (pe_tup (pa_cons (pe_op op_add_str pe_str (pv 2)) pa_nil))) pa_nil))) pa_nil)))))
        (pss_one (ps_set (i := 1) scFulls.nd rfl (.inl rfl) (pv 3))))))
      (pss_one (ps_ret (pv 1)))), ?_⟩
    refine ⟨Nat.zero_le _, fun t0 ht0 => ⟨(by show 1 ≤ sizeLine; decide), fun p0 hp0 => ?_⟩⟩
    have s0 : Same H _ := (same_new (o := .tup []) ht0).trans (same_new (o := .lst [.ref t0]) hp0)
    have w0 := (same_new (o := .lst [.ref t0]) hp0) _ _ (upd_same (H := H) (a := t0) (o := .tup []))
    have hp0H : H p0 = none := by
      have z := hp0
      rwa [upd_ne (ne_of_none (upd_same (H := H) (a := t0) (o := .tup [])) hp0).symm] at z
    refine ⟨_, rfl, T, rfl, ⟨_, hT _ s0⟩, for_list (K := K) (a := T) (xs := ns.map V.str) (fun i σ H2 => ∃ p ts o2 o3 o4, σ = [some (.ref T), some (.ref p), o2, o3, o4] ∧ H p = none ∧ H2 p = some (.lst (ts.map V.ref)) ∧ RowsAt H2 ts (fulls (ns.take i)) ∧ Same H H2) ⟨p0, [t0], none, none, none, rfl, hp0H, upd_same, .cons w0 .nil, s0⟩ (fun i σ H2 _ ⟨_, _, _, _, _, _, _, _, _, sm⟩ => hT _ sm) ?_ ?_⟩
    · rintro i x σ H3 hx ⟨p, ts, o2, o3, o4, rfl, hp, hp2, rows, sm⟩
      obtain ⟨n, hn', rfl⟩ := get_map hx
      have n8 := h8 n (List.mem_of_getElem? hn')
      have ilt : i < ns.length := (List.getElem?_eq_some_iff.mp hn').1
      have et : ns.take (i + 1) = ns.take i ++ [n] := by rw [List.take_succ, hn']; rfl
      have few : (fulls (ns.take i)).length ≤ 64 := fulls_few (by rw [List.length_take]; omega)
      have lts : ts.length = (fulls (ns.take i)).length := Paired.length rows
      refine ⟨Nat.zero_le _, fun D hD => ?_⟩
      have hDH : H D = none := sm.free hD
      have np : p ≠ D := ne_of_none hp2 hD
      refine ⟨_, rfl, p, rfl, ⟨_, SqL.of ((same_new hD) _ _ hp2)⟩, for_list (K := K) (a := p) (xs := ts.map V.ref) (fun j σ H4 => ∃ o4 us, σ = [some (.ref T), some (.ref p), some (.str n), some (.ref D), o4] ∧ Same H3 H4 ∧ H4 D = some (.lst (us.map V.ref)) ∧ RowsAt H4 us (grow1 ((fulls (ns.take i)).take j) n)) ⟨_, [], rfl, same_new hD, upd_same, .nil⟩ (fun j σ H4 _ ⟨_, _, _, hh, _⟩ => SqL.of (hh _ _ hp2)) ?_ ?_⟩
      · rintro j y σ H4 hy ⟨o4, us, rfl, sm4, hD4, ru⟩
        obtain ⟨t, ht, rfl⟩ := get_map hy
        obtain ⟨r, hr', hrt3⟩ := RowsAt.get rows j t ht
        have er : (fulls (ns.take i)).take (j + 1) = (fulls (ns.take i)).take j ++ [r] := by rw [List.take_succ, hr']; rfl
        have lus : us.length ≤ 128 := by
          have z := Paired.length ru
          rw [grow1_len, List.length_take] at z
          omega
        have lr : r.length ≤ 6 := by
          obtain ⟨qs, e, rfl⟩ := fulls_mem.mp (List.mem_of_getElem? hr')
          have z := congrArg List.length e
          rw [List.length_map, List.length_take] at z
          rw [List.length_map]
          omega
        refine ⟨_, rfl, .inl ⟨rfl, _, SqL.of hD4⟩, _, rfl, _, rfl, by show 1 ≤ sizeLine; decide, fun q1 hq1 => ?_⟩
        have a1 : Same H4 _ := same_new (o := .tup [.str n]) hq1
        refine cat_one (a1 _ _ (sm4 _ _ hrt3)) upd_same (by omega) fun v1 H5 hv1 s5 => ?_
        have sm5 := a1.trans s5
        refine ⟨_, rfl, _, rfl, _, _, rfl, rfl, by show 1 + n.length ≤ sizeLine; rw [sizeLine_eq]; omega, by show 1 ≤ sizeLine; decide, fun q2 hq2 => ?_⟩
        have a2 : Same H5 _ := same_new (o := .tup [.str (neg n)]) hq2
        refine cat_one (a2 _ _ (sm5 _ _ (sm4 _ _ hrt3))) upd_same (by omega) fun v2 H6 hv2 s6 => ⟨by show 2 ≤ sizeLine; decide, fun m hm => ?_⟩
        have a3 : Same H6 _ := same_new (o := .lst [.ref v1, .ref v2]) hm
        have s46 : Same H4 (upd H6 m (.lst [.ref v1, .ref v2])) := (sm5.trans (a2.trans s6)).trans a3
        refine ⟨D, m, _, _, rfl, rfl, s46 _ _ hD4, upd_same, by rw [List.length_map, sizeLine_eq]; show _ + 2 ≤ _; omega, _, us ++ [v1, v2], rfl, fun b o h => (upd_ne (ne_of_none h hD)).trans (s46 _ _ (sm4 _ _ h)), ?_, ?_⟩
        · rw [upd_same, List.map_append]
          rfl
        · refine RowsAt.put (s46 _ _ hD4) ?_
          rw [er, grow1_app]
          refine paired_app (ru.same s46) ?_
          exact .cons (a3 _ _ (s6 _ _ (a2 _ _ hv1))) (.cons (a3 _ _ hv2) .nil)
      · rintro σ H4 ⟨o4, us, rfl, sm4, hD4, ru⟩
        rw [List.length_map, lts, List.take_length] at ru
        refine ⟨_, rfl, D, us, _, _, _, rfl, hDH, hD4, ?_, sm.trans sm4⟩
        rw [et, fulls_snoc]
        exact ru
    · rintro σ H2 ⟨p, ts, o2, o3, o4, rfl, hp, hp2, rows, sm⟩
      rw [List.length_map, List.take_length] at rows
      exact ⟨_, rfl, k p ts H2 hp hp2 rows sm⟩
theorem scChkCount : FnScope ["names"] ["names"] (defScope sChkCount) := ⟨rfl, rfl, rfl, by decide +kernel, rfl, by decide +kernel, by decide +kernel⟩
theorem ok_chkCount (F : Fun K "check_count" "check_count" sChkCount f fd) (ml : mg "len" = none) (mS : ∃ t, mg "MOST_SIGNS" = some (.int 6 t)) : FnOk P w K mg base CX0 1 f fd ["names"] (spChkCount K) := by
  obtain ⟨tS, mS⟩ := mS
  refine F.ok scChkCount (fun vs H Q E h => ?_) (fun cdv A outer s H vs Q E hr h => ?_)
  · obtain ⟨T, b, xs, rfl, _⟩ := h
    rfl
  · obtain ⟨T, b, xs, rfl, hT, few, k⟩ := h
    refine ⟨_, pss_one (ps_if (pt_cmpR op_gt (pe_callB call_len (by rfl) ml PySem.boot_len (pa_cons (pv 0) pa_nil)) (pe_glob (v := .int 6) (by rfl) mS ⟨_, rfl⟩) (nomark _)) (pss_one ps_none) pss_nil), ?_⟩
    refine ⟨_, rfl, _, xs.length, rfl, Sq.len hT, _, _, rfl, rfl, _, rfl, ?_⟩
    rw [decide_eq_false (by omega)]
    exact iteF k
theorem scIsFull : FnScope ["places", "thing"] ["places", "thing"] (defScope sIsFull) := ⟨rfl, rfl, rfl, by decide +kernel, rfl, by decide +kernel, by decide +kernel⟩
theorem ok_isFull (F : Fun K "is_full" "is_full" sIsFull f fd) (ml : mg "len" = none) (GC : FnOk P w K mg base CX0 3 fC fdC ["places", "thing"] (spIsClause K)) (mC : mg "is_clause" = some (.ref fC)) (kC : PySem.W.keepIn K (.ref fC) = true) (bC : L2.Binds K fdC ["places", "thing"] []) :
    FnOk P w K mg base CX0 4 f fd ["places", "thing"] (spIsFull K) := by
  refine F.ok scIsFull (fun vs H Q E h => ?_) (fun cdv A' outer s H vs Q E hr h => ?_)
  · obtain ⟨PL, x, ns, rfl, _⟩ := h
    rfl
  · obtain ⟨PL, x, ns, rfl, hPL, hn, nd, good, way⟩ := h
    refine ⟨_, pss_one (ps_ret (pe_and (pe_call GC hr (by rfl) mC kC bC .nil pass0 (pa_cons (pv 0) (pa_cons (pv 1) pa_nil))) (pe_one (pe_cmpR op_eq (pe_op op_mul pe_int (pe_callB call_len (by rfl) ml PySem.boot_len (pa_cons (pv 1) pa_nil))) (pe_callB call_lenD (by rfl) ml PySem.boot_len (pa_cons (pv 0) pa_nil)) (nomark _))))), ?_⟩
    rcases way with ⟨s', qs, giv, k⟩ | ⟨ask, k⟩
    · refine ⟨_, rfl, _, rfl, PL, x, ns, true, rfl, hPL, hn, nd, good, giv.ask, fun H1 sm1 => ⟨_, rfl, iteT ?_⟩⟩
      obtain ⟨hq, b, A, t, rfl, ty, kit, sq⟩ := giv
      have few : qs.length ≤ ns.length := by
        have z := nodup_le (qs.map Prod.snd) ns hq.nd fun n hn => by
          obtain ⟨q, hq', rfl⟩ := List.mem_map.mp hn
          exact hq.sub q hq'
        rwa [List.length_map] at z
      have ll : ((qs.map lit).map V.str).length = qs.length := by rw [List.length_map, List.length_map]
      have sL : LenV K (.ref A) H1 qs.length := ll ▸ Sq.len (sq _ (.of sm1))
      refine ⟨_, rfl, _, qs.length, rfl, sL, _, _, rfl, rfl, .inl ⟨by omega, by omega⟩, _, rfl, PL, _, rfl, sm1 _ _ hPL, rfl, ?_⟩
      have e : decide (V.int (2 * ((qs.length : Nat) : Int)) = V.int ((plc ns).length : Int)) = decide (qs.length = ns.length) := by
        rw [plcF_len, lits_len]
        refine decide_eq_decide.mpr ⟨fun h => ?_, fun h => ?_⟩
        · injection h with h
          omega
        · rw [h]
          congr 1
      show Q (.bl (decide (V.int (2 * ((qs.length : Nat) : Int)) = V.int ((plc ns).length : Int)))) H1
      rw [e]
      exact k H1 sm1
    · exact ⟨_, rfl, _, rfl, PL, x, ns, false, rfl, hPL, hn, nd, good, ask, fun H1 sm1 => ⟨_, rfl, iteF (k H1 sm1)⟩⟩
end
end K6
namespace K6
open PySem PySem.Spec PyProof.Rows L2 LamX NdefX EV
abbrev sInit : Stmt := inClass (top 26) 0
abbrev sSigns : Stmt := inClass (top 26) 1
abbrev sSettings : Stmt := inClass (top 26) 2
abbrev sLen : Stmt := inClass (top 26) 6
abbrev sContains : Stmt := inClass (top 26) 7
abbrev sLe : Stmt := inClass (top 26) 12
abbrev sEq : Stmt := inClass (top 26) 14
/-! ### rules -/
theorem neg_ne (n : Str) : n ≠ neg n := fun e => by
  have z := neg_len n
  rw [← e] at z
  omega
theorem grow1_mem {rows : List (List Str)} {n : Str} {r : List Str} : r ∈ grow1 rows n ↔ ∃ p ∈ rows, r = p ++ [n] ∨ r = p ++ [neg n] := by
  unfold grow1
  rw [List.mem_flatMap]
  constructor
  · rintro ⟨p, hp, h⟩
    rcases List.mem_cons.mp h with h | h
    · exact ⟨p, hp, .inl h⟩
    · exact ⟨p, hp, .inr (List.mem_singleton.mp h)⟩
  · rintro ⟨p, hp, h | h⟩
    · exact ⟨p, hp, by rw [h]; exact List.mem_cons_self⟩
    · exact ⟨p, hp, by rw [h]; exact List.mem_cons_of_mem _ (List.mem_singleton.mpr rfl)⟩
theorem snoc_inj {α : Type} {a b : List α} {x y : α} (h : a ++ [x] = b ++ [y]) : a = b ∧ x = y := by
  obtain ⟨h1, h2⟩ := List.append_inj' h rfl
  exact ⟨h1, by injection h2⟩
theorem grow1_nodup (n : Str) : ∀ rows : List (List Str), rows.Nodup → (grow1 rows n).Nodup
  | [], _ => List.nodup_nil
  | r :: t, nd => by
    obtain ⟨h1, h2⟩ := List.nodup_cons.mp nd
    have ih := grow1_nodup n t h2
    show ((r ++ [n]) :: (r ++ [neg n]) :: grow1 t n).Nodup
    refine List.nodup_cons.mpr ⟨fun h => ?_, List.nodup_cons.mpr ⟨fun h => ?_, ih⟩⟩
    · rcases List.mem_cons.mp h with h | h
      · exact neg_ne n (snoc_inj h).2
      · obtain ⟨p, hp, e | e⟩ := grow1_mem.mp h
        · exact h1 ((snoc_inj e).1 ▸ hp)
        · exact neg_ne n (snoc_inj e).2
    · obtain ⟨p, hp, e | e⟩ := grow1_mem.mp h
      · exact neg_ne n (snoc_inj e).2.symm
      · exact h1 ((snoc_inj e).1 ▸ hp)
theorem foldl_nodup : ∀ (ns : List Str) (rows : List (List Str)), rows.Nodup → (ns.foldl grow1 rows).Nodup
  | [], _, nd => nd
  | n :: ns, rows, nd => foldl_nodup ns _ (grow1_nodup n rows nd)
theorem fulls_nodup (ns : List Str) : (fulls ns).Nodup := foldl_nodup ns [[]] (List.nodup_cons.mpr ⟨fun h => (nomatch h), List.nodup_nil⟩)
theorem addRow_iff {rs : List (List Str)} {r x : List Str} : x ∈ addRow rs r ↔ x ∈ rs ∨ x = r := by
  unfold addRow
  split
  · rename_i h
    exact ⟨.inl, fun q => q.elim id fun e => e ▸ h⟩
  · rw [List.mem_append, List.mem_singleton]
theorem fold_iff : ∀ (xs acc : List (List Str)) (x : List Str), x ∈ xs.foldl addRow acc ↔ x ∈ acc ∨ x ∈ xs
  | [], _, _ => ⟨.inl, fun h => h.elim id fun z => nomatch z⟩
  | y :: xs, acc, x => by
    rw [List.foldl_cons, fold_iff xs, addRow_iff, List.mem_cons, or_assoc]
theorem rowsOf_iff {ns : List Str} {qss : List (List (Bool × Str))} {r : List Str} : r ∈ rowsOf ns qss ↔ ∃ qs ∈ qss, r = asc ns (qs.map lit) := by
  unfold rowsOf
  rw [fold_iff, List.mem_map]
  constructor
  · rintro (h | ⟨qs, h, e⟩)
    · cases h
    · exact ⟨qs, h, e.symm⟩
  · rintro ⟨qs, h, e⟩
    exact .inr ⟨qs, h, e.symm⟩
/-- the allowed settings of a rule of which these are given -/
def allow (ns : List Str) (gs : List (List Str)) : List (List Str) := (fulls ns).filter fun r => decide (r ∈ gs)
/-- the fields of a rule -/
def fl (a pl r : Addr) : List (Str × V) := putF "rows" (.ref r) (putF "places" (.ref pl) (putF "names" (.ref a) []))
theorem fl_eq (a pl r : Addr) : fl a pl r = ([("names", V.ref a), ("places", V.ref pl), ("rows", V.ref r)] : List (Str × V)) := by
  unfold fl putF
  rfl
theorem fl1 (a pl r : Addr) : (fl a pl r).lookup ("names" : Str) = some (.ref a) := by rw [fl_eq]; rfl
theorem fl2 (a pl r : Addr) : (fl a pl r).lookup ("places" : Str) = some (.ref pl) := by rw [fl_eq]; rfl
theorem fl3 (a pl r : Addr) : (fl a pl r).lookup ("rows" : Str) = some (.ref r) := by rw [fl_eq]; rfl
theorem fl_no {a pl r : Addr} {m : Str} (h : (["names", "places", "rows"] : List Str).contains m = false) : (fl a pl r).lookup m = none := by
  rw [fl_eq]
  simp only [List.contains_cons, List.contains_nil, Bool.or_false, Bool.or_eq_false_iff] at h
  obtain ⟨h1, h2, h3⟩ := h
  simp only [List.lookup, h1, h2, h3]
/-- a rule that stands in the heap, the rows' dict named -/
structure RuleR (K : PySem.W.Frag) (C : Addr) (H : Hp) (x : Addr) (sg : List Str) (rs : List (List Str)) (r : Addr) : Prop where
  at_ : ∃ dx a pl, H x = some (.ins C dx (fl a pl r)) ∧ (∀ H', Same H H' → SqT K H' a (sg.map V.str)) ∧ H pl = some (.dK (plc sg)) ∧ H r = some (.dT (rs.map rowKv))
structure RTxt (K : PySem.W.Frag) (mg : Str → Option Value) (C : Addr) : Prop where
  cl : Cls K C
  n1 : NoAttr K C "names"
  n2 : NoAttr K C "places"
  n3 : NoAttr K C "rows"
  mgC : mg "Rule" = some (.ref C)
  tuple : mg "tuple" = none
  list : mg "list" = none
  len : mg "len" = none
theorem RuleR.same {K : PySem.W.Frag} {C : Addr} {H H' : Hp} {x r : Addr} {sg : List Str} {rs : List (List Str)} (c : RuleR K C H x sg rs r) (sm : Same H H') : RuleR K C H' x sg rs r := by
  obtain ⟨dx, a, pl, h1, h2, h4, h5⟩ := c.at_
  exact ⟨dx, a, pl, sm _ _ h1, fun H2 s2 => h2 H2 (sm.trans s2), sm _ _ h4, sm _ _ h5⟩
theorem RuleR.off {K : PySem.W.Frag} {C : Addr} {H H' : Hp} {x r d : Addr} {sg : List Str} {rs : List (List Str)} {ws : List (List Key × V)} (c : RuleR K C H x sg rs r) (hd : H d = some (.dT ws)) (ne : r ≠ d) (g : Grow d H H') : RuleR K C H' x sg rs r := by
  obtain ⟨dx, a, pl, h1, h2, h4, h5⟩ := c.at_
  exact ⟨dx, a, pl, g _ _ (fun e => by rw [e, hd] at h1; cases h1) h1, fun H2 s2 => (sqT_off (h2 H (Same.refl H)) hd g).ext s2, g _ _ (fun e => by rw [e, hd] at h4; cases h4) h4, g _ _ ne h5⟩
theorem RuleR.kept {K : PySem.W.Frag} {C : Addr} {H H' : Hp} {S L x r : Addr} {sg : List Str} {rs : List (List Str)} (cr : RuleR K C H x sg rs r) (hS : Two H S L) (k : Kept S L H H') : RuleR K C H' x sg rs r := by
  obtain ⟨dx, a, pl, h1, h2, h4, h5⟩ := cr.at_
  obtain ⟨⟨_, g1⟩, ⟨_, g2⟩⟩ := id hS
  exact ⟨dx, a, pl, k _ _ h1 (ne_of h1 g1 fun z => nomatch z) (ne_of h1 g2 fun z => nomatch z), fun H2 s2 => (sqT_kept (h2 H (Same.refl H)) hS k).ext s2, k _ _ h4 (ne_of h4 g1 fun z => nomatch z) (ne_of h4 g2 fun z => nomatch z), k _ _ h5 (ne_of h5 g1 fun z => nomatch z) (ne_of h5 g2 fun z => nomatch z)⟩
def spInit (K : PySem.W.Frag) (C : Addr) : Sp := fun vs H Q _ => ∃ (x dx S0 T0 : Addr) (b1 b2 : Bool) (sg : List Str) (xs : List V) (qss : List (List (Bool × Str))), vs = [.ref x, .ref S0, .ref T0] ∧ H x = some (.ins C dx []) ∧
  (∀ H', Grow x H H' → Sq K b1 H' S0 (sg.map V.str)) ∧ (∀ H', Grow x H H' → Sq K b2 H' T0 xs) ∧ sg.length ≤ 6 ∧ sg.Nodup ∧ (∀ z ∈ sg, Name1 z) ∧ Paired (Given K x H sg) xs qss ∧ (∀ qs ∈ qss, qs.length = sg.length) ∧ qss.length ≤ 1000 ∧
  ∀ H' r, Grow x H H' → RuleR K C H' x sg (allow sg (rowsOf sg qss)) r → H r = none → Q .non H'
theorem Given.same {K : PySem.W.Frag} {s : Addr} {H H' : Hp} {ns : List Str} {x : V} {qs : List (Bool × Str)} (g : Given K s H ns x qs) (sm : Same H H') : Given K s H' ns x qs := by
  obtain ⟨hq, b, A, t, rfl, ty, kit, sq⟩ := g
  exact ⟨hq, b, A, t, rfl, fun H2 g2 => ty H2 ((Grow.of sm).trans g2), kit, fun H2 g2 => sq H2 ((Grow.of sm).trans g2)⟩
section
variable {P : Program} {w : World} {K : PySem.W.Frag} {mg : Str → Option Value} {base : Heap} {f fN fP fC fO fU fS C : Addr} {fd fdN fdP fdC fdO fdU fdS : FuncData}
abbrev nInit : List Str := ["self", "signs", "settings", "places", "index", "thing", "given", "setting", "row"]
theorem scInit : FnScope nInit ["self", "signs", "settings"] (defScope sInit) := ⟨rfl, rfl, rfl, by decide +kernel, rfl, by decide +kernel, by decide +kernel⟩
theorem ok_init {A1 : Addr} {dsN : List Value} (F : Fun K "__init__" "Rule.__init__" sInit f fd) (T : RTxt K mg C) (me : mg "enumerate" = none)
    (GN : FnOk P w K mg base CX0 2 fN fdN ["things", "taken"] (spChkNames K)) (mN : mg "check_names" = some (.ref fN)) (kN : PySem.W.keepIn K (.ref fN) = true) (hN1 : NilT K A1) (dN : Vals [.ref A1] dsN) (bN : L2.Binds K fdN ["things", "taken"] dsN)
    (GU : FnOk P w K mg base CX0 1 fU fdU ["names"] (spChkCount K)) (mU : mg "check_count" = some (.ref fU)) (kU : PySem.W.keepIn K (.ref fU) = true) (bU : L2.Binds K fdU ["names"] [])
    (GP : FnOk P w K mg base CX0 2 fP fdP ["names"] (spPlaces K)) (mP : mg "places_of" = some (.ref fP)) (kP : PySem.W.keepIn K (.ref fP) = true) (bP : L2.Binds K fdP ["names"] [])
    (GC : FnOk P w K mg base CX0 4 fC fdC ["places", "thing"] (spIsFull K)) (mC : mg "is_full" = some (.ref fC)) (kC : PySem.W.keepIn K (.ref fC) = true) (bC : L2.Binds K fdC ["places", "thing"] [])
    (GO : FnOk P w K mg base CX0 1 fO fdO ["places", "literals"] (spInOrder K)) (mO : mg "in_order" = some (.ref fO)) (kO : PySem.W.keepIn K (.ref fO) = true) (bO : L2.Binds K fdO ["places", "literals"] [])
    (GS : FnOk P w K mg base CX0 1 fS fdS ["names"] (spFS K)) (mS : mg "full_settings" = some (.ref fS)) (kS : PySem.W.keepIn K (.ref fS) = true) (bS : L2.Binds K fdS ["names"] []) :
    FnOk P w K mg base CX0 5 f fd ["self", "signs", "settings"] (spInit K C) := by
  refine F.ok scInit (fun vs H Q E h => ?_) (fun cdv A' outer s H vs Q E hr h => ?_)
  · obtain ⟨x, dx, S0, T0, b1, b2, sg, xs, qss, rfl, _⟩ := h
    rfl
  · obtain ⟨x, dx, S0, T0, b1, b2, sg, xs, qss, rfl, hx, hS, hT, n6, nd, good, giv, lens, few, k⟩ := h
    have hu := hu_of hr
    have hr1 : Room 1 _ := hr.mono (by decide)
    have hr2 : Room 2 _ := hr.mono (by decide)
    have n60 : sg.length ≤ 60 := by omega
    refine ⟨_, pss_cons (ps_expr (pe_call GN hr2 (by rfl) mN kN bN dN pass0 (pa_cons (pv 1) pa_nil)))
      (pss_cons (ps_expr (pe_call GU hr1 (by rfl) mU kU bU .nil pass0 (pa_cons (pv 1) pa_nil)))
      (pss_cons (ps_set (i := 3) scInit.nd rfl (.inr rfl) (pe_call GP hr2 (by rfl) mP kP bP .nil pass0 (pa_cons (pv 1) pa_nil)))
      (pss_cons (ps_for PassesOwn.never rfl (pi_enumB (by rfl) me (pa_cons (pv 2) pa_nil)) (pg_tup rfl (pgs_cons (pg_name (i := 4) scInit.nd rfl (.inl rfl)) (pgs_cons (pg_name (i := 5) scInit.nd rfl (.inl rfl)) pgs_nil)))
        (pss_one (ps_if (pt_not (pt_val (pe_call GC hr (by rfl) mC kC bC .nil pass0 (pa_cons (pv 3) (pa_cons (pv 5) pa_nil))))) (pss_one ps_none) pss_nil)))
      (pss_cons (ps_set (i := 6) scInit.nd rfl (.inr rfl) (pe_dcP (own := [("setting", 7)]) .t rfl hu scInit.nd (pi_seq (pv 2)) (blkOk_by (N := nInit) (sc := defScope sInit) (by decide +kernel))
          (fun _ _ _ _ _ => pg_name (i := 7) scInit.nd rfl (.inl rfl)) (fun _ _ _ _ _ => pts_nil) (fun _ _ _ _ _ => pe_call GO hr1 (by rfl) mO kO bO .nil pass0 (pa_cons (pv 3) (pa_cons (pv 7) pa_nil))) (fun _ _ _ _ _ => pe_bl)))
      (pss_cons (ps_fld (pv 0) (pe_tupleOf (by rfl) T.tuple (pv 1)) rfl)
      (pss_cons (ps_fld (pv 0) (pv 3) rfl)
      (pss_one (ps_fld (pv 0) (pe_dcP (own := [("row", 8)]) .t rfl hu scInit.nd (pi_list (pe_call GS hr1 (by rfl) mS kS bS .nil pass0 (pa_cons (pv 1) pa_nil))) (blkOk_by (N := nInit) (sc := defScope sInit) (by decide +kernel))
          (fun _ _ _ _ _ => pg_name (i := 8) scInit.nd rfl (.inl rfl)) (fun _ _ _ _ _ => pts_one (pt_cmp (pc_din hu (pv 8) (pv 6)))) (fun _ _ _ _ _ => pv 8) (fun _ _ _ _ _ => pe_bl)) rfl)))))))), ?_⟩
    have g0 : Grow x H H := .of (Same.refl H)
    refine ⟨_, rfl, S0, A1, b1, false, sg, [], rfl, (fun H' s' => hS H' (.of s')), (fun H' _ => hN1.sq H'), n60, Nat.zero_le _, nd, good, fun H1 sm1 => ?_⟩
    refine ⟨_, rfl, S0, b1, _, rfl, hS H1 (.of sm1), by rw [List.length_map]; exact n6, ?_⟩
    refine ⟨_, rfl, S0, b1, sg, rfl, hS H1 (.of sm1), (fun H' s' => hS H' (.of (sm1.trans s'))), n60, nd, good, fun PL H2 hPL0 hPL2 sm2 => ?_⟩
    have sm02 := sm1.trans sm2
    refine ⟨_, rfl, b2, T0, _, rfl, hT _ (.of sm02), for_it walk_enumB (fun i σ H3 => ∃ o4 o5, σ = [some (.ref x), some (.ref S0), some (.ref T0), some (.ref PL), o4, o5, none, none, none] ∧ Same H2 H3) ⟨_, _, rfl, Same.refl _⟩ (fun i σ H3 _ ⟨_, _, _, sm⟩ => hT _ (.of (sm02.trans sm))) ?_ ?_⟩
    · rintro i y σ H3 H4 hi ⟨o4, o5, rfl, sm⟩ ⟨t, v1, v2, rfl, ht, rfl, hv1, hv2⟩
      have sm3 := sm.trans (same_new (o := .tup [v1, v2]) ht)
      obtain ⟨qs, hqs, g⟩ := paired_get giv i v2 hv2
      have lq := lens qs (List.mem_of_getElem? hqs)
      refine ⟨t, _, rfl, SqT.of upd_same, rfl, _, _, rfl, _, _, rfl, rfl, _, rfl, _, rfl, PL, v2, sg, rfl, sm3 _ _ hPL2, n60, nd, good, .inl ⟨x, qs, g.same (sm02.trans sm3), fun H5 sm5 => ⟨_, rfl, ?_⟩⟩⟩
      rw [decide_eq_true lq]
      exact iteF ⟨_, _, rfl, sm3.trans sm5⟩
    rintro σ H3 ⟨o4, o5, rfl, sm3⟩
    have sm03 := sm02.trans sm3
    have g3 : Grow x H H3 := .of sm03
    have hPL3 := sm3 _ _ hPL2
    have lx : xs.length = qss.length := Paired.length giv
    refine ⟨_, rfl, b2, T0, _, rfl, hT _ g3, fun D hD => dc_it walk_sq (fun i H7 => Same H3 H7 ∧ H7 D = some (.dT ((rowsOf sg (qss.take i)).map rowKv))) ⟨same_new hD, upd_same⟩ (fun i H7 _ hh => hT _ (g3.trans (Grow.of hh.1))) ?_ ?_⟩
    · rintro i v H7 H8 hi ⟨sm7, hD7⟩ ⟨rfl, hv⟩
      obtain ⟨qs, hqs, hq, b', A, t', rfl, ty, kit, sq⟩ := paired_get giv i v hv
      have g7 := g3.trans (Grow.of sm7)
      refine ⟨rfl, _, rfl, _, rfl, PL, A, b', sg, qs.map lit, rfl, sm7 _ _ hPL3, sq _ g7, (fun H' s' => sq _ (g7.trans (Grow.of s'))), n60, nd, good, (fun l hl => ?_), fun t H9 ht ht9 sm9 => ?_⟩
      · obtain ⟨q, hq', rfl⟩ := List.mem_map.mp hl
        exact lit_mem (hq.sub q hq')
      rw [← kV_strs] at ht9
      refine ⟨_, DPut.t (sm9 _ _ hD7) ht9 ?_, fun c o h => (upd_ne (ne_of_none h hD)).trans (sm9 _ _ (sm7 _ _ h)), ?_⟩
      · rw [List.length_map, sizeLine_eq]
        have := rowsOf_len sg (qss.take i)
        have := List.length_take_le i qss
        have := List.length_take_le' i qss
        omega
      · rw [upd_same, row_put, List.take_succ, hqs]
        show _ = some (HO.dT ((rowsOf sg (qss.take i ++ [qs])).map rowKv))
        rw [rowsOf_snoc]
    rintro H7 ⟨sm7, hD7⟩
    rw [lx, List.take_length] at hD7
    have sm07 := sm03.trans sm7
    have hx7 := sm07 _ _ hx
    refine ⟨_, rfl, tup_any (x := x) (fun H' g => hS H' ((Grow.of sm07).trans g)) hx7 fun a H8 sm8 ha => ⟨_, rfl, x, C, dx, [], rfl, sm8 _ _ hx7, T.cl, T.n1, (by show 0 < 1000; decide), ?_⟩⟩
    have g8 : Grow x H (upd H8 x (.ins C dx (putF "names" (.ref a) []))) := (Grow.of (sm07.trans sm8)).trans .put
    refine ⟨_, rfl, _, rfl, x, C, dx, _, rfl, upd_same, T.cl, T.n2, (by show 1 < 1000; decide), ?_⟩
    have g9 := g8.trans (Grow.put (x := x) (o := .ins C dx (putF "places" (.ref PL) (putF "names" (.ref a) []))))
    have g79 : Grow x H7 (upd (upd H8 x (.ins C dx (putF "names" (.ref a) []))) x (.ins C dx (putF "places" (.ref PL) (putF "names" (.ref a) [])))) := ((Grow.of sm8).trans .put).trans .put
    generalize eH9 : upd (upd H8 x (.ins C dx (putF "names" (.ref a) []))) x (.ins C dx (putF "places" (.ref PL) (putF "names" (.ref a) []))) = H9 at g9 g79 ⊢
    have hx9 : H9 x = some (.ins C dx (putF "places" (.ref PL) (putF "names" (.ref a) []))) := eH9 ▸ upd_same
    have nPx : PL ≠ x := ne_of (sm7 _ _ hPL3) hx7 fun z => nomatch z
    have nDx : D ≠ x := ne_of hD7 hx7 fun z => nomatch z
    have hPL9 : H9 PL = some (.dK (plc sg)) := g79 _ _ nPx (sm7 _ _ hPL3)
    have hD9 : H9 D = some (.dT ((rowsOf sg qss).map rowKv)) := g79 _ _ nDx hD7
    refine ⟨_, rfl, S0, b1, sg, rfl, (fun H' s' => hS H' (g9.trans (Grow.of s'))), n6, (fun z hz => (good z hz).2.1), fun p ts Ha hp hpa rows sma => ⟨p, rfl, ⟨_, SqL.of hpa⟩, fun R hR => dc_it walk_list (fun i Hb => Same Ha Hb ∧ Hb R = some (.dT ((((fulls sg).take i).filter fun r => decide (r ∈ rowsOf sg qss)).map rowKv))) ⟨same_new hR, upd_same⟩ (fun i Hb _ hh => SqL.of (hh.1 _ _ hpa)) ?_ ?_⟩⟩
    · rintro i v Hb Hc hi ⟨smb, hRb⟩ ⟨rfl, hv⟩
      obtain ⟨t, ht, rfl⟩ := get_map hv
      obtain ⟨r, hr', hrt⟩ := RowsAt.get rows i t ht
      have ht2 : Hc t = some (.tup ((r.map (Sum.inr : Str → Key)).map kV)) := by
        rw [kV_strs]
        exact smb _ _ hrt
      have er : (fulls sg).take (i + 1) = (fulls sg).take i ++ [r] := by rw [List.take_succ, hr']; rfl
      have g := DGet.t (k := r.map Sum.inr) (smb _ _ (sma _ _ hD9)) ht2
      refine ⟨rfl, _, rfl, _, rfl, D, _, rfl, g, _, rfl, ?_⟩
      have fresh : r ∉ ((fulls sg).take i).filter fun r => decide (r ∈ rowsOf sg qss) := fun q => not_before (fulls_nodup sg) hr' (List.mem_filter.mp q).1
      have lf : (((fulls sg).take i).filter fun r => decide (r ∈ rowsOf sg qss)).length ≤ 64 := by
        have z1 := List.length_filter_le (fun r => decide (r ∈ rowsOf sg qss)) ((fulls sg).take i)
        have z2 := List.length_take_le' i (fulls sg)
        have z3 := fulls_few n6
        omega
      by_cases e : r ∈ rowsOf sg qss
      · rw [row_some _ e]
        refine iteT ⟨_, rfl, _, DPut.t hRb ht2 (by rw [List.length_map, sizeLine_eq]; omega), fun c o h => (upd_ne (ne_of_none h hR)).trans (smb c o h), ?_⟩
        rw [upd_same, row_put, er, List.filter_append]
        unfold addRow
        rw [if_neg fresh, List.filter_cons_of_pos (by rw [decide_eq_true e])]
        rfl
      · rw [row_none _ e]
        refine iteF ⟨smb, ?_⟩
        rw [er, List.filter_append, List.filter_cons_of_neg (by rw [decide_eq_false e]; decide), List.filter_nil, List.append_nil]
        exact hRb
    · rintro Hb ⟨smb, hRb⟩
      rw [List.length_map, Paired.length rows, List.take_length] at hRb
      have sm9b := sma.trans smb
      have hR9 : H9 R = none := sma.free hR
      have hxb := sm9b _ _ hx9
      have nRx : R ≠ x := ne_of hRb hxb fun z => nomatch z
      have g9b : Grow x H9 (upd Hb x (.ins C dx (fl a PL R))) := (Grow.of sm9b).trans .put
      refine ⟨_, rfl, x, C, dx, _, rfl, hxb, T.cl, T.n3, (by show 2 < 1000; decide), k _ R (g9.trans g9b) ⟨dx, a, PL, upd_same, ?_, g9b _ _ nPx hPL9, (upd_ne nRx).trans hRb⟩ ?_⟩
      · intro H' s'
        refine ha H' ?_
        exact (Grow.put.trans (eH9 ▸ Grow.put)).trans (g9b.trans (Grow.of s'))
      · cases hHR : H R with
        | none => rfl
        | some o =>
          have z := g9 _ _ nRx hHR
          rw [hR9] at z
          cases z
end
end K6
namespace K6
open PySem PySem.Spec PyProof.Rows L2 LamX NdefX EV
def spSigns (K : PySem.W.Frag) (C : Addr) : Sp := fun vs H Q _ => ∃ (x r : Addr) (sg : List Str) (rs : List (List Str)), vs = [.ref x] ∧ RuleR K C H x sg rs r ∧ ∀ p, H p = none → Q (.ref p) (upd H p (.lst (sg.map V.str)))
def spSettings (K : PySem.W.Frag) (C : Addr) : Sp := fun vs H Q _ => ∃ (x r : Addr) (sg : List Str) (rs : List (List Str)), vs = [.ref x] ∧ RuleR K C H x sg rs r ∧ ∀ p ts, H p = none → RowsAt H ts rs → Q (.ref p) (upd H p (.lst (ts.map V.ref)))
def spLen (K : PySem.W.Frag) (C : Addr) : Sp := fun vs H Q _ => ∃ (x r : Addr) (sg : List Str) (rs : List (List Str)), vs = [.ref x] ∧ RuleR K C H x sg rs r ∧ Q (.int ((rs.length : Nat) : Int)) H
def spContains (K : PySem.W.Frag) (C : Addr) : Sp := fun vs H Q _ => ∃ (x r : Addr) (v : V) (sg : List Str) (rs : List (List Str)), vs = [.ref x, v] ∧ RuleR K C H x sg rs r ∧ sg.length ≤ 60 ∧ sg.Nodup ∧ (∀ z ∈ sg, Name1 z) ∧
  ((∃ qs, Given K x H sg v qs ∧ ∀ H', Same H H' → Q (.bl (decide (qs.length = sg.length) && decide (asc sg (qs.map lit) ∈ rs))) H') ∨ (Ask K H sg false v ∧ ∀ H', Same H H' → Q (.bl false) H'))
theorem keys_rows {H : Hp} : ∀ (rs : List (List Str)) (bs : List Addr), IsKeys H (rs.map rowKv) bs → RowsAt H bs rs
  | [], [], _ => .nil
  | [], _ :: _, h => nomatch h
  | _ :: _, [], h => nomatch h
  | r :: rs, b :: bs, .cons h t => .cons (by rw [show (rowKv r).1 = r.map Sum.inr from rfl, kV_strs] at h; exact h) (keys_rows rs bs t)
theorem scLen : FnScope ["self"] ["self"] (defScope sLen) := ⟨rfl, rfl, rfl, by decide +kernel, rfl, by decide +kernel, by decide +kernel⟩
theorem scContains : FnScope ["self", "thing"] ["self", "thing"] (defScope sContains) := ⟨rfl, rfl, rfl, by decide +kernel, rfl, by decide +kernel, by decide +kernel⟩
theorem scSigns : FnScope ["self"] ["self"] (defScope sSigns) := ⟨rfl, rfl, rfl, by decide +kernel, rfl, by decide +kernel, by decide +kernel⟩
theorem scSettings : FnScope ["self"] ["self"] (defScope sSettings) := ⟨rfl, rfl, rfl, by decide +kernel, rfl, by decide +kernel, by decide +kernel⟩
/-- what `set(..) == set(..)` and the rows tell: which rows of the one stand in the other -/
def found (sg' : List Str) (rs' rs : List (List Str)) : List Bool := rs.map fun q => decide (asc sg' q ∈ rs')
def leR (sg : List Str) (rs : List (List Str)) (sg' : List Str) (rs' : List (List Str)) : Bool := sameMem sg sg' && (found sg' rs' rs).all id
def eqR (sg : List Str) (rs : List (List Str)) (sg' : List Str) (rs' : List (List Str)) : Bool := leR sg rs sg' rs' && decide (rs.length = rs'.length)
/-- a row of a rule: one literal for each sign -/
def FullOf (ns r : List Str) : Prop := ∃ qs, Lits ns qs ∧ qs.length = ns.length ∧ r = qs.map lit
def spLe (K : PySem.W.Frag) (C : Addr) : Sp := fun vs H Q _ => ∃ (x y : Addr) (sg sg' : List Str) (rs rs' : List (List Str)) (r r' : Addr), vs = [.ref x, .ref y] ∧ RuleR K C H x sg rs r ∧ RuleR K C H y sg' rs' r' ∧ r ≠ r' ∧ sg.length ≤ 60 ∧ sg'.length ≤ 60 ∧ sg.Nodup ∧ sg'.Nodup ∧ (∀ z ∈ sg', Name1 z) ∧ (∀ q ∈ rs, FullOf sg q) ∧ rs.length ≤ 1000 ∧
  ∀ H', Same H H' → Q (.bl (leR sg rs sg' rs')) H'
def spEq (K : PySem.W.Frag) (C : Addr) : Sp := fun vs H Q _ => ∃ (x : Addr) (v : V) (sg : List Str) (rs : List (List Str)) (r : Addr), vs = [.ref x, v] ∧ RuleR K C H x sg rs r ∧ sg.length ≤ 60 ∧ sg.Nodup ∧ (∀ q ∈ rs, FullOf sg q) ∧ rs.length ≤ 1000 ∧
  ((∃ (y : Addr) (sg' : List Str) (rs' : List (List Str)) (r' : Addr), v = .ref y ∧ RuleR K C H y sg' rs' r' ∧ r ≠ r' ∧ sg'.length ≤ 60 ∧ sg'.Nodup ∧ (∀ z ∈ sg', Name1 z) ∧ ∀ H', Same H H' → Q (.bl (eqR sg rs sg' rs')) H')
   ∨ ((∃ t, TyX K H v t ∧ PySem.W.kitOne K t (.ref C) = some false) ∧ ∀ H', Same H H' → Q (.bl false) H'))
section
variable {P : Program} {w : World} {K : PySem.W.Frag} {mg : Str → Option Value} {base : Heap} {f fI fL C : Addr} {fd fdI fdL : FuncData}
theorem ok_signs (F : Fun K "signs" "Rule.signs" sSigns f fd) (T : RTxt K mg C) : FnOk P w K mg base CX0 1 f fd ["self"] (spSigns K C) := by
  refine F.ok scSigns (fun vs H Q E h => ?_) (fun cdv A' outer s H vs Q E hr h => ?_)
  · obtain ⟨x, r, sg, rs, rfl, _⟩ := h
    rfl
  · obtain ⟨x, r, sg, rs, rfl, ⟨dx, a, pl, hx, ha, _⟩, k⟩ := h
    refine ⟨_, pss_one (ps_ret (pe_callTy call_list_of (by rfl) T.list (by decide +kernel) (pa_cons (pe_fld (pv 0) rfl) pa_nil))), ?_⟩
    exact ⟨_, rfl, x, C, dx, _, _, rfl, hx, T.cl, T.n1, fl1 .., a, _, rfl, .inr (ha H (Same.refl H)), k⟩
theorem ok_settings (F : Fun K "settings" "Rule.settings" sSettings f fd) (T : RTxt K mg C) : FnOk P w K mg base CX0 1 f fd ["self"] (spSettings K C) := by
  refine F.ok scSettings (fun vs H Q E h => ?_) (fun cdv A' outer s H vs Q E hr h => ?_)
  · obtain ⟨x, r, sg, rs, rfl, _⟩ := h
    rfl
  · obtain ⟨x, r, sg, rs, rfl, ⟨dx, a, pl, hx, _, _, hr4⟩, k⟩ := h
    refine ⟨_, pss_one (ps_ret (pe_callTy (call_list_dT rfl) (by rfl) T.list (by decide +kernel) (pa_cons (pe_fld (pv 0) rfl) pa_nil))), ?_⟩
    refine ⟨_, rfl, x, C, dx, _, _, rfl, hx, T.cl, T.n3, fl3 .., r, _, rfl, .inl hr4, fun p bs hp hk => k p bs hp ?_⟩
    exact keys_rows rs bs hk
theorem ok_len (F : Fun K "__len__" "Rule.__len__" sLen f fd) (T : RTxt K mg C) : FnOk P w K mg base CX0 1 f fd ["self"] (spLen K C) := by
  refine F.ok scLen (fun vs H Q E h => ?_) (fun cdv A' outer s H vs Q E hr h => ?_)
  · obtain ⟨x, r, sg, rs, rfl, _⟩ := h
    rfl
  · obtain ⟨x, r, sg, rs, rfl, ⟨dx, a, pl, hx, _, _, hr4⟩, k⟩ := h
    refine ⟨_, pss_one (ps_ret (pe_callB call_len_dT (by rfl) T.len PySem.boot_len (pa_cons (pe_fld (pv 0) rfl) pa_nil))), ?_⟩
    refine ⟨_, rfl, x, C, dx, _, _, rfl, hx, T.cl, T.n3, fl3 .., r, _, rfl, hr4, ?_⟩
    rw [List.length_map]
    exact k
theorem ok_contains {fC fO : Addr} {fdC fdO : FuncData} (F : Fun K "__contains__" "Rule.__contains__" sContains f fd) (T : RTxt K mg C)
    (GC : FnOk P w K mg base CX0 4 fC fdC ["places", "thing"] (spIsFull K)) (mC : mg "is_full" = some (.ref fC)) (kC : PySem.W.keepIn K (.ref fC) = true) (bC : L2.Binds K fdC ["places", "thing"] [])
    (GO : FnOk P w K mg base CX0 1 fO fdO ["places", "literals"] (spInOrder K)) (mO : mg "in_order" = some (.ref fO)) (kO : PySem.W.keepIn K (.ref fO) = true) (bO : L2.Binds K fdO ["places", "literals"] []) :
    FnOk P w K mg base CX0 5 f fd ["self", "thing"] (spContains K C) := by
  refine F.ok scContains (fun vs H Q E h => ?_) (fun cdv A' outer s H vs Q E hr h => ?_)
  · obtain ⟨x, r, v, sg, rs, rfl, _⟩ := h
    rfl
  · obtain ⟨x, r, v, sg, rs, rfl, ⟨dx, a, pl, hx, _, hpl, hr4⟩, hn, nd, good, way⟩ := h
    have hu := hu_of hr
    have hr1 : Room 1 _ := hr.mono (by decide)
    refine ⟨_, pss_one (ps_ret (pe_and (pe_call GC hr (by rfl) mC kC bC .nil pass0 (pa_cons (pe_fld (pv 0) rfl) (pa_cons (pv 1) pa_nil))) (pe_one (pe_cmp (pc_din hu (pe_call GO hr1 (by rfl) mO kO bO .nil pass0 (pa_cons (pe_fld (pv 0) rfl) (pa_cons (pv 1) pa_nil))) (pe_fld (pv 0) rfl)))))), ?_⟩
    refine ⟨_, rfl, x, C, dx, _, _, rfl, hx, T.cl, T.n2, fl2 .., _, rfl, ?_⟩
    rcases way with ⟨qs, giv, k⟩ | ⟨ask, k⟩
    · refine ⟨pl, v, sg, rfl, hpl, hn, nd, good, .inl ⟨x, qs, giv, fun H1 sm1 => ⟨_, rfl, ?_⟩⟩⟩
      cases el : decide (qs.length = sg.length) with
      | false =>
        have z := k H1 sm1
        rw [el] at z
        exact iteF z
      | true =>
        refine iteT ?_
        obtain ⟨hq, b', A, t, rfl, ty, kit, sq⟩ := giv
        refine ⟨_, rfl, x, C, dx, _, _, rfl, sm1 _ _ hx, T.cl, T.n2, fl2 .., _, rfl, pl, A, b', sg, qs.map lit, rfl, sm1 _ _ hpl, sq _ (.of sm1), (fun H' s' => sq _ (.of (sm1.trans s'))), hn, nd, good, (fun l hl => ?_), fun t1 H2 ht ht2 sm2 => ?_⟩
        · obtain ⟨q, hq', rfl⟩ := List.mem_map.mp hl
          exact lit_mem (hq.sub q hq')
        rw [← kV_strs] at ht2
        have sm := sm1.trans sm2
        have g := DGet.t (k := (asc sg (qs.map lit)).map Sum.inr) (sm _ _ hr4) ht2
        refine ⟨_, rfl, x, C, dx, _, _, rfl, sm _ _ hx, T.cl, T.n3, fl3 .., r, _, rfl, g, ?_⟩
        by_cases e : asc sg (qs.map lit) ∈ rs
        · rw [row_some rs e]
          have z := k H2 sm
          rwa [el, decide_eq_true e] at z
        · rw [row_none rs e]
          have z := k H2 sm
          rwa [el, decide_eq_false e] at z
    · exact ⟨pl, v, sg, rfl, hpl, hn, nd, good, .inr ⟨ask, fun H1 sm1 => ⟨_, rfl, iteF (k H1 sm1)⟩⟩⟩
abbrev nLe : List Str := ["self", "other", "row"]
theorem scLe : FnScope nLe ["self", "other"] (defScope sLe) := ⟨rfl, rfl, rfl, by decide +kernel, rfl, by decide +kernel, by decide +kernel⟩
theorem ok_le (F : Fun K "__le__" "Rule.__le__" sLe f fd) (T : RTxt K mg C) (ma : mg "all" = none) (ms : mg "set" = none)
    (GI : FnOk P w K mg base CX0 5 fI fdI ["self", "thing"] (spContains K C)) (hs : PySem.W.findIn K (.ref C) "__contains__" = some (some (.ref fI))) (hf : PySem.W.isFn K (.ref fI) = true) (bI : L2.Binds K fdI ["self", "thing"] []) :
    FnOk P w K mg base CX0 6 f fd ["self", "other"] (spLe K C) := by
  refine F.ok scLe (fun vs H Q E h => ?_) (fun cdv A' outer s H vs Q E hr h => ?_)
  · obtain ⟨x, y, sg, sg', rs, rs', r, r', rfl, _⟩ := h
    rfl
  · obtain ⟨x, y, sg, sg', rs, rs', r, r', rfl, cx, cy, ner, n1, n2, d1, d2, good', rows, few, k⟩ := h
    have hu := Nat.lt_of_succ_lt (hu_of hr)
    have hr5 : Room 5 _ := hr.mono (by decide)
    refine ⟨_, pss_one (ps_ret (pe_and (pe_cmpR (op_eqX hu) (pe_callTy (cr_setX rfl) (by rfl) ms (by decide +kernel) (pa_cons (pe_fld (pv 0) rfl) pa_nil)) (pe_callTy (cr_setX rfl) (by rfl) ms (by decide +kernel) (pa_cons (pe_fld (pv 1) rfl) pa_nil)) (nomark _))
      (pe_one (pe_callB (cr_all rfl) (by rfl) ma (by decide +kernel) (pa_cons (pe_lock (pe_lc (own := [("row", 2)]) (g := gName 2) (tt := tYes) rfl scLe.nd (pi_keys (pe_fld (pv 0) rfl)) (blkOk_by (N := nLe) (sc := defScope sLe) (by decide +kernel))
          (fun _ _ _ _ _ => pg_name (i := 2) scLe.nd rfl (.inl rfl)) (fun _ _ _ _ _ => pts_nil) (fun _ _ _ _ _ => pe_cmpR (op_inOwn GI hs hf bI pass0 hr5) (pv 2) (pv 1) rfl))) pa_nil))))), ?_⟩
    obtain ⟨dx, a, pl, hx, ha, _, hr4⟩ := cx.at_
    obtain ⟨dy, a', pl', hy, ha', _, hr4'⟩ := cy.at_
    refine ⟨_, rfl, x, C, dx, _, _, rfl, hx, T.cl, T.n1, fl1 .., a, sg, rfl, ha H (Same.refl H), d1, by omega, fun p hp0 => ?_⟩
    have sm1 : Same H _ := same_new (o := SetX P w p sg) hp0
    refine ⟨_, rfl, y, C, dy, _, _, rfl, sm1 _ _ hy, T.cl, T.n1, fl1 .., a', sg', rfl, ha' _ sm1, d2, by omega, fun q hq0 => ?_⟩
    have sm2 : Same H _ := sm1.trans (same_new (o := SetX P w q sg') hq0)
    refine ⟨p, q, sg, sg', rfl, rfl, (upd_ne (ne_of_none upd_same hq0)).trans upd_same, upd_same, _, rfl, ?_⟩
    generalize hX : upd (upd H p (SetX _ _ p sg)) q (SetX _ _ q sg') = H1
    replace sm2 : Same H H1 := by
      rw [← hX]
      exact sm2
    cases h1 : sameMem sg sg' with
    | false =>
      refine iteF ?_
      have z := k _ sm2
      unfold leR at z
      rw [h1] at z
      exact z
    | true =>
      have sub : ∀ z ∈ sg, z ∈ sg' := mem_same h1
      have len := (sameMem_iff.mp h1).1
      have hd1 := sm2 _ _ hr4
      have cy1 := cy.same sm2
      have hx1 := sm2 _ _ hx
      have nxr : x ≠ r := ne_of hx1 hd1 fun z => nomatch z
      refine iteT ⟨r, _, hd1, trivial, fun od => ?_⟩
      have g0 : Grow r H1 (upd H1 r (.frz od (.dT (rs.map rowKv)))) := Grow.put
      refine ⟨_, rfl, x, C, dx, _, _, rfl, (upd_ne nxr).trans hx1, T.cl, T.n3, fl3 .., r, od, rfl, .inr ⟨_, upd_same, fun L hL => lc_it walk_keysT (fun i H2 => H2 r = some (.frz od (.dT (rs.map rowKv))) ∧ H2 L = some (.lst ((found sg' rs' (rs.take i)).map V.bl)) ∧ Grow r H1 H2) ?_ (fun i H2 _ hh => hh.1) ?_ ?_⟩⟩
      · have nrL : r ≠ L := ne_of_none (show upd H1 r (.frz od (.dT (rs.map rowKv))) r = some _ from upd_same) hL
        refine ⟨(upd_ne nrL).trans upd_same, ?_, fun c o nc e => (upd_ne (ne_of_none (g0 c o nc e) hL)).trans (g0 c o nc e)⟩
        rw [upd_same]
        rfl
      · rintro i v H2 H3 hi ⟨hr2, hL2, g2⟩ ⟨rfl, kk, vv, q, hkv, rfl, hq⟩
        obtain ⟨row, hrow, ekv⟩ := get_map hkv
        injection ekv with ek ev
        rw [ek, kV_strs] at hq
        obtain ⟨qs, hqs, lq, rfl⟩ := rows row (List.mem_of_getElem? hrow)
        have cy2 := cy1.off hd1 ner.symm g2
        obtain ⟨dy2, _, _, hy2, _⟩ := cy2.at_
        have nqy : q ≠ y := ne_of hq hy2 fun z => nomatch z
        refine ⟨rfl, _, rfl, _, rfl, y, dy2, _, rfl, hy2, y, r', .ref q, sg', rs', rfl, cy2, n2, d2, good', .inl ⟨qs, ⟨hqs.names sub, false, q, .type "tuple", rfl, fun H' g => .base (.tup (g _ _ nqy hq)), kit_seq false, fun H' g => Sq.tup (g _ _ nqy hq)⟩, fun H4 sm4 => ⟨_, rfl, ?_⟩⟩⟩
        rw [decide_eq_true (lq.trans len)]
        refine ⟨_, sm4 _ _ hL2, by rw [List.length_map]; unfold found; rw [List.length_map, List.length_take, sizeLine_eq]; omega, ?_, ?_, ?_⟩
        · have nrL : r ≠ L := ne_of hr2 hL2 fun z => nomatch z
          exact (upd_ne nrL).trans (sm4 _ _ hr2)
        · rw [upd_same, List.take_succ, hrow]
          unfold found
          rw [List.map_append, List.map_append]
          rfl
        · intro c o nc e
          have z := sm4 _ _ (g2 c o nc e)
          have hL1 : H1 L = none := by
            have y := hL
            rwa [upd_ne (ne_of_none (show upd H1 r (.frz od (.dT (rs.map rowKv))) r = some _ from upd_same) hL).symm] at y
          exact (upd_ne (ne_of_none e hL1)).trans z
      · rintro H2 ⟨hr2, hL2, g2⟩
        have nrL : L ≠ r := ne_of hL2 hr2 fun z => nomatch z
        refine ⟨hr2, L, _, rfl, SqL.of ((upd_ne nrL).trans hL2), ?_⟩
        have sm3 : Same H1 (upd H2 r (.dT (rs.map rowKv))) := fun c o e => by
          by_cases q : c = r
          · rw [q, hd1] at e
            rw [q, upd_same, e]
          · exact (upd_ne q).trans (g2 c o q e)
        have z := k _ (sm2.trans sm3)
        unfold leR at z
        rw [List.length_map, List.take_length]
        rw [h1] at z
        exact z
abbrev nEq : List Str := ["self", "other"]
theorem scEq : FnScope nEq ["self", "other"] (defScope sEq) := ⟨rfl, rfl, rfl, by decide +kernel, rfl, by decide +kernel, by decide +kernel⟩
theorem ok_eq (F : Fun K "__eq__" "Rule.__eq__" sEq f fd) (T : RTxt K mg C) (TI : CIs K C) (nf : PySem.W.notFirst K C (.ref C) = true) (mi : mg "isinstance" = none)
    (GL : FnOk P w K mg base CX0 6 fL fdL ["self", "other"] (spLe K C)) (hs : PySem.W.findIn K (.ref C) "__le__" = some (some (.ref fL))) (hf : PySem.W.isFn K (.ref fL) = true) (bL : L2.Binds K fdL ["self", "other"] []) :
    FnOk P w K mg base CX0 7 f fd ["self", "other"] (spEq K C) := by
  refine F.ok scEq (fun vs H Q E h => ?_) (fun cdv A' outer s H vs Q E hr h => ?_)
  · obtain ⟨x, v, sg, rs, r, rfl, _⟩ := h
    rfl
  · obtain ⟨x, v, sg, rs, r, rfl, cx, hn, nd, rows, few, way⟩ := h
    have hr6 : Room 6 _ := hr.mono (by decide)
    refine ⟨_, pss_one (ps_ret (pe_and (pe_callB call_isi (by rfl) mi (by decide +kernel) (pa_cons (pv 1) (pa_cons (pe_glob (v := .ref C) (by rfl) T.mgC rfl) pa_nil)))
        (pe_and (pe_cmpR (op_leOwn GL hs hf bL pass0 hr6) (pv 0) (pv 1) (nomark _))
        (pe_one (pe_cmpR op_eq (pe_callB call_len_dT (by rfl) T.len PySem.boot_len (pa_cons (pe_fld (pv 0) rfl) pa_nil)) (pe_callB call_len_dT (by rfl) T.len PySem.boot_len (pa_cons (pe_fld (pv 1) rfl) pa_nil)) (nomark _)))))), ?_⟩
    obtain ⟨dx, a, pl, hx, _, _, hr4⟩ := cx.at_
    rcases way with ⟨y, sg', rs', r', rfl, cy, ner, hn', nd', good', k⟩ | ⟨⟨t, ty, kit⟩, k⟩
    · obtain ⟨dy, a', pl', hy, _, _, hr4'⟩ := cy.at_
      have tyy : TyX K H (.ref y) (.ref C) := .base (.ins hy T.cl TI.cl TI.gt TI.tk TI.ob)
      refine ⟨_, rfl, .ref y, .ref C, _, _, true, rfl, .own C, tyy, by show (if (Value.ref C == Value.ref C) = true then _ else _) = _; rw [if_pos (by simp)], _, rfl, ?_⟩
      refine iteT ⟨_, rfl, _, rfl, .ref C, tyy, nf, x, dx, _, rfl, hx, x, y, sg, sg', rs, rs', r, r', rfl, cx, cy, ner, hn, hn', nd, nd', good', rows, few, fun H1 sm1 => ⟨_, rfl, _, rfl, ?_⟩⟩
      cases e1 : leR sg rs sg' rs' with
      | false =>
        have z := k H1 sm1
        unfold eqR at z
        rw [e1] at z
        exact iteF z
      | true =>
        refine iteT ⟨_, rfl, x, C, dx, _, _, rfl, sm1 _ _ hx, T.cl, T.n3, fl3 .., r, _, rfl, sm1 _ _ hr4, _, rfl, y, C, dy, _, _, rfl, sm1 _ _ hy, T.cl, T.n3, fl3 .., r', _, rfl, sm1 _ _ hr4', rfl, ?_⟩
        have eL : decide (V.int (((rs.map rowKv).length : Nat) : Int) = V.int (((rs'.map rowKv).length : Nat) : Int)) = decide (rs.length = rs'.length) := by
          rw [List.length_map, List.length_map]
          refine decide_eq_decide.mpr ⟨fun h => ?_, fun h => by rw [h]⟩
          injection h with h
          omega
        show Q (.bl (decide (V.int (((rs.map rowKv).length : Nat) : Int) = V.int (((rs'.map rowKv).length : Nat) : Int)))) H1
        rw [eL]
        have z := k H1 sm1
        unfold eqR at z
        rw [e1] at z
        exact z
    · exact ⟨_, rfl, v, .ref C, _, _, false, rfl, .own C, ty, kit, _, rfl, iteF (k H (Same.refl H))⟩
end
end K6
namespace K6
open PySem PySem.Spec PyProof.Rows L2 LamX NdefX EV
theorem sub_filter : ∀ {s l : List (List Str)}, s.Sublist l → l.Nodup → l.filter (fun r => decide (r ∈ s)) = s := by
  intro s l h
  induction h with
  | slnil => intro _; rfl
  | @cons s l a h ih =>
    intro nd
    obtain ⟨h1, h2⟩ := List.nodup_cons.mp nd
    have na : a ∉ s := fun q => h1 (h.subset q)
    rw [List.filter_cons_of_neg (by rw [decide_eq_false na]; decide)]
    exact ih h2
  | @cons_cons s l a h ih =>
    intro nd
    obtain ⟨h1, h2⟩ := List.nodup_cons.mp nd
    rw [List.filter_cons_of_pos (p := fun r => decide (r ∈ a :: s)) (decide_eq_true List.mem_cons_self)]
    have e : l.filter (fun r => decide (r ∈ a :: s)) = l.filter (fun r => decide (r ∈ s)) := List.filter_congr fun r hr => decide_eq_decide.mpr ⟨fun q => (List.mem_cons.mp q).resolve_left fun e => h1 (e ▸ hr), fun q => List.mem_cons_of_mem _ q⟩
    rw [e, ih h2]
/-- a drawn rule -/
structure Draw2 (sg : List Str) (rs : List (List Str)) : Prop where
  n6 : sg.length ≤ 6
  nd : sg.Nodup
  good : ∀ z ∈ sg, Name1 z
  sub : rs.Sublist (fulls sg)
theorem Draw2.few {sg : List Str} {rs : List (List Str)} (D : Draw2 sg rs) : rs.length ≤ 64 := Nat.le_trans D.sub.length_le (fulls_few D.n6)
theorem full_of {sg r : List Str} (nd : sg.Nodup) (h : r ∈ fulls sg) : FullOf sg r := by
  obtain ⟨qs, e, rfl⟩ := fulls_mem.mp h
  refine ⟨qs, ⟨by rw [e]; exact nd, fun q hq => by rw [← e]; exact List.mem_map_of_mem hq⟩, ?_, rfl⟩
  rw [← e, List.length_map]
theorem Draw2.full {sg : List Str} {rs : List (List Str)} (D : Draw2 sg rs) : ∀ r ∈ rs, FullOf sg r := fun r hr => full_of D.nd (D.sub.subset hr)
theorem Draw2.rnd {sg : List Str} {rs : List (List Str)} (D : Draw2 sg rs) : rs.Nodup := D.sub.nodup (fulls_nodup sg)
def spDrawn : Sp := fun vs H Q _ => ∃ (S L : Addr) (m c : Nat), vs = [.ref S, .int (m : Int)] ∧ m ≤ 6 ∧ c ≤ 70000 ∧ StreamAt H S L c ∧
  ∀ (p ps pr : Addr) (sg : List Str) (ts : List Addr) (rs : List (List Str)) (c' : Nat) (H' : Hp), Draw2 sg rs → sg.length ≤ m → H p = none → H ps = none → H pr = none → H' p = some (.tup [.ref ps, .ref pr]) → H' ps = some (.lst (sg.map V.str)) → H' pr = some (.lst (ts.map V.ref)) → RowsAt H' ts rs → c' ≤ c + 200 → StreamAt H' S L c' → Kept S L H H' → Q (.ref p) H'
section
variable {P : Program} {w : World} {K : PySem.W.Frag} {mg : Str → Option Value} {base : Heap} {f fD fN fF : Addr} {fd fdD fdN fdF : FuncData}
abbrev nDrawn : List Str := ["_law_stream", "_law_most", "_law_signs", "_law_share", "_law_one"]
theorem scDrawn : FnScope nDrawn ["_law_stream", "_law_most"] (defScope sDrawn) := ⟨rfl, rfl, rfl, by decide +kernel, rfl, by decide +kernel, by decide +kernel⟩
theorem ok_drawn (F : Fun K "_law_drawn_rule" "_law_drawn_rule" sDrawn f fd) (GD : FnOk P w K mg base CX0 1 fD fdD ["_law_stream", "_law_many"] spDraw) (mD : mg "_law_draw" = some (.ref fD)) (kD : PySem.W.keepIn K (.ref fD) = true) (bD : L2.Binds K fdD ["_law_stream", "_law_many"] [])
    (GN : FnOk P w K mg base CX0 4 fN fdN ["_law_stream", "_law_many"] spNames) (mN : mg "_law_names" = some (.ref fN)) (kN : PySem.W.keepIn K (.ref fN) = true) (bN : L2.Binds K fdN ["_law_stream", "_law_many"] [])
    (GF : FnOk P w K mg base CX0 1 fF fdF ["_law_names_here"] (spFulls K)) (mF : mg "_law_fulls" = some (.ref fF)) (kF : PySem.W.keepIn K (.ref fF) = true) (bF : L2.Binds K fdF ["_law_names_here"] []) :
    FnOk P w K mg base CX0 5 f fd ["_law_stream", "_law_most"] spDrawn := by
  refine F.ok scDrawn (fun vs H Q E h => ?_) (fun cdv A outer s H vs Q E hr h => ?_)
  · obtain ⟨S, L, m, c, rfl, _⟩ := h
    rfl
  · obtain ⟨S, L, m, c, rfl, m6, hc, hS, k⟩ := h
    have hr1 : Room 1 _ := hr.mono (by decide)
    have hr4 : Room 4 _ := hr.mono (by decide)
    refine ⟨_, pss_cons (ps_asg (pe_tup (pa_cons (pe_call GN hr4 (by rfl) mN kN bN .nil pass0 (pa_cons (pv 0) (pa_cons (pe_call GD hr1 (by rfl) mD kD bD .nil pass0 (pa_cons (pv 0) (pa_cons (pe_op op_add (pv 1) pe_int) pa_nil))) pa_nil))) (pa_cons (pe_op op_add pe_int (pe_call GD hr1 (by rfl) mD kD bD .nil pass0 (pa_cons (pv 0) (pa_cons pe_int pa_nil)))) pa_nil))) (pg_tup rfl (pgs_cons (pg_name (i := 2) scDrawn.nd rfl (.inl rfl)) (pgs_cons (pg_name (i := 3) scDrawn.nd rfl (.inr rfl)) pgs_nil))))
      (pss_one (ps_ret (pe_tup (pa_cons (pv 2) (pa_cons (pe_lc (own := [("_law_one", 4)]) (g := gName 4) rfl scDrawn.nd (pi_list (pe_call GF hr1 (by rfl) mF kF bF .nil pass0 (pa_cons (pv 2) pa_nil))) (blkOk_by (N := nDrawn) (sc := defScope sDrawn) (by decide +kernel))
          (fun _ _ _ _ _ => pg_name (i := 4) scDrawn.nd rfl (.inl rfl)) (fun _ _ _ _ _ => pts_one (pt_cmpR op_lt (pe_call GD hr1 (by rfl) mD kD bD .nil pass0 (pa_cons (pv 0) (pa_cons pe_int pa_nil))) (pv 3) (nomark _))) (fun _ _ _ _ _ => pv 4)) pa_nil))))), ?_⟩
    refine ⟨_, rfl, _, rfl, _, rfl, _, _, rfl, rfl, S, L, _, c, rfl, by omega, by omega, by omega, hS, fun r0 H1 r00 r01 hS1 hk1 => ⟨S, L, r0.toNat, _, by rw [Int.toNat_of_nonneg r00]; rfl, by omega, by omega, hS1, fun sg ps c2 H2 lsg nd good hps0 hps2 hc2 hS2 hk2 => ?_⟩⟩
    have offs := hS1.off hps0
    refine ⟨_, rfl, S, L, 4, c2, rfl, by decide, by decide, by omega, hS2, fun r1 H3 r10 r11 hS3 hk3 => ⟨_, _, rfl, rfl, by show 2 ≤ sizeLine; decide, fun t ht => ⟨t, _, rfl, SqT.of upd_same, rfl, _, _, rfl, _, _, rfl, rfl, ?_⟩⟩⟩
    have st := same_new (H := H3) (o := .tup [.ref ps, .int (1 + r1)]) ht
    have hS3' := hS3.new (o := .tup [.ref ps, .int (1 + r1)]) ht
    have hk03 : Kept S L H (upd H3 t (.tup [.ref ps, .int (1 + r1)])) := ((hk1.trans hk2).trans hk3).trans fun b o e _ _ => st b o e
    have hps3 := st _ _ (hk3 _ _ hps2 offs.1 offs.2)
    have hps00 : H ps = none := hk1.none hps0 offs.1 offs.2
    generalize upd H3 t (.tup [.ref ps, .int (1 + r1)]) = H4 at st hS3' hk03 hps3 ⊢
    refine ⟨_, rfl, _, rfl, ps, sg, rfl, (fun H' s' => SqL.of (s' _ _ hps3)), by omega, (fun z hz => (good z hz).2.1), fun pf tf H5 hpf0 hpf5 rowf sm5 => ⟨pf, rfl, ⟨_, SqL.of hpf5⟩, fun D hD => lc_it (walk_list (xs := tf.map V.ref)) (fun i H6 => ∃ us rs', H6 D = some (.lst (us.map V.ref)) ∧ RowsAt H6 us rs' ∧ rs'.Sublist ((fulls sg).take i) ∧ StreamAt H6 S L (c2 + 1 + i) ∧ Kept S L H5 H6) ?_ ?_ ?_ ?_⟩⟩
    · have hS5 := hS3'.same sm5
      exact ⟨[], [], upd_same, .nil, List.nil_sublist _, hS5.new hD, (Kept.refl H5).new hD⟩
    · rintro i H6 hi ⟨us, rs', _, _, _, _, hk6⟩
      have offf := hS3'.off hpf0
      exact SqL.of (hk6 _ _ hpf5 offf.1 offf.2)
    · rintro i v H6 H7 hi ⟨us, rs', hD7, ru, sub, hS7, hk7⟩ ⟨rfl, hv⟩
      have hS5 := hS3'.same sm5
      have offD := hS5.off hD
      have l64 := fulls_few (ns := sg) (by omega)
      obtain ⟨q, hq, rfl⟩ := get_map hv
      obtain ⟨r, hr', hrq⟩ := RowsAt.get rowf i q hq
      have ilt : i < (fulls sg).length := (List.getElem?_eq_some_iff.mp hr').1
      have er : (fulls sg).take (i + 1) = (fulls sg).take i ++ [r] := by rw [List.take_succ, hr']; rfl
      have lus : us.length ≤ 64 := by
        have z1 := Paired.length ru
        have z2 := sub.length_le
        rw [List.length_take] at z2
        omega
      obtain ⟨⟨_, e1⟩, ⟨_, e2⟩⟩ := hS5.two
      refine ⟨rfl, _, rfl, S, L, 5, _, rfl, by decide, by decide, by omega, hS7, fun r2 H8 r20 r21 hS8 hk8 => ?_⟩
      have hD8 := hk8 _ _ hD7 offD.1 offD.2
      have ru8 := RowsAt.kept ru hS7.two hk8
      refine ⟨_, rfl, _, _, rfl, rfl, _, rfl, ?_⟩
      refine ite2 (fun _ => ?_) (fun _ => ?_)
      · refine ⟨_, rfl, _, hD8, by rw [List.length_map, sizeLine_eq]; omega, us ++ [q], rs' ++ [r], ?_, RowsAt.put hD8 (rows_snoc ru8 ?_), ?_, ?_, ?_⟩
        · rw [upd_same, List.map_append]
          rfl
        · exact (hk7.trans hk8) _ _ hrq (ne_of hrq e1 fun z => nomatch z) (ne_of hrq e2 fun z => nomatch z)
        · rw [er]
          exact List.Sublist.append sub (List.Sublist.refl _)
        · have z := hS8.put (o := .lst (us.map V.ref ++ [.ref q])) offD.1 offD.2
          exact z
        · exact kept_upd (hk7.trans hk8) hD
      · refine ⟨us, rs', hD8, ru8, ?_, hS8, hk7.trans hk8⟩
        rw [er]
        exact sub.trans (List.sublist_append_left _ _)
    · rintro H6 ⟨us, rs', hD6, ru, sub, hS6, hk6⟩
      have hS5 := hS3'.same sm5
      have hk05 : Kept S L H H5 := hk03.trans fun b o e _ _ => sm5 b o e
      have offD := hS5.off hD
      have lf : tf.length = (fulls sg).length := Paired.length rowf
      have l64 := fulls_few (ns := sg) (by omega)
      have hD0 : H D = none := hk05.none hD offD.1 offD.2
      have offp5 := hS3'.off hpf0
      rw [List.length_map, lf] at hS6
      rw [List.length_map, lf, List.take_length] at sub
      refine ⟨by show 2 ≤ sizeLine; decide, fun p hp => ?_⟩
      have offps : ps ≠ S ∧ ps ≠ L := offs
      have sp : Same H6 _ := same_new (o := .tup [.ref ps, .ref D]) hp
      have offp := hS6.off hp
      exact k p ps D sg us rs' _ _ ⟨by omega, nd, good, sub⟩ (by omega) ((hk05.trans hk6).none hp offp.1 offp.2) hps00 hD0 upd_same (sp _ _ (hk6 _ _ (sm5 _ _ hps3) offps.1 offps.2)) (sp _ _ hD6) (ru.same sp) (by omega) (hS6.same sp) ((hk05.trans hk6).trans fun b o e _ _ => sp b o e)
end
end K6
namespace K6
open PySem PySem.Spec PyProof.Rows L2 LamX NdefX EV
def dataOf (sg : List Str) (rs : List (List Str)) : PyData := .list [.list (sg.map PyData.str), .list (rs.map fun r => PyData.tuple (r.map PyData.str)), .int ((rs.length : Nat) : Int)]
theorem shown_all : ∀ n : Nat, n < 65 → (PyData.int (n : Int)).leavesShort 40 = true ∧ (PyData.int (n : Int)).showable = true := by decide +kernel
theorem full_texts {ns r : List Str} (good : ∀ z ∈ ns, Name1 z) (h : FullOf ns r) : r.length = ns.length ∧ ∀ z ∈ r, Fit z ∧ z.length ≤ 9 := by
  obtain ⟨qs, hq, lq, rfl⟩ := h
  refine ⟨by rw [List.length_map, lq], fun z hz => ?_⟩
  obtain ⟨q, hq', rfl⟩ := List.mem_map.mp hz
  have g := good _ (hq.sub q hq')
  refine ⟨g.fit.lit, ?_⟩
  have l8 : q.2.length ≤ 8 := g.2.1
  unfold lit
  split
  · rw [neg_len]; omega
  · omega
theorem small_allowed {sg : List Str} {rs : List (List Str)} (n7 : sg.length ≤ 7) (good : ∀ z ∈ sg, Name1 z) (full : ∀ r ∈ rs, FullOf sg r) : SmallAll (rs.map fun r => PyData.tuple (r.map PyData.str)) (((9 + 1) * 7 + 1) * rs.length) 3 :=
  small_rows (n := 9) (m := 7) rs fun r hr => ⟨by rw [(full_texts good (full r hr)).1]; omega, (full_texts good (full r hr)).2⟩
theorem small_names {sg : List Str} (n7 : sg.length ≤ 7) (good : ∀ z ∈ sg, Name1 z) : SmallAll (sg.map PyData.str) 70 2 := by
  have z := small_strs (n := 9) sg fun z hz => ⟨(good z hz).fit, by have l8 : z.length ≤ 8 := (good z hz).2.1; omega⟩
  exact ⟨z.ls, Nat.le_trans z.bk (by omega), z.sh, z.dp⟩
theorem dataOf_small {sg : List Str} {rs : List (List Str)} (D : Draw2 sg rs) : Small (dataOf sg rs) 6000 := by
  have l6 := D.n6
  have l64 := D.few
  obtain ⟨a1, a2, a3, a4⟩ := small_list (small_names (by omega) D.good)
  obtain ⟨c1, c2, c3, c4⟩ := small_list (small_allowed (by omega) D.good D.full)
  obtain ⟨i1, i2⟩ := shown_all rs.length (by omega)
  have bk : ((9 + 1) * 7 + 1) * rs.length ≤ 4600 := by omega
  have all := SmallAll.cons (m := 9) a1 a2 a3 (by omega) (.cons (m := 9) c1 (Nat.le_trans c2 bk) c3 (by omega) (.cons (m := 9) (a := 0) i1 (Nat.le_refl 0) i2 (Nat.zero_le _) SmallAll.nil))
  obtain ⟨e1, e2, e3, e4⟩ := small_list all
  have e4' : (dataOf sg rs).depth ≤ 9 + 1 := e4
  exact ⟨e1, Nat.le_trans e2 (by decide), e3, by omega⟩
def spRight (K : PySem.W.Frag) (C : Addr) : Sp := fun vs H Q _ => ∃ (x r ps pr : Addr) (sg : List Str) (ts : List Addr) (rs : List (List Str)), vs = [.ref x, .ref ps, .ref pr] ∧ RuleR K C H x sg rs r ∧ H ps = some (.lst (sg.map V.str)) ∧ H pr = some (.lst (ts.map V.ref)) ∧ RowsAt H ts rs ∧ Draw2 sg rs ∧ ∀ H', Same H H' → Q (.bl true) H'
section
variable {P : Program} {w : World} {K : PySem.W.Frag} {mg : Str → Option Value} {base : Heap} {f fS f1 f2 f3 f4 C : Addr} {fd fdS fd1 fd2 fd3 fd4 : FuncData}
abbrev nRight : List Str := ["_law_rule", "_law_signs", "_law_allowed", "_law_told"]
theorem scRight : FnScope nRight ["_law_rule", "_law_signs", "_law_allowed"] (defScope sRight) := ⟨rfl, rfl, rfl, by decide +kernel, rfl, by decide +kernel, by decide +kernel⟩
theorem ok_right (F : Fun K "_law_is_right" "_law_is_right" sRight f fd) (T : RTxt K mg C)
    (GS : FnG P w K mg base 1 fS fdS ["_law_found", "_law_due"] (spSameP K)) (mS : mg "_law_same" = some (.ref fS)) (kS : PySem.W.keepIn K (.ref fS) = true) (bS : L2.Binds K fdS ["_law_found", "_law_due"] [])
    (G1 : FnOk P w K mg base CX0 1 f1 fd1 ["self"] (spSigns K C)) (m1 : Meth K C "signs" f1) (b1 : L2.Binds K fd1 ["self"] [])
    (G3 : FnOk P w K mg base CX0 1 f3 fd3 ["self"] (spSettings K C)) (m3 : Meth K C "settings" f3) (b3 : L2.Binds K fd3 ["self"] [])
    (G4 : FnOk P w K mg base CX0 1 f4 fd4 ["self"] (spLen K C)) (s4 : PySem.W.findIn K (.ref C) "__len__" = some (some (.ref f4))) (i4 : PySem.W.isFn K (.ref f4) = true) (b4 : L2.Binds K fd4 ["self"] []) :
    FnG P w K mg base 3 f fd ["_law_rule", "_law_signs", "_law_allowed"] (spRight K C) := by
  refine fng_of F scRight (fun vs H Q E h => ?_) (fun cdv A outer s H vs Q E hg hr h => ?_)
  · obtain ⟨x, r, ps, pr, sg, ts, rs, rfl, _⟩ := h
    rfl
  · obtain ⟨x, r, ps, pr, sg, ts, rs, rfl, cx, hps, hpr, rows, D, k⟩ := h
    have hu := hu_of hr
    have hr1 : Room 1 _ := hr.mono (by decide)
    refine ⟨_, pss_cons (ps_set (i := 3) scRight.nd rfl (.inl rfl) (pe_lst (pa_cons (pe_meth0 (pv 0) T.cl m1 G1 hr1 b1 .nil pass0) (pa_cons (pe_meth0 (pv 0) T.cl m3 G3 hr1 b3 .nil pass0) (pa_cons (pe_callB (call_lenOwn G4 s4 i4 b4 pass0 hr) (by rfl) T.len PySem.boot_len (pa_cons (pv 0) pa_nil)) pa_nil)))))
      (pss_cons (ps_expr (pe_bm PySem.F.plainAttrs_list PySem.F.slot_list_append PySem.F.type_list_append mt_append (pe_meth0 (pv 0) T.cl m1 G1 hr1 b1 .nil pass0) (pa_cons pe_str pa_nil)))
      (pss_cons (ps_expr (pe_bm PySem.F.plainAttrs_list PySem.F.slot_list_append PySem.F.type_list_append mt_append (pe_meth0 (pv 0) T.cl m3 G3 hr1 b3 .nil pass0) (pa_cons pe_int pa_nil)))
      (pss_one (ps_ret (pe_callG GS hg hr1 (by rfl) mS kS bS (pa_cons (pv 3) (pa_cons (pe_lst (pa_cons (pv 1) (pa_cons (pv 2) (pa_cons (pe_callB call_len (by rfl) T.len PySem.boot_len (pa_cons (pv 2) pa_nil)) pa_nil)))) pa_nil))))))), ?_⟩
    obtain ⟨dx, a, pl, hx, _⟩ := cx.at_
    have l64 := D.few
    have l6 := D.n6
    have lts : ts.length = rs.length := Paired.length rows
    refine ⟨_, rfl, x, dx, _, rfl, hx, fl_no (by decide +kernel), x, r, sg, rs, rfl, cx, fun p1 hp1 => ?_⟩
    have s1 : Same H _ := same_new (o := .lst (sg.map V.str)) hp1
    refine ⟨_, rfl, x, dx, _, rfl, s1 _ _ hx, fl_no (by decide +kernel), x, r, sg, rs, rfl, cx.same s1, fun p2 ts' hp2 hrs => ?_⟩
    have s2 : Same H _ := s1.trans (same_new (o := .lst (ts'.map V.ref)) hp2)
    have w1 := (same_new (o := .lst (ts'.map V.ref)) hp2) _ _ (upd_same (H := H) (a := p1) (o := .lst (sg.map V.str)))
    have w2 := upd_same (H := upd H p1 (.lst (sg.map V.str))) (a := p2) (o := .lst (ts'.map V.ref))
    have hrs2 : RowsAt _ ts' rs := RowsAt.same (same_new (o := .lst (ts'.map V.ref)) hp2) hrs
    generalize upd (upd H p1 (.lst (sg.map V.str))) p2 (.lst (ts'.map V.ref)) = H2 at s2 w1 w2 hrs2 ⊢
    refine ⟨_, rfl, x, dx, _, rfl, s2 _ _ hx, ⟨x, r, sg, rs, rfl, cx.same s2, rs.length, rfl, by omega, by show 3 ≤ sizeLine; decide, fun L hL => ?_⟩⟩
    have s3 : Same H2 _ := same_new (o := .lst [.ref p1, .ref p2, .int ((rs.length : Nat) : Int)]) hL
    have wL := upd_same (H := H2) (a := L) (o := .lst [.ref p1, .ref p2, .int ((rs.length : Nat) : Int)])
    generalize upd H2 L (.lst [.ref p1, .ref p2, .int ((rs.length : Nat) : Int)]) = H3 at s3 wL ⊢
    have s03 := s2.trans s3
    refine ⟨_, rfl, x, dx, _, rfl, s03 _ _ hx, fl_no (by decide +kernel), x, r, sg, rs, rfl, cx.same s03, fun p4 hp4 => ?_⟩
    have s4' : Same H3 _ := same_new (o := .lst (sg.map V.str)) hp4
    refine ⟨.inl ⟨rfl, _, SqL.of upd_same⟩, p4, _, _, rfl, rfl, upd_same, by rw [List.length_map, sizeLine_eq]; omega, ?_⟩
    have s5 : Same H3 (upd (upd H3 p4 (.lst (sg.map V.str))) p4 (.lst (sg.map V.str ++ [.str (Str.ofString "more")]))) := fun b o e => (upd_ne (ne_of_none e hp4)).trans (s4' b o e)
    generalize upd (upd H3 p4 (.lst (sg.map V.str))) p4 (.lst (sg.map V.str ++ [.str (Str.ofString "more")])) = H5 at s5 ⊢
    have s05 := s03.trans s5
    refine ⟨_, rfl, x, dx, _, rfl, s05 _ _ hx, fl_no (by decide +kernel), x, r, sg, rs, rfl, cx.same s05, fun p6 ts6 hp6 hrs6 => ?_⟩
    have lt6 : ts6.length = rs.length := Paired.length hrs6
    refine ⟨.inl ⟨rfl, _, SqL.of upd_same⟩, p6, _, _, rfl, rfl, upd_same, by rw [List.length_map, sizeLine_eq]; omega, ?_⟩
    have s7 : Same H5 (upd (upd H5 p6 (.lst (ts6.map V.ref))) p6 (.lst (ts6.map V.ref ++ [.int 5]))) := fun b o e => (upd_ne (ne_of_none e hp6)).trans ((same_new hp6) b o e)
    generalize upd (upd H5 p6 (.lst (ts6.map V.ref))) p6 (.lst (ts6.map V.ref ++ [.int 5])) = H7 at s7 ⊢
    have s07 := s05.trans s7
    have s37 := s5.trans s7
    have s27 := s3.trans s37
    have len : LenV K (.ref pr) H7 rs.length := .inl ⟨_, SqL.of (s07 _ _ hpr), by rw [List.length_map, lts]⟩
    refine ⟨_, rfl, _, rfl, _, rfl, _, rfl, _, rs.length, rfl, len, by show 3 ≤ sizeLine; decide, fun M hM => ?_⟩
    have s8 : Same H7 _ := same_new (o := .lst [.ref ps, .ref pr, .int ((rs.length : Nat) : Int)]) hM
    have s28 := s27.trans s8
    have s08 := s07.trans s8
    refine ⟨.ref L, .ref M, dataOf sg rs, 6000, rfl, .lst (SqL.of ((s37.trans s8) _ _ wL)) (.cons (.lst (SqL.of (s28 _ _ w1)) (dp_strs sg)) (.cons (.lst (SqL.of (s28 _ _ w2)) (RowsAt.lift (hrs2.same s28))) (.cons (.int _) .nil))),
      .lst (SqL.of upd_same) (.cons (.lst (SqL.of (s08 _ _ hps)) (dp_strs sg)) (.cons (.lst (SqL.of (s08 _ _ hpr)) (RowsAt.lift (rows.same s08))) (.cons (.int _) .nil))), dataOf_small D, by decide, k _ s08⟩
end
end K6
namespace K6
open PySem PySem.Spec PyProof.Rows L2 LamX NdefX EV
/-! ### full settings in order -/
theorem asc_full : ∀ (ns : List Str) (qs : List (Bool × Str)), ns.Nodup → (∀ z ∈ ns, Name1 z) → qs.map Prod.snd = ns → asc ns (qs.map lit) = qs.map lit
  | [], qs, _, _, e => by
    obtain rfl : qs = [] := by simpa using e
    rfl
  | n :: ns, [], _, _, e => nomatch e
  | n :: ns, (b, m) :: qs, nd, good, e => by
    injection e with e1 e2
    have e1 : m = n := e1
    subst e1
    obtain ⟨h1, h2⟩ := List.nodup_cons.mp nd
    have goodr : ∀ z ∈ ns, Name1 z := fun z hz => good z (List.mem_cons_of_mem _ hz)
    have ln : (m :: neg m :: lits ns).Nodup := lits_nodup (m :: ns) nd good
    obtain ⟨l1, l2⟩ := List.nodup_cons.mp ln
    obtain ⟨l3, l4⟩ := List.nodup_cons.mp l2
    have m1 : m ∉ lits ns := fun q => l1 (List.mem_cons_of_mem _ q)
    have sub : ∀ l ∈ qs.map lit, l ∈ lits ns := fun l hl => by
      obtain ⟨q, hq, rfl⟩ := List.mem_map.mp hl
      exact lit_mem (by rw [← e2]; exact List.mem_map_of_mem hq)
    have ih := asc_full ns qs h2 goodr e2
    have tail : (lits ns).filter (fun l => decide (l ∈ ((b, m) :: qs).map lit)) = qs.map lit := by
      rw [← ih]
      unfold asc
      refine List.filter_congr fun l hl => decide_eq_decide.mpr ⟨fun q => ?_, fun q => ?_⟩
      · rw [List.map_cons] at q
        rcases List.mem_cons.mp q with q | q
        · cases b
          · exact absurd (show l = m from q) fun e => m1 (e ▸ hl)
          · exact absurd (show l = neg m from q) fun e => l3 (e ▸ hl)
        · exact q
      · exact List.mem_cons_of_mem _ q
    show (m :: neg m :: lits ns).filter (fun l => decide (l ∈ ((b, m) :: qs).map lit)) = lit (b, m) :: qs.map lit
    cases b with
    | false =>
      have y1 : m ∈ ((false, m) :: qs).map lit := List.mem_cons_self
      have y2 : neg m ∉ ((false, m) :: qs).map lit := fun q => by
        rw [List.map_cons] at q
        rcases List.mem_cons.mp q with q | q
        · exact neg_ne m (show neg m = m from q).symm
        · exact l3 (sub _ q)
      rw [List.filter_cons, if_pos (decide_eq_true y1), List.filter_cons, if_neg (by rw [decide_eq_false y2]; decide), tail]
      rfl
    | true =>
      have y1 : m ∉ ((true, m) :: qs).map lit := fun q => by
        rw [List.map_cons] at q
        rcases List.mem_cons.mp q with q | q
        · exact neg_ne m (show m = neg m from q)
        · exact m1 (sub _ q)
      have y2 : neg m ∈ ((true, m) :: qs).map lit := List.mem_cons_self
      rw [List.filter_cons, if_neg (by rw [decide_eq_false y1]; decide), List.filter_cons, if_pos (decide_eq_true y2), tail]
      rfl
theorem asc_fulls {ns r : List Str} (nd : ns.Nodup) (good : ∀ z ∈ ns, Name1 z) (h : r ∈ fulls ns) : asc ns r = r := by
  obtain ⟨qs, e, rfl⟩ := fulls_mem.mp h
  exact asc_full ns qs nd good e
/-- literals of all names, in any order: brought into order they are a full setting -/
theorem asc_any {ns : List Str} {qs : List (Bool × Str)} (nd : ns.Nodup) (good : ∀ z ∈ ns, Name1 z) (hq : Lits ns qs) (lq : qs.length = ns.length) : asc ns (qs.map lit) ∈ fulls ns := by
  -- the literals, taken name by name
  have back : ∀ n ∈ ns, ∃ b, (b, n) ∈ qs := fun n hn => by
    have z := nodup_back hq.nd (by rw [List.length_map]; exact lq) (fun x hx => by
      obtain ⟨q, hq', rfl⟩ := List.mem_map.mp hx
      exact hq.sub q hq') n hn
    obtain ⟨⟨b, m⟩, hq', e⟩ := List.mem_map.mp z
    exact ⟨b, by rw [← show m = n from e]; exact hq'⟩
  have go : ∀ ms : List Str, (∀ n ∈ ms, n ∈ ns) → ∃ ps : List (Bool × Str), ps.map Prod.snd = ms ∧ ∀ p ∈ ps, p ∈ qs := by
    intro ms
    induction ms with
    | nil => intro _; exact ⟨[], rfl, fun _ h => nomatch h⟩
    | cons m ms ih =>
      intro h
      obtain ⟨ps, e, hp⟩ := ih fun n hn => h n (List.mem_cons_of_mem _ hn)
      obtain ⟨b, hb⟩ := back m (h m List.mem_cons_self)
      refine ⟨(b, m) :: ps, by rw [List.map_cons, e], fun p hpm => ?_⟩
      rcases List.mem_cons.mp hpm with rfl | hpm
      · exact hb
      · exact hp p hpm
  obtain ⟨ps, e, hp⟩ := go ns fun _ h => h
  have pn : (ps.map Prod.snd).Nodup := by rw [e]; exact nd
  have sub2 : ∀ q ∈ qs, q ∈ ps := by
    have ndp : ps.Nodup := List.Pairwise.of_map Prod.snd (fun a b h e => h (congrArg _ e)) pn
    have ndq : qs.Nodup := List.Pairwise.of_map Prod.snd (fun a b h e => h (congrArg _ e)) hq.nd
    have lp : ps.length = qs.length := by rw [lq, ← e, List.length_map]
    intro q hq'
    by_cases h : q ∈ ps
    · exact h
    · have z := nodup_le (q :: ps) qs (List.nodup_cons.mpr ⟨h, ndp⟩) fun a ha => (List.mem_cons.mp ha).elim (fun e => e ▸ hq') (hp a)
      rw [List.length_cons] at z
      omega
  have e3 : asc ns (qs.map lit) = asc ns (ps.map lit) := asc_congr fun l => by
    constructor
    · intro h
      obtain ⟨q, hq', rfl⟩ := List.mem_map.mp h
      exact List.mem_map_of_mem (sub2 q hq')
    · intro h
      obtain ⟨q, hq', rfl⟩ := List.mem_map.mp h
      exact List.mem_map_of_mem (hp q hq')
  rw [e3, asc_full ns ps nd good e]
  exact fulls_mem.mpr ⟨ps, e, rfl⟩
/-! ### the allowed settings -/
theorem allow_congr {ns : List Str} {a b : List (List Str)} (h : ∀ r ∈ fulls ns, r ∈ a ↔ r ∈ b) : allow ns a = allow ns b := by
  unfold allow
  exact List.filter_congr fun r hr => decide_eq_decide.mpr (h r hr)
theorem allow_mem {ns r : List Str} {gs : List (List Str)} : r ∈ allow ns gs ↔ r ∈ fulls ns ∧ r ∈ gs := by
  unfold allow
  rw [List.mem_filter]
  exact ⟨fun h => ⟨h.1, of_decide_eq_true h.2⟩, fun h => ⟨h.1, decide_eq_true h.2⟩⟩
theorem allow_sub {ns : List Str} {gs : List (List Str)} (h : gs.Sublist (fulls ns)) : allow ns gs = gs := sub_filter h (fulls_nodup ns)
theorem allow_nodup (ns : List Str) (gs : List (List Str)) : (allow ns gs).Nodup := (fulls_nodup ns).filter _
theorem allow_len {ns : List Str} {gs : List (List Str)} (nd : gs.Nodup) (h : ∀ r ∈ gs, r ∈ fulls ns) : (allow ns gs).length = gs.length :=
  Nat.le_antisymm (nodup_le _ _ (allow_nodup ns gs) fun r hr => (allow_mem.mp hr).2) (nodup_le _ _ nd fun r hr => allow_mem.mpr ⟨h r hr, hr⟩)
structure OkR (sg : List Str) (rs : List (List Str)) : Prop where
  n60 : sg.length ≤ 60
  nd : sg.Nodup
  good : ∀ z ∈ sg, Name1 z
  full : ∀ r ∈ rs, FullOf sg r
  few : rs.length ≤ 1000
theorem Draw2.ok {sg : List Str} {rs : List (List Str)} (D : Draw2 sg rs) : OkR sg rs := ⟨by have := D.n6; omega, D.nd, D.good, D.full, by have := D.few; omega⟩
theorem allow_few {sg : List Str} {gs : List (List Str)} (n6 : sg.length ≤ 6) : (allow sg gs).length ≤ 64 := Nat.le_trans (List.length_filter_le _ _) (fulls_few n6)
theorem allow_ok {sg : List Str} {gs : List (List Str)} (n6 : sg.length ≤ 6) (nd : sg.Nodup) (good : ∀ z ∈ sg, Name1 z) : OkR sg (allow sg gs) :=
  ⟨by omega, nd, good, fun r hr => full_of nd (allow_mem.mp hr).1, by have := allow_few (gs := gs) n6; omega⟩
theorem eqR_names {sg sg' : List Str} {rs rs' : List (List Str)} (h : sameMem sg sg' = false) : eqR sg rs sg' rs' = false := by
  unfold eqR leR
  rw [h]
  rfl
theorem eqR_rows {sg sg' : List Str} {rs rs' : List (List Str)} (h : rs.length ≠ rs'.length) : eqR sg rs sg' rs' = false := by
  unfold eqR
  rw [decide_eq_false h, Bool.and_false]
theorem make_rule {K : PySem.W.Frag} {C : Addr} {H : Hp} {S0 T0 x dx : Addr} {b1 b2 : Bool} {sg : List Str} {xs : List V} {qss : List (List (Bool × Str))} {W : VK} (hx : H x = none) (hdx : H dx = none) (hS : Sq K b1 H S0 (sg.map V.str)) (hT : Sq K b2 H T0 xs) (n6 : sg.length ≤ 6) (nd : sg.Nodup) (good : ∀ z ∈ sg, Name1 z)
    (giv : Paired (Handed K H sg) xs qss) (lens : ∀ qs ∈ qss, qs.length = sg.length) (few : qss.length ≤ 1000) (k : ∀ r H', Same H H' → RuleR K C H' x sg (allow sg (rowsOf sg qss)) r → H r = none → W .non H') :
    spInit K C [.ref x, .ref S0, .ref T0] (upd (upd H dx (.own x)) x (.ins C dx [])) W E0 := by
  have sm0 : Same H (upd (upd H dx (.own x)) x (.ins C dx [])) := fun c o e => (upd_ne (ne_of_none e hx)).trans ((upd_ne (ne_of_none e hdx)).trans e)
  have g : ∀ H', Grow x (upd (upd H dx (.own x)) x (.ins C dx [])) H' → Same H H' := fun H' gg c o e => gg c o (ne_of_none e hx) (sm0 c o e)
  refine ⟨x, dx, S0, T0, b1, b2, sg, xs, qss, rfl, upd_same, fun H' gg => Sq.same hS (g H' gg), fun H' gg => Sq.same hT (g H' gg), n6, nd, good, Paired.mapP giv (fun v qs h => Handed.given h g), lens, few, fun H' r gg c fresh => k r H' (g H' gg) c ?_⟩
  cases e : H r with
  | none => rfl
  | some o =>
    rw [sm0 r o e] at fresh
    cases fresh
/-- rows as they stand, handed over -/
theorem handed_full {K : PySem.W.Frag} {H : Hp} {sg : List Str} : ∀ {ts : List Addr} {rs : List (List Str)}, RowsAt H ts rs → (∀ r ∈ rs, FullOf sg r) →
    ∃ qss, Paired (Handed K H sg) (ts.map V.ref) qss ∧ rs = qss.map (fun qs => qs.map lit) ∧ ∀ qs ∈ qss, qs.length = sg.length
  | [], [], _, _ => ⟨[], .nil, rfl, fun _ h => nomatch h⟩
  | t :: ts, r :: rs, .cons h tl, full => by
    obtain ⟨qs, hq, lq, rfl⟩ := full r List.mem_cons_self
    obtain ⟨qss, h1, h2, h3⟩ := handed_full tl fun x hx => full x (List.mem_cons_of_mem _ hx)
    refine ⟨qs :: qss, .cons ⟨hq, false, t, rfl, Sq.tup h⟩ h1, by rw [List.map_cons, h2], fun x hx => ?_⟩
    rcases List.mem_cons.mp hx with rfl | hx
    · exact lq
    · exact h3 x hx
theorem rowsOf_fulls {sg : List Str} {rs : List (List Str)} {qss : List (List (Bool × Str))} (nd : sg.Nodup) (good : ∀ z ∈ sg, Name1 z) (e : rs = qss.map (fun qs => qs.map lit)) (h : ∀ r ∈ rs, r ∈ fulls sg) : allow sg (rowsOf sg qss) = allow sg rs := by
  refine allow_congr fun r hr => ?_
  rw [rowsOf_iff]
  constructor
  · rintro ⟨qs, hqs, rfl⟩
    have m : qs.map lit ∈ rs := by rw [e]; exact List.mem_map_of_mem hqs
    rw [asc_fulls nd good (h _ m)]
    exact m
  · intro m
    have m2 := m
    rw [e] at m2
    obtain ⟨qs, hqs, rfl⟩ := List.mem_map.mp m2
    exact ⟨qs, hqs, (asc_fulls nd good (h _ m)).symm⟩
/-- things unlike a rule -/
inductive Oth (K : PySem.W.Frag) (C : Addr) (sg : List Str) (rs : List (List Str)) (r : Addr) (H : Hp) : V → Prop
  | rule {y r' : Addr} {sg' : List Str} {rs' : List (List Str)} (c : RuleR K C H y sg' rs' r') (ne : r ≠ r') (ok : OkR sg' rs') (e1 : eqR sg rs sg' rs' = false) (e2 : eqR sg' rs' sg rs = false) : Oth K C sg rs r H (.ref y)
  | odd {v : V} (o : OddL K H v) : Oth K C sg rs r H v
theorem Oth.same {K : PySem.W.Frag} {C : Addr} {H H' : Hp} {sg : List Str} {rs : List (List Str)} {r : Addr} {v : V} (o : Oth K C sg rs r H v) (sm : Same H H') : Oth K C sg rs r H' v := by
  cases o with
  | rule c ne ok e1 e2 => exact .rule (c.same sm) ne ok e1 e2
  | odd o => exact .odd (OddL.same o sm)
end K6
namespace K6
open PySem PySem.Spec PyProof.Rows L2 LamX NdefX EV
abbrev psInit : List Str := ["self", "signs", "settings"]
/-- what the law's own defs ask of the text -/
structure UTx (P : Program) (w : World) (K : PySem.W.Frag) (mg : Str → Option Value) (base : Heap) (C : Addr) : Prop where
  T : RTxt K mg C
  any : mg "any" = none
  all : mg "all" = none
  fresh : Has P w K mg base 3 "_law_fresh" ["_law_stream", "_law_taken"] (spFresh K)
  fulls : Has P w K mg base 1 "_law_fulls" ["_law_names_here"] (spFulls K)
  pick : Has P w K mg base 2 "_law_pick" ["_law_stream", "_law_things"] (spPickL K)
  up : Has P w K mg base 1 "_law_up" ["_law_some", "_law_names_here"] (spUp K)
  make : ∃ fI fdI, Mk K C fI ∧ FnOk P w K mg base CX0 5 fI fdI psInit (spInit K C) ∧ L2.Binds K fdI psInit []
  setm : ∃ f3 fd3, FnOk P w K mg base CX0 1 f3 fd3 ["self"] (spSettings K C) ∧ Meth K C "settings" f3 ∧ L2.Binds K fd3 ["self"] []
  eq : ∃ fE fdE, FnOk P w K mg base CX0 7 fE fdE ["self", "other"] (spEq K C) ∧ NeTxt K C fE ∧ L2.Binds K fdE ["self", "other"] []
  CI : CIs K C
  not1 : ∀ T ∈ oddTypes, PySem.W.kitOne K (.type T) (.ref C) = some false ∧ PySem.W.notFirst K C (.type T) = true
  not2 : PySem.W.notFirst K C (.ref C) = true
def rEqC (K : PySem.W.Frag) (C : Addr) : R2 := fun x y H Q => ∃ t, TyX K H y t ∧ PySem.W.notFirst K C t = true ∧ rOwn C (spEq K C) E0 x y H fun b H' => Q (.bl b) H'
def rNeC (K : PySem.W.Frag) (C : Addr) : R2 := fun x y H Q => rNeL K C (spEq K C) E0 x y H Q ∨ rNeR K C (spEq K C) E0 x y H Q
abbrev nUn : List Str := ["_law_rule", "_law_signs", "_law_allowed", "_law_stream", "_law_full", "_law_changed", "_law_others", "_law_spare", "_law_one", "_law_other"]
theorem scUn : FnScope nUn ["_law_rule", "_law_signs", "_law_allowed", "_law_stream"] (defScope sUnlike) := ⟨rfl, rfl, rfl, by decide +kernel, rfl, by decide +kernel, by decide +kernel⟩
/-- what == of a rule and a thing unlike it asks -/
theorem ask_oth {P : Program} {w : World} {K : PySem.W.Frag} {mg : Str → Option Value} {base : Heap} {C : Addr} (T : UTx P w K mg base C) {H : Hp} {x r : Addr} {sg : List Str} {rs : List (List Str)} {v : V} {Q : VK} (cx : RuleR K C H x sg rs r) (ok : OkR sg rs) (o : Oth K C sg rs r H v) (q : ∀ H', Same H H' → Q (.bl false) H') : spEq K C [.ref x, v] H Q E0 := by
  refine ⟨x, v, sg, rs, r, rfl, cx, ok.n60, ok.nd, ok.full, ok.few, ?_⟩
  cases o with
  | @rule y r' sg' rs' c ne ok' e1 e2 => exact .inl ⟨y, sg', rs', r', rfl, c, ne, ok'.n60, ok'.nd, ok'.good, fun H' sm => by rw [e1]; exact q H' sm⟩
  | odd o =>
    obtain ⟨T', hT, ty⟩ := OddL.ty o
    exact .inr ⟨⟨_, ty, (T.not1 _ hT).1⟩, q⟩
theorem kind_oth {P : Program} {w : World} {K : PySem.W.Frag} {mg : Str → Option Value} {base : Heap} {C : Addr} (T : UTx P w K mg base C) {H : Hp} {r : Addr} {sg : List Str} {rs : List (List Str)} {v : V} (o : Oth K C sg rs r H v) : ∃ t, TyX K H v t ∧ PySem.W.notFirst K C t = true := by
  cases o with
  | @rule y r' sg' rs' c ne ok' e1 e2 =>
    obtain ⟨_, _, _, hy, _⟩ := c.at_
    exact ⟨.ref C, .base (.ins hy T.T.cl T.CI.cl T.CI.gt T.CI.tk T.CI.ob), T.not2⟩
  | odd o =>
    obtain ⟨T', hT, ty⟩ := OddL.ty o
    exact ⟨_, ty, (T.not1 T' hT).2⟩
section
variable {P : Program} {w : World} {K : PySem.W.Frag} {mg : Str → Option Value} {base : Heap} {C : Addr}
variable {f : Addr} {cdv : Value} {A : Around} {outer : List Env} {s0 : Shared} {HH : Hp} {E : XK}
abbrev XU (P : Program) (w : World) (K : PySem.W.Frag) (mg : Str → Option Value) (base : Heap) (f : Addr) (cdv : Value) (A : Around) (outer : List Env) (s0 : Shared) (HH : Hp) (E : XK) : Cx := (cxOf CX0 P w K mg base nUn "_law_is_unlike" (defScope sUnlike) f cdv A outer s0 HH E).nox
theorem useg5 (T : UTx P w K mg base C) (hr : Room 8 (XU P w K mg base f cdv A outer s0 HH E).A) :
    ∃ tt, PSs (XU P w K mg base f cdv A outer s0 HH E) ((defBody sUnlike).drop 5) tt ∧ ∀ (D : Ends) (x r F : Addr) (sg : List Str) (rs : List (List Str)) (vs : List V) (o1 o2 o3 o4 o5 o7 o8 o9 : Option V) (H : Hp), RuleR K C H x sg rs r → OkR sg rs → H F = some (.lst vs) → vs.length ≤ 10 → (∀ v ∈ vs, Oth K C sg rs r H v) → (∀ H', Same H H' → D.rt (.bl true) H') →
      tt D [some (.ref x), o1, o2, o3, o4, o5, some (.ref F), o7, o8, o9] H := by
  obtain ⟨fE, fdE, FE, TE, bE⟩ := T.eq
  have hr7 : Room 7 _ := hr.mono (by decide)
  refine ⟨_, pss_one (ps_ret (pe_and (pe_not (pe_callB (cr_any rfl) (by rfl) T.any (by decide +kernel) (pa_cons (pe_lc (own := [("_law_other", 9)]) (g := gName 9) (tt := tYes) rfl scUn.nd (pi_list (pv 6)) (blkOk_by (N := nUn) (sc := defScope sUnlike) (by decide +kernel))
        (fun _ _ _ _ _ => pg_name (i := 9) scUn.nd rfl (.inl rfl)) (fun _ _ _ _ _ => pts_nil) (fun _ _ _ _ _ => show PE _ _ (tOp (rEqC K C) _ _) from pe_cmpR (op_eqOwn FE TE.eq TE.fn bE pass0 hr7) (pv 0) (pv 9) (nomark _))) pa_nil)))
      (pe_one (pe_callB (cr_all rfl) (by rfl) T.all (by decide +kernel) (pa_cons (pe_lc (own := [("_law_other", 9)]) (g := gName 9) (tt := tYes) rfl scUn.nd (pi_list (pv 6)) (blkOk_by (N := nUn) (sc := defScope sUnlike) (by decide +kernel))
        (fun _ _ _ _ _ => pg_name (i := 9) scUn.nd rfl (.inl rfl)) (fun _ _ _ _ _ => pts_nil) (fun _ _ _ _ _ => show PE _ _ (tOp (rNeC K C) _ _) from pe_cmpR (op_neOwn FE TE bE pass0 hr) (pv 9) (pv 0) (nomark _))) pa_nil))))), ?_⟩
  intro D x r F sg rs vs o1 o2 o3 o4 o5 o7 o8 o9 H cx ok hF few oth k
  refine ⟨_, rfl, F, rfl, ⟨_, SqL.of hF⟩, fun L1 hL1 => lc_it (walk_list (xs := vs)) (fun i H2 => Same H H2 ∧ H2 L1 = some (.lst ((List.replicate i false).map V.bl))) ⟨same_new hL1, upd_same⟩ (fun i H2 _ hh => SqL.of (hh.1 _ _ hF)) ?_ ?_⟩
  · rintro i v H2 H3 hi ⟨sm, hL2⟩ ⟨rfl, hv⟩
    have ov := (oth v (List.mem_of_getElem? hv)).same sm
    obtain ⟨t, ty, nf⟩ := kind_oth T ov
    obtain ⟨dx, _, _, hx, _⟩ := cx.at_
    refine ⟨rfl, _, rfl, _, rfl, t, ty, nf, x, dx, _, rfl, sm _ _ hx, ask_oth T (cx.same sm) ok ov fun H4 sm4 => ⟨_, rfl, _, sm4 _ _ hL2, ?_, fun b o e => (upd_ne (ne_of_none e hL1)).trans (sm4 b o (sm b o e)), ?_⟩⟩
    · rw [List.length_map, List.length_replicate, sizeLine_eq]
      omega
    · rw [upd_same, List.replicate_succ', List.map_append]
      rfl
  · rintro H2 ⟨sm, hL2⟩
    have e : (List.replicate vs.length false).any id = false := List.any_eq_false.mpr fun b hb => by rw [(List.mem_replicate.mp hb).2]; decide
    refine ⟨L1, _, rfl, SqL.of hL2, _, rfl, ?_⟩
    rw [e]
    refine ⟨_, rfl, iteT ⟨_, rfl, F, rfl, ⟨_, SqL.of (sm _ _ hF)⟩, fun L5 hL5 => lc_it (walk_list (xs := vs)) (fun i H6 => Same H2 H6 ∧ H6 L5 = some (.lst ((List.replicate i true).map V.bl))) ⟨same_new hL5, upd_same⟩ (fun i H6 _ hh => SqL.of (hh.1 _ _ (sm _ _ hF))) ?_ ?_⟩⟩
    · rintro i v H6 H7 hi ⟨sm6, hL6⟩ ⟨rfl, hv⟩
      have sm07 := sm.trans sm6
      have cx7 := cx.same sm07
      obtain ⟨dx, _, _, hx, _⟩ := cx7.at_
      refine ⟨rfl, _, rfl, _, rfl, ?_⟩
      have done : ∀ {H8 : Hp}, Same H7 H8 → ∃ acc, H8 L5 = some (.lst acc) ∧ acc.length < sizeLine ∧ Same H2 (upd H8 L5 (.lst (acc ++ [.bl true]))) ∧ upd H8 L5 (.lst (acc ++ [.bl true])) L5 = some (.lst ((List.replicate (i + 1) true).map V.bl)) := fun {H8} sm8 => by
        refine ⟨_, sm8 _ _ hL6, ?_, fun b o e => (upd_ne (ne_of_none e hL5)).trans (sm8 b o (sm6 b o e)), ?_⟩
        · rw [List.length_map, List.length_replicate, sizeLine_eq]
          omega
        · rw [upd_same, List.replicate_succ', List.map_append]
          rfl
      have ov := (oth v (List.mem_of_getElem? hv)).same sm07
      cases ov with
      | @rule y r' sg' rs' cy ne ok' e1 e2 =>
        obtain ⟨dy, _, _, hy, _⟩ := cy.at_
        exact .inl ⟨y, dy, _, .ref C, rfl, hy, .base (.ins hx T.T.cl T.CI.cl T.CI.gt T.CI.tk T.CI.ob), T.not2, y, .ref x, sg', rs', r', rfl, cy, ok'.n60, ok'.nd, ok'.full, ok'.few, .inl ⟨x, sg, rs, r, rfl, cx7, ne.symm, ok.n60, ok.nd, ok.good, fun H4 sm4 => by rw [e2]; exact ⟨_, rfl, done sm4⟩⟩⟩
      | odd o => exact .inr ⟨x, dx, _, rfl, hx, o, ask_oth T cx7 ok (.odd o) fun H4 sm4 => ⟨_, rfl, done sm4⟩⟩
    · rintro H6 ⟨sm6, hL6⟩
      have e : (List.replicate vs.length true).all id = true := List.all_eq_true.mpr fun b hb => by rw [(List.mem_replicate.mp hb).2]; decide
      refine ⟨L5, _, rfl, SqL.of hL6, ?_⟩
      rw [e]
      exact k _ (sm.trans sm6)
end
end K6
namespace K6
open PySem PySem.Spec PyProof.Rows L2 LamX NdefX EV
/-- things unlike a rule, that no draw changes -/
inductive Oth0 (K : PySem.W.Frag) (C : Addr) (sg : List Str) (rs : List (List Str)) (r : Addr) (H : Hp) : V → Prop
  | rule {y r' : Addr} {sg' : List Str} {rs' : List (List Str)} (c : RuleR K C H y sg' rs' r') (ne : r ≠ r') (ok : OkR sg' rs') (e1 : eqR sg rs sg' rs' = false) (e2 : eqR sg' rs' sg rs = false) : Oth0 K C sg rs r H (.ref y)
  | non : Oth0 K C sg rs r H .non
  | int (i : Int) : Oth0 K C sg rs r H (.int i)
section
variable {K : PySem.W.Frag} {C : Addr} {H H' : Hp} {sg : List Str} {rs : List (List Str)} {ts : List Addr} {r x F ps pr p2 S L : Addr} {v : V} {vs : List V}
theorem Oth0.same (o : Oth0 K C sg rs r H v) (sm : Same H H') : Oth0 K C sg rs r H' v := by
  cases o with
  | rule c ne ok e1 e2 => exact .rule (c.same sm) ne ok e1 e2
  | non => exact .non
  | int i => exact .int i
theorem Oth0.kept (o : Oth0 K C sg rs r H v) (hS : Two H S L) (k : Kept S L H H') : Oth0 K C sg rs r H' v := by
  cases o with
  | rule c ne ok e1 e2 => exact .rule (c.kept hS k) ne ok e1 e2
  | non => exact .non
  | int i => exact .int i
theorem Oth0.oth (o : Oth0 K C sg rs r H v) : Oth K C sg rs r H v := by
  cases o with
  | rule c ne ok e1 e2 => exact .rule c ne ok e1 e2
  | non => exact .odd .non
  | int i => exact .odd (.int i)
/-- what stands behind the making of the others' list -/
structure USt (K : PySem.W.Frag) (C x r F ps pr p2 : Addr) (sg : List Str) (ts : List Addr) (rs : List (List Str)) (H : Hp) (vs : List V) : Prop where
  cx : RuleR K C H x sg rs r
  hps : H ps = some (.lst (sg.map V.str))
  hpr : H pr = some (.lst (ts.map V.ref))
  rows : RowsAt H ts rs
  hp2 : ∃ xs, H p2 = some (.lst xs)
  hF : H F = some (.lst vs)
  oth : ∀ v ∈ vs, Oth0 K C sg rs r H v ∨ v = .ref p2 ∨ v = .ref ps
theorem USt.same (o : USt K C x r F ps pr p2 sg ts rs H vs) (sm : Same H H') : USt K C x r F ps pr p2 sg ts rs H' vs :=
  ⟨o.cx.same sm, sm _ _ o.hps, sm _ _ o.hpr, o.rows.same sm, o.hp2.elim fun xs h => ⟨xs, sm _ _ h⟩, sm _ _ o.hF, fun v hv => (o.oth v hv).imp (fun z => z.same sm) id⟩
theorem USt.push (o : USt K C x r F ps pr p2 sg ts rs H vs) (n1 : F ≠ ps) (n2 : F ≠ pr) (n3 : F ≠ p2) (hv : Oth0 K C sg rs r H v) : USt K C x r F ps pr p2 sg ts rs (upd H F (.lst (vs ++ [v]))) (vs ++ [v]) := by
  have k : Kept F F H (upd H F (.lst (vs ++ [v]))) := fun b u e n1 _ => (upd_ne n1).trans e
  have two : Two H F F := ⟨⟨_, o.hF⟩, ⟨_, o.hF⟩⟩
  refine ⟨o.cx.kept two k, (upd_ne n1.symm).trans o.hps, (upd_ne n2.symm).trans o.hpr, o.rows.kept two k, o.hp2.elim fun xs h => ⟨xs, (upd_ne n3.symm).trans h⟩, upd_same, fun u hu => ?_⟩
  rcases List.mem_append.mp hu with hu | hu
  · exact (o.oth u hu).imp (fun z => z.kept two k) id
  · rw [List.mem_singleton.mp hu]
    exact .inl (hv.kept two k)
end
theorem asc_drop {n : Str} {ns : List Str} {b : Bool} {qs : List (Bool × Str)} (nd : (n :: ns).Nodup) (good : ∀ z ∈ n :: ns, Name1 z) (e : qs.map Prod.snd = ns) : asc ns (((b, n) :: qs).map lit) = qs.map lit := by
  obtain ⟨h1, h2⟩ := List.nodup_cons.mp nd
  have goodr : ∀ z ∈ ns, Name1 z := fun z hz => good z (List.mem_cons_of_mem _ hz)
  have ln : (n :: neg n :: lits ns).Nodup := lits_nodup (n :: ns) nd good
  obtain ⟨l1, l2⟩ := List.nodup_cons.mp ln
  obtain ⟨l3, l4⟩ := List.nodup_cons.mp l2
  have out : lit (b, n) ∉ lits ns := fun q => by
    cases b
    · exact l1 (List.mem_cons_of_mem _ q)
    · exact l3 q
  have z : asc ns (((b, n) :: qs).map lit) = asc ns (qs.map lit) := by
    unfold asc
    refine List.filter_congr fun l hl => decide_eq_decide.mpr ⟨fun q => ?_, fun q => List.mem_cons_of_mem _ q⟩
    rw [List.map_cons] at q
    exact (List.mem_cons.mp q).resolve_left fun e => out (e ▸ hl)
  rw [z]
  exact asc_full ns qs h2 goodr e
theorem full_snoc {ns : List Str} {qs : List (Bool × Str)} {z : Str} {ms : List Str} (nd : (z :: ns).Nodup) (e : qs.map Prod.snd = ns) (sub : ∀ n ∈ z :: ns, n ∈ ms) (len : ms.length = ns.length + 1) : FullOf ms (qs.map lit ++ [z]) := by
  obtain ⟨h1, h2⟩ := List.nodup_cons.mp nd
  refine ⟨qs ++ [(false, z)], ⟨?_, fun q hq => ?_⟩, ?_, by rw [List.map_append]; rfl⟩
  · rw [List.map_append, e]
    exact List.nodup_append.mpr ⟨h2, List.nodup_cons.mpr ⟨fun h => (nomatch h), List.nodup_nil⟩, fun a ha b hb e => h1 (by have hb' : b = z := List.mem_singleton.mp hb; rw [← hb', ← e]; exact ha)⟩
  · rcases List.mem_append.mp hq with q1 | q1
    · exact sub _ (List.mem_cons_of_mem _ (by rw [← e]; exact List.mem_map_of_mem q1))
    · rw [List.mem_singleton.mp q1]
      exact sub _ List.mem_cons_self
  · rw [List.length_append, len, ← e, List.length_map]
    rfl
theorem unlike_first {n z : Str} {ns : List Str} (nd : (n :: ns).Nodup) (hz : z ∉ n :: ns) : sameMem (n :: ns) (z :: ns) = false ∧ sameMem (z :: ns) (n :: ns) = false := by
  obtain ⟨h1, h2⟩ := List.nodup_cons.mp nd
  refine ⟨?_, ?_⟩
  · cases e : sameMem (n :: ns) (z :: ns) with
    | false => rfl
    | true =>
      rcases List.mem_cons.mp (mem_same e n List.mem_cons_self) with q | q
      · exact absurd (by rw [q]; exact List.mem_cons_self) hz
      · exact absurd q h1
  · cases e : sameMem (z :: ns) (n :: ns) with
    | false => rfl
    | true => exact absurd (mem_same e z List.mem_cons_self) hz
section
variable {P : Program} {w : World} {K : PySem.W.Frag} {mg : Str → Option Value} {base : Heap} {C : Addr}
variable {f : Addr} {cdv : Value} {A : Around} {outer : List Env} {s0 : Shared} {HH : Hp} {E : XK}
theorem useg4 (T : UTx P w K mg base C) (hr : Room 8 (XU P w K mg base f cdv A outer s0 HH E).A) :
    ∃ tt, PSs (XU P w K mg base f cdv A outer s0 HH E) ((defBody sUnlike).drop 4) tt ∧ ∀ (D : Ends) (x r F ps pr p2 : Addr) (sg : List Str) (ts : List Addr) (rs : List (List Str)) (vs : List V) (z : Str) (o3 o4 o5 o8 o9 : Option V) (H : Hp), USt K C x r F ps pr p2 sg ts rs H vs → Draw2 sg rs → F ≠ ps → F ≠ pr → F ≠ p2 → vs.length ≤ 9 → Name1 z → z ∉ sg → (∀ H', (∀ c o, c ≠ F → H c = some o → H' c = some o) → D.rt (.bl true) H') →
      tt D [some (.ref x), some (.ref ps), some (.ref pr), o3, o4, o5, some (.ref F), some (.str z), o8, o9] H := by
  obtain ⟨fI, fdI, M, GI, bI⟩ := T.make
  obtain ⟨tt5, p5, k5⟩ := useg5 (f := f) (cdv := cdv) (A := A) (outer := outer) (s0 := s0) (HH := HH) (E := E) T hr
  have hr1 : Room 1 _ := hr.mono (by decide)
  have hr6 : Room 6 _ := hr.mono (by decide)
  refine ⟨_, pss_cons (ps_if (pt_cmpR (op_neD hr.units) (pv 1) (pe_lst pa_nil) (nomark _)) (pss_one (ps_expr (pe_bm PySem.F.plainAttrs_list PySem.F.slot_list_append PySem.F.type_list_append mt_append (pv 6) (pa_cons (pe_make M GI hr6 (by rfl) T.T.mgC bI .nil pass0
        (pa_cons (pe_op op_cat (pe_lst (pa_cons (pv 7) pa_nil)) (pe_slice sl_list (pv 1) (po_some pe_int) po_none))
        (pa_cons (pe_lc (own := [("_law_one", 8)]) (g := gName 8) (tt := tYes) rfl scUn.nd (pi_list (pv 2)) (blkOk_by (N := nUn) (sc := defScope sUnlike) (by decide +kernel))
          (fun _ _ _ _ _ => pg_name (i := 8) scUn.nd rfl (.inl rfl)) (fun _ _ _ _ _ => pts_nil) (fun _ _ _ _ _ => show PE _ _ (tOp (rCatA K) (tCall (spUp K) [] E0 (tCons _ (tCons (tSl (rSlL K) _ _ _) tNil))) _) from pe_op op_catA (pe_callH T.up hr1 (by rfl) (pa_cons (pv 8) (pa_cons (pe_slice sl_list (pv 1) (po_some pe_int) po_none) pa_nil))) (pe_tup (pa_cons (pv 7) pa_nil)))) pa_nil))) pa_nil)))) pss_nil) p5, ?_⟩
  intro D x r F ps pr p2 sg ts rs vs z o3 o4 o5 o8 o9 H st Dr n1 n2 n3 few gz hz k
  have l6 := Dr.n6
  have l64 := Dr.few
  have one1 : 1 ≤ sizeLine := by decide
  have lts : ts.length = rs.length := Paired.length st.rows
  have fin : ∀ {vs' : List V} {H' : Hp} {o8 : Option V}, USt K C x r F ps pr p2 sg ts rs H' vs' → vs'.length ≤ 10 → (∀ c o, c ≠ F → H c = some o → H' c = some o) → tt5 D [some (.ref x), some (.ref ps), some (.ref pr), o3, o4, o5, some (.ref F), some (.str z), o8, o9] H' := fun {vs' H' o8} st' few' g =>
    k5 D x r F sg rs vs' _ _ _ _ _ _ _ _ H' st'.cx Dr.ok st'.hF few' (fun v hv => by
      rcases st'.oth v hv with o | rfl | rfl
      · exact o.oth
      · obtain ⟨xs, h⟩ := st'.hp2
        exact .odd (.lst (SqL.of h))
      · exact .odd (.lst (SqL.of st'.hps))) fun H2 sm => k H2 fun c o nc e => sm _ _ (g c o nc e)
  refine ⟨_, rfl, Nat.zero_le _, fun e he => ?_⟩
  have s1 : Same H _ := same_new (o := .lst []) he
  have he1 : upd H e (.lst []) e = some (.lst []) := upd_same
  generalize upd H e (.lst []) = H1 at s1 he1 ⊢
  have st1 := st.same s1
  have fitN : ∀ y ∈ sg, Fit y := fun y hy => (Dr.good y hy).fit
  refine ⟨_, _, .lst (SqL.of st1.hps) (dp_strs sg), .lst (SqL.of he1) .nil, shaped_strs sg fitN, rfl, _, rfl, ?_⟩
  rw [eqv_nilS]
  by_cases en : sg = []
  · rw [decide_eq_true en]
    exact iteF (fin st1 (by omega) fun c o _ e => s1 _ _ e)
  rw [decide_eq_false en]
  obtain ⟨n, ns, esg⟩ : ∃ n ns, sg = n :: ns := by
    cases sg with
    | nil => exact absurd rfl en
    | cons n ns => exact ⟨n, ns, rfl⟩
  have edr : sg.drop 1 = ns := by rw [esg]; rfl
  have ndn : (n :: ns).Nodup := esg ▸ Dr.nd
  have goodn : ∀ y ∈ n :: ns, Name1 y := esg ▸ Dr.good
  have hzn : z ∉ n :: ns := esg ▸ hz
  have lsg : sg.length = ns.length + 1 := by rw [esg, List.length_cons]
  refine iteT ⟨_, rfl, .inl ⟨rfl, _, SqL.of st1.hF⟩, _, rfl, one1, fun q1 hq1 => ?_⟩
  have cut : cutV (sg.map V.str) (some 1) none = ns.map V.str := by
    rw [show (1 : Int) = ((1 : Nat) : Int) from rfl, cutV_drop, ← List.map_drop, edr]
  have r1 : Same H1 _ := same_new (o := .lst [.str z]) hq1
  refine ⟨_, rfl, _, rfl, ps, _, rfl, SqL.of (r1 _ _ st1.hps), fun b1 hb1 => ?_⟩
  rw [cut]
  have r2 : Same H1 _ := r1.trans (same_new (o := .lst (ns.map V.str)) hb1)
  refine ⟨q1, b1, _, _, rfl, rfl, (same_new hb1) _ _ upd_same, upd_same, by rw [List.length_map, sizeLine_eq]; show 1 + _ ≤ _; omega, fun a3 ha3 => ?_⟩
  have r3 : Same H1 _ := r2.trans (same_new (o := .lst ([.str z] ++ ns.map V.str)) ha3)
  have w3 : upd (upd (upd H1 q1 (.lst [.str z])) b1 (.lst (ns.map V.str))) a3 (.lst ([.str z] ++ ns.map V.str)) a3 = some (.lst ((z :: ns).map V.str)) := upd_same
  generalize upd (upd (upd H1 q1 (.lst [.str z])) b1 (.lst (ns.map V.str))) a3 (.lst ([.str z] ++ ns.map V.str)) = H2 at r3 w3 ⊢
  have st2 := st1.same r3
  refine ⟨_, rfl, pr, rfl, ⟨_, SqL.of st2.hpr⟩, fun Dl hD => lc_it (walk_list (xs := ts.map V.ref)) (fun i H3 => Same H2 H3 ∧ ∃ us, H3 Dl = some (.lst (us.map V.ref)) ∧ RowsAt H3 us ((rs.take i).map fun r => asc ns r ++ [z])) ⟨same_new hD, [], upd_same, .nil⟩ (fun i H3 _ hh => SqL.of (hh.1 _ _ st2.hpr)) ?_ ?_⟩
  · rintro i v H3 H4 hi ⟨sm, us, hD4, ru⟩ ⟨rfl, hv⟩
    obtain ⟨t, ht, rfl⟩ := get_map hv
    obtain ⟨q, hq, hqt⟩ := RowsAt.get st2.rows i t ht
    have er : rs.take (i + 1) = rs.take i ++ [q] := by rw [List.take_succ, hq]; rfl
    have lus : us.length ≤ 64 := by
      have z := Paired.length ru
      rw [List.length_map, List.length_take] at z
      omega
    refine ⟨rfl, _, rfl, _, rfl, _, rfl, ps, _, rfl, SqL.of (sm _ _ st2.hps), fun b2 hb2 => ?_⟩
    rw [cut]
    have t1 : Same H4 _ := same_new (o := .lst (ns.map V.str)) hb2
    have wb : upd H4 b2 (.lst (ns.map V.str)) b2 = some (.lst (ns.map V.str)) := upd_same
    generalize upd H4 b2 (.lst (ns.map V.str)) = H5 at t1 wb ⊢
    have hqt5 : TupAt H5 t q := t1 _ _ (sm _ _ hqt)
    refine ⟨t, b2, false, q, ns, rfl, Sq.tup hqt5, (fun H' s' => Sq.tup (s' _ _ hqt5)), SqL.of wb, (fun H' s' => SqL.of (s' _ _ wb)), by omega, (fun y hy => (goodn y (List.mem_cons_of_mem _ hy)).2.1), fun t2 H6 ht2 ht6 sm6 => ?_⟩
    refine ⟨_, rfl, one1, fun q2 hq2 => ?_⟩
    have t3 : Same H6 _ := same_new (o := .tup [.str z]) hq2
    have la := asc_len ns q
    refine cat_one (t3 _ _ ht6) upd_same (by omega) fun p9 H7 hp9 s7 => ?_
    have s47 : Same H4 H7 := (t1.trans sm6).trans (t3.trans s7)
    refine ⟨_, s47 _ _ hD4, by rw [List.length_map, sizeLine_eq]; omega, fun b o h => (upd_ne (ne_of_none h hD)).trans (s47 _ _ (sm _ _ h)), us ++ [p9], ?_, RowsAt.put (s47 _ _ hD4) ?_⟩
    · rw [upd_same, List.map_append]
      rfl
    · rw [er, List.map_append]
      exact rows_snoc (ru.same s47) hp9
  · rintro H3 ⟨sm, us, hD3, ru⟩
    rw [List.length_map, lts, List.take_length] at ru
    have st3 := st2.same sm
    have full3 : ∀ q ∈ rs.map (fun r => asc ns r ++ [z]), FullOf (z :: ns) q := fun q hq => by
      obtain ⟨r', hr', rfl⟩ := List.mem_map.mp hq
      obtain ⟨qs, e, rfl⟩ := fulls_mem.mp (Dr.sub.subset hr')
      rw [esg] at e
      cases qs with
      | nil => cases e
      | cons q0 qs =>
        injection e with e1 e2
        obtain ⟨b, m⟩ := q0
        have e1 : m = n := e1
        subst e1
        rw [asc_drop ndn goodn e2]
        exact full_snoc (List.nodup_cons.mpr ⟨fun q => hzn (List.mem_cons_of_mem _ q), (List.nodup_cons.mp ndn).2⟩) e2 (fun _ h => h) (by rw [List.length_cons])
    obtain ⟨qss, u1, u2, u3⟩ := handed_full (K := K) ru full3
    have lq : qss.length = rs.length := by
      have y := congrArg List.length u2
      rw [List.length_map, List.length_map] at y
      omega
    have ndz : (z :: ns).Nodup := List.nodup_cons.mpr ⟨fun q => hzn (List.mem_cons_of_mem _ q), (List.nodup_cons.mp ndn).2⟩
    have goodz : ∀ y ∈ z :: ns, Name1 y := fun y hy => (List.mem_cons.mp hy).elim (fun e => e ▸ gz) fun h => goodn y (List.mem_cons_of_mem _ h)
    have n6z : (z :: ns).length ≤ 6 := by rw [List.length_cons]; omega
    obtain ⟨f1, f2⟩ := unlike_first ndn hzn
    intro y dy hy hdy _
    refine make_rule (b1 := true) (b2 := true) (sg := z :: ns) hy hdy (SqL.of (sm _ _ w3)) (SqL.of hD3) n6z ndz goodz u1 u3 (by omega) fun r' H4 sm4 c fresh => ⟨rfl, ?_⟩
    have st4 := st3.same sm4
    obtain ⟨_, _, _, _, _, _, hr0⟩ := st3.cx.at_
    have ne : r ≠ r' := ne_of_none hr0 fresh
    refine ⟨F, _, _, rfl, rfl, st4.hF, by rw [sizeLine_eq]; omega, ?_⟩
    exact fin (st4.push n1 n2 n3 (.rule c ne (allow_ok n6z ndz goodz) (eqR_names (esg ▸ f1)) (eqR_names (esg ▸ f2)))) (by rw [List.length_append]; show _ + 1 ≤ 10; omega) fun c o nc e => (upd_ne nc).trans (sm4 _ _ (sm _ _ (r3 _ _ (s1 _ _ e))))
end
end K6
namespace K6
open PySem PySem.Spec PyProof.Rows L2 LamX NdefX EV
section
variable {K : PySem.W.Frag} {C : Addr} {H H' : Hp} {sg : List Str} {rs : List (List Str)} {ts : List Addr} {r x F ps pr p2 S L : Addr} {v : V} {vs : List V}
theorem lst_kept {a : Addr} {xs : List V} (h : H a = some (.lst xs)) (k : Kept S L H H') (n : a ≠ S ∧ a ≠ L) : H' a = some (.lst xs) := k _ _ h n.1 n.2
theorem USt.kept (o : USt K C x r F ps pr p2 sg ts rs H vs) (hS : Two H S L) (k : Kept S L H H') (n1 : ps ≠ S ∧ ps ≠ L) (n2 : pr ≠ S ∧ pr ≠ L) (n3 : p2 ≠ S ∧ p2 ≠ L) (n4 : F ≠ S ∧ F ≠ L) : USt K C x r F ps pr p2 sg ts rs H' vs :=
  ⟨o.cx.kept hS k, lst_kept o.hps k n1, lst_kept o.hpr k n2, o.rows.kept hS k, o.hp2.elim fun xs h => ⟨xs, lst_kept h k n3⟩, lst_kept o.hF k n4, fun v hv => (o.oth v hv).imp (fun z => z.kept hS k) id⟩
end
def spUnlike (K : PySem.W.Frag) (C : Addr) : Sp := fun vs H Q _ => ∃ (x r ps pr S L : Addr) (sg : List Str) (ts : List Addr) (rs : List (List Str)) (c : Nat), vs = [.ref x, .ref ps, .ref pr, .ref S] ∧ RuleR K C H x sg rs r ∧ H ps = some (.lst (sg.map V.str)) ∧ H pr = some (.lst (ts.map V.ref)) ∧ RowsAt H ts rs ∧ Draw2 sg rs ∧ (ps ≠ S ∧ ps ≠ L) ∧ (pr ≠ S ∧ pr ≠ L) ∧ c ≤ 80000 ∧ StreamAt H S L c ∧
  ∀ c' H', c' ≤ c + 12 → StreamAt H' S L c' → Kept S L H H' → Q (.bl true) H'
section
variable {P : Program} {w : World} {K : PySem.W.Frag} {mg : Str → Option Value} {base : Heap} {C : Addr}
section
variable {f : Addr} {cdv : Value} {A : Around} {outer : List Env} {s0 : Shared} {HH : Hp} {E : XK}
theorem useg3 (T : UTx P w K mg base C) (hr : Room 8 (XU P w K mg base f cdv A outer s0 HH E).A) :
    ∃ tt, PSs (XU P w K mg base f cdv A outer s0 HH E) ((defBody sUnlike).drop 3) tt ∧ ∀ (D : Ends) (x r F ps pr p2 : Addr) (sg : List Str) (ts : List Addr) (rs : List (List Str)) (vs : List V) (z : Str) (o3 o4 o5 o8 o9 : Option V) (H : Hp), USt K C x r F ps pr p2 sg ts rs H vs → Draw2 sg rs → F ≠ ps → F ≠ pr → F ≠ p2 → vs.length ≤ 8 → Name1 z → z ∉ sg → (∀ H', (∀ c o, c ≠ F → H c = some o → H' c = some o) → D.rt (.bl true) H') →
      tt D [some (.ref x), some (.ref ps), some (.ref pr), o3, o4, o5, some (.ref F), some (.str z), o8, o9] H := by
  obtain ⟨fI, fdI, M, GI, bI⟩ := T.make
  obtain ⟨tt4, p4, k4⟩ := useg4 (f := f) (cdv := cdv) (A := A) (outer := outer) (s0 := s0) (HH := HH) (E := E) T hr
  have hr1 : Room 1 _ := hr.mono (by decide)
  have hr6 : Room 6 _ := hr.mono (by decide)
  refine ⟨_, pss_cons (ps_if (pt_cmpR op_lt (pe_callB call_len (by rfl) T.T.len PySem.boot_len (pa_cons (pv 1) pa_nil)) pe_int (nomark _)) (pss_one (ps_expr (pe_bm PySem.F.plainAttrs_list PySem.F.slot_list_append PySem.F.type_list_append mt_append (pv 6) (pa_cons (pe_make M GI hr6 (by rfl) T.T.mgC bI .nil pass0
        (pa_cons (pe_op op_cat (pv 1) (pe_lst (pa_cons (pv 7) pa_nil)))
        (pa_cons (pe_lc (own := [("_law_one", 8)]) (g := gName 8) (tt := tYes) rfl scUn.nd (pi_list (pv 2)) (blkOk_by (N := nUn) (sc := defScope sUnlike) (by decide +kernel))
          (fun _ _ _ _ _ => pg_name (i := 8) scUn.nd rfl (.inl rfl)) (fun _ _ _ _ _ => pts_nil) (fun _ _ _ _ _ => show PE _ _ (tOp (rCatA K) _ _) from pe_op op_catA (pv 8) (pe_tup (pa_cons (pv 7) pa_nil)))) pa_nil))) pa_nil)))) pss_nil) p4, ?_⟩
  intro D x r F ps pr p2 sg ts rs vs z o3 o4 o5 o8 o9 H st Dr n1 n2 n3 few gz hz k
  have l6 := Dr.n6
  have l64 := Dr.few
  have one1 : 1 ≤ sizeLine := by decide
  have lts : ts.length = rs.length := Paired.length st.rows
  have len : LenV K (.ref ps) H sg.length := .inl ⟨_, SqL.of st.hps, by rw [List.length_map]⟩
  refine ⟨_, rfl, _, sg.length, rfl, len, _, _, rfl, rfl, _, rfl, ?_⟩
  by_cases e6 : sg.length < 6
  · rw [decide_eq_true (by omega)]
    refine iteT ⟨_, rfl, .inl ⟨rfl, _, SqL.of st.hF⟩, _, rfl, _, rfl, one1, fun q1 hq1 => ?_⟩
    have r1 : Same H _ := same_new (o := .lst [.str z]) hq1
    refine ⟨ps, q1, _, _, rfl, rfl, r1 _ _ st.hps, upd_same, by rw [List.length_map, sizeLine_eq]; show _ + 1 ≤ _; omega, fun a3 ha3 => ?_⟩
    have r3 : Same H _ := r1.trans (same_new (o := .lst (sg.map V.str ++ [.str z])) ha3)
    have w3 : upd (upd H q1 (.lst [.str z])) a3 (.lst (sg.map V.str ++ [.str z])) a3 = some (.lst ((sg ++ [z]).map V.str)) := by rw [upd_same, List.map_append]; rfl
    generalize upd (upd H q1 (.lst [.str z])) a3 (.lst (sg.map V.str ++ [.str z])) = H2 at r3 w3 ⊢
    have st2 := st.same r3
    refine ⟨_, rfl, pr, rfl, ⟨_, SqL.of st2.hpr⟩, fun Dl hD => lc_it (walk_list (xs := ts.map V.ref)) (fun i H3 => Same H2 H3 ∧ ∃ us, H3 Dl = some (.lst (us.map V.ref)) ∧ RowsAt H3 us ((rs.take i).map fun r => r ++ [z])) ⟨same_new hD, [], upd_same, .nil⟩ (fun i H3 _ hh => SqL.of (hh.1 _ _ st2.hpr)) ?_ ?_⟩
    · rintro i v H3 H4 hi ⟨sm, us, hD4, ru⟩ ⟨rfl, hv⟩
      obtain ⟨t, ht, rfl⟩ := get_map hv
      obtain ⟨q, hq, hqt⟩ := RowsAt.get st2.rows i t ht
      have er : rs.take (i + 1) = rs.take i ++ [q] := by rw [List.take_succ, hq]; rfl
      have lus : us.length ≤ 64 := by
        have z := Paired.length ru
        rw [List.length_map, List.length_take] at z
        omega
      have lq : q.length = sg.length := (full_texts Dr.good (Dr.full q (List.mem_of_getElem? hq))).1
      refine ⟨rfl, _, rfl, _, rfl, one1, fun q2 hq2 => ?_⟩
      have t3 : Same H4 _ := same_new (o := .tup [.str z]) hq2
      refine cat_one (t3 _ _ (sm _ _ hqt)) upd_same (by omega) fun p9 H7 hp9 s7 => ?_
      have s47 : Same H4 H7 := t3.trans s7
      refine ⟨_, s47 _ _ hD4, by rw [List.length_map, sizeLine_eq]; omega, fun b o h => (upd_ne (ne_of_none h hD)).trans (s47 _ _ (sm _ _ h)), us ++ [p9], ?_, RowsAt.put (s47 _ _ hD4) ?_⟩
      · rw [upd_same, List.map_append]
        rfl
      · rw [er, List.map_append]
        exact rows_snoc (ru.same s47) hp9
    · rintro H3 ⟨sm, us, hD3, ru⟩
      rw [List.length_map, lts, List.take_length] at ru
      have st3 := st2.same sm
      have ndz : (z :: sg).Nodup := List.nodup_cons.mpr ⟨hz, Dr.nd⟩
      have pz : (sg ++ [z]).Perm (z :: sg) := List.perm_append_comm (l₁ := sg) (l₂ := [z])
      have full3 : ∀ q ∈ rs.map (fun r => r ++ [z]), FullOf (sg ++ [z]) q := fun q hq => by
        obtain ⟨r', hr', rfl⟩ := List.mem_map.mp hq
        obtain ⟨qs, e, rfl⟩ := fulls_mem.mp (Dr.sub.subset hr')
        exact full_snoc ndz e (fun n hn => pz.mem_iff.mpr hn) (by rw [List.length_append]; rfl)
      obtain ⟨qss, u1, u2, u3⟩ := handed_full (K := K) ru full3
      have lq : qss.length = rs.length := by
        have y := congrArg List.length u2
        rw [List.length_map, List.length_map] at y
        omega
      have nds : (sg ++ [z]).Nodup := pz.nodup_iff.mpr ndz
      have goodz : ∀ y ∈ sg ++ [z], Name1 y := fun y hy => (List.mem_append.mp hy).elim (Dr.good y) fun h => by rw [List.mem_singleton.mp h]; exact gz
      have lz : (sg ++ [z]).length = sg.length + 1 := by rw [List.length_append]; rfl
      intro y dy hy hdy _
      refine make_rule (b1 := true) (b2 := true) (sg := sg ++ [z]) hy hdy (SqL.of (sm _ _ w3)) (SqL.of hD3) (by omega) nds goodz u1 u3 (by omega) fun r' H4 sm4 c fresh => ⟨rfl, ?_⟩
      have st4 := st3.same sm4
      obtain ⟨_, _, _, _, _, _, hr0⟩ := st3.cx.at_
      have ne : r ≠ r' := ne_of_none hr0 fresh
      refine ⟨F, _, _, rfl, rfl, st4.hF, by rw [sizeLine_eq]; omega, ?_⟩
      exact k4 D x r F ps pr p2 sg ts rs _ z _ _ _ _ _ _ (st4.push n1 n2 n3 (.rule c ne (allow_ok (by omega) nds goodz) (eqR_names (sameMem_len (by omega))) (eqR_names (sameMem_len (by omega))))) Dr n1 n2 n3 (by rw [List.length_append]; show _ + 1 ≤ 9; omega) gz hz fun H' g => k H' fun c o nc e => g c o nc ((upd_ne nc).trans (sm4 _ _ (sm _ _ (r3 _ _ e))))
  · rw [decide_eq_false (by omega)]
    exact iteF (k4 D x r F ps pr p2 sg ts rs vs z _ _ _ _ _ H st Dr n1 n2 n3 (by omega) gz hz k)
end
theorem ok_unlike {f : Addr} {fd : FuncData} (F0 : Fun K "_law_is_unlike" "_law_is_unlike" sUnlike f fd) (T : UTx P w K mg base C) : FnOk P w K mg base CX0 9 f fd ["_law_rule", "_law_signs", "_law_allowed", "_law_stream"] (spUnlike K C) := by
  refine F0.ok scUn (fun vs H Q E h => ?_) (fun cdv A outer s H vs Q E hr h => ?_)
  · obtain ⟨x, r, ps, pr, S, L, sg, ts, rs, c, rfl, _⟩ := h
    rfl
  · obtain ⟨x, r, ps, pr, S, L, sg, ts, rs, c, rfl, cx, hps, hpr, rows, Dr, nps, npr, hc, hS, k⟩ := h
    obtain ⟨fI, fdI, M, GI, bI⟩ := T.make
    obtain ⟨f3, fd3, G3, m3, b3⟩ := T.setm
    obtain ⟨tt3, p3, k3⟩ := useg3 (f := f) (cdv := cdv) (A := A) (outer := outer) (s0 := s) (HH := H) (E := E) T hr
    have hr1 : Room 1 _ := hr.mono (by decide)
    have hr2 : Room 2 _ := hr.mono (by decide)
    have hr3 : Room 3 _ := hr.mono (by decide)
    have hr6 : Room 6 _ := hr.mono (by decide)
    refine ⟨_, pss_cons (ps_set (i := 4) scUn.nd rfl (.inr rfl) (pe_callH T.pick hr2 (by rfl) (pa_cons (pv 3) (pa_cons (pe_callH T.fulls hr1 (by rfl) (pa_cons (pv 1) pa_nil)) pa_nil))))
      (pss_cons (ps_set (i := 5) scUn.nd rfl (.inl rfl) (pe_ifExp (pt_cmpR (op_inD (hu65 hr)) (pv 4) (pv 2) rfl) (pe_lc (own := [("_law_one", 8)]) (g := gName 8) rfl scUn.nd (pi_list (pv 2)) (blkOk_by (N := nUn) (sc := defScope sUnlike) (by decide +kernel))
          (fun _ _ _ _ _ => pg_name (i := 8) scUn.nd rfl (.inl rfl)) (fun _ _ _ _ _ => pts_one (show PT _ _ (tTest (tOp (rNeD K) _ _)) from pt_cmpR (op_neD hr.units) (pv 8) (pv 4) (nomark _))) (fun _ _ _ _ _ => pv 8)) (pe_op op_cat (pv 2) (pe_lst (pa_cons (pv 4) pa_nil)))))
      (pss_cons (ps_asg (pe_tup (pa_cons (pe_lst (pa_cons (pe_make M GI hr6 (by rfl) T.T.mgC bI .nil pass0 (pa_cons (pv 1) (pa_cons (pv 5) pa_nil))) (pa_cons pe_int (pa_cons pe_non (pa_cons (pe_meth0 (pv 0) T.T.cl m3 G3 hr1 b3 .nil pass0) (pa_cons (pv 1) pa_nil)))))) (pa_cons (pe_callH T.fresh hr3 (by rfl) (pa_cons (pv 3) (pa_cons (pv 1) pa_nil))) pa_nil))) (pg_tup rfl (pgs_cons (pg_name (i := 6) scUn.nd rfl (.inl rfl)) (pgs_cons (pg_name (i := 7) scUn.nd rfl (.inr rfl)) pgs_nil))))
      p3)), ?_⟩
    have l6 := Dr.n6
    have l64 := Dr.few
    have lts : ts.length = rs.length := Paired.length rows
    have fitN : ∀ y ∈ sg, Fit y := fun y hy => (Dr.good y hy).fit
    have fitR : ∀ {q : List Str}, FullOf sg q → ∀ y ∈ q, Fit y := fun h y hy => ((full_texts Dr.good h).2 y hy).1
    refine ⟨_, rfl, _, rfl, ps, sg, rfl, (fun H' s' => SqL.of (s' _ _ hps)), l6, (fun y hy => (Dr.good y hy).2.1), fun pf tf H1 hpf0 hpf1 rowf sm1 => ?_⟩
    have lf : tf.length = (fulls sg).length := Paired.length rowf
    have f64 := fulls_few l6
    have f1 : 1 ≤ (fulls sg).length := by rw [fulls_len]; exact Nat.one_le_two_pow
    have hS1 := hS.same sm1
    have offf := hS.off hpf0
    refine ⟨S, L, pf, tf.map V.ref, c, rfl, SqL.of hpf1, (fun H' hk => SqL.of (hk _ _ hpf1 offf.1 offf.2)), by rw [List.length_map]; omega, by rw [List.length_map]; omega, by omega, hS1, fun i v H2 hi hS2 hk2 => ?_⟩
    obtain ⟨tq, htq, rfl⟩ := get_map hi
    obtain ⟨q, hq, hqt⟩ := RowsAt.get rowf i tq htq
    have qf : q ∈ fulls sg := List.mem_of_getElem? hq
    have qF := full_of Dr.nd qf
    obtain ⟨⟨_, e1⟩, ⟨_, e2⟩⟩ := hS1.two
    have hqt2 : TupAt H2 tq q := hk2 _ _ hqt (ne_of hqt e1 fun z => nomatch z) (ne_of hqt e2 fun z => nomatch z)
    have k02 : Kept S L H H2 := fun b o e n1 n2 => hk2 b o (sm1 _ _ e) n1 n2
    have hps2 := lst_kept hps k02 nps
    have hpr2 := lst_kept hpr k02 npr
    have rows2 := RowsAt.kept rows hS.two k02
    have cx2 := cx.kept hS.two k02
    -- the changed settings
    refine ⟨_, rfl, _, rfl, _, _, .tup (SqT.of hqt2) (dp_strs q), .lst (SqL.of hpr2) rows2.lift, shaped_row q (fitR qF), shaped_rows rs (fun r' hr' => fitR (Dr.full r' hr')), _, rfl, ?_⟩
    rw [any_rows]
    refine two_ways (fun v H3 => ∃ pc us rs', v = .ref pc ∧ Same H2 H3 ∧ H3 pc = some (.lst (us.map V.ref)) ∧ RowsAt H3 us rs' ∧ rs'.Nodup ∧ (∀ r' ∈ rs', r' ∈ fulls sg) ∧ rs'.length ≠ rs.length) (fun he Q' kQ => ?_) (fun he Q' kQ => ?_) ?_
    · have hmem : q ∈ rs := of_decide_eq_true he
      refine ⟨_, rfl, pr, rfl, ⟨_, SqL.of hpr2⟩, fun Dl hD => lc_it (walk_list (xs := ts.map V.ref)) (fun i H3 => Same H2 H3 ∧ ∃ us, H3 Dl = some (.lst (us.map V.ref)) ∧ RowsAt H3 us ((rs.take i).filter fun r' => decide (r' ≠ q))) ⟨same_new hD, [], upd_same, .nil⟩ (fun i H3 _ hh => SqL.of (hh.1 _ _ hpr2)) ?_ ?_⟩
      · rintro i v H3 H4 hi ⟨sm, us, hD4, ru⟩ ⟨rfl, hv⟩
        obtain ⟨t, ht, rfl⟩ := get_map hv
        obtain ⟨r', hr', hrt⟩ := RowsAt.get rows2 i t ht
        have er : rs.take (i + 1) = rs.take i ++ [r'] := by rw [List.take_succ, hr']; rfl
        have lus : us.length ≤ 64 := by
          have z1 := Paired.length ru
          have z2 := List.length_filter_le (fun r' => decide (r' ≠ q)) (rs.take i)
          have z3 := List.length_take_le' i rs
          omega
        refine ⟨rfl, _, rfl, _, rfl, _, _, .tup (SqT.of (sm _ _ hrt)) (dp_strs r'), .tup (SqT.of (sm _ _ hqt2)) (dp_strs q), shaped_row r' (fitR (Dr.full r' (List.mem_of_getElem? hr'))), shaped_row q (fitR qF), _, rfl, ?_⟩
        rw [eqv_row]
        by_cases e : r' = q
        · rw [decide_eq_true e]
          refine iteF ⟨sm, us, hD4, ?_⟩
          rw [er, List.filter_append, List.filter_cons, if_neg (by rw [decide_eq_false (fun h => h e)]; decide), List.filter_nil, List.append_nil]
          exact ru
        · rw [decide_eq_false e]
          refine iteT ⟨_, rfl, _, hD4, by rw [List.length_map, sizeLine_eq]; omega, fun b o h => (upd_ne (ne_of_none h hD)).trans (sm b o h), us ++ [t], ?_, RowsAt.put hD4 ?_⟩
          · rw [upd_same, List.map_append]
            rfl
          · rw [er, List.filter_append, List.filter_cons, if_pos (decide_eq_true e)]
            exact rows_snoc ru (sm _ _ hrt)
      · rintro H3 ⟨sm, us, hD3, ru⟩
        rw [List.length_map, lts, List.take_length] at ru
        have nd' : (rs.filter fun r' => decide (r' ≠ q)).Nodup := Dr.rnd.filter _
        have nq : q ∉ rs.filter fun r' => decide (r' ≠ q) := fun h => (of_decide_eq_true (List.mem_filter.mp h).2) rfl
        have less := nodup_le (q :: rs.filter fun r' => decide (r' ≠ q)) rs (List.nodup_cons.mpr ⟨nq, nd'⟩) fun a ha => (List.mem_cons.mp ha).elim (fun e => e ▸ hmem) fun h => (List.mem_filter.mp h).1
        rw [List.length_cons] at less
        exact kQ _ _ ⟨Dl, us, _, rfl, sm, hD3, ru, nd', fun r' hr' => Dr.sub.subset (List.mem_filter.mp hr').1, by omega⟩
    · have hnew : q ∉ rs := of_decide_eq_false he
      refine ⟨_, rfl, _, rfl, by show 1 ≤ sizeLine; decide, fun b1 hb1 => ?_⟩
      have r1 : Same H2 _ := same_new (o := .lst [.ref tq]) hb1
      refine ⟨pr, b1, _, _, rfl, rfl, r1 _ _ hpr2, upd_same, by rw [List.length_map, sizeLine_eq]; show _ + 1 ≤ _; omega, fun a3 ha3 => ?_⟩
      have r3 : Same H2 _ := r1.trans (same_new (o := .lst (ts.map V.ref ++ [.ref tq])) ha3)
      refine kQ _ _ ⟨a3, ts ++ [tq], rs ++ [q], rfl, r3, by rw [upd_same, List.map_append]; rfl, rows_snoc (rows2.same r3) (r3 _ _ hqt2), ?_, fun r' hr' => ?_, by rw [List.length_append]; show _ + 1 ≠ _; omega⟩
      · exact List.nodup_append.mpr ⟨Dr.rnd, List.nodup_cons.mpr ⟨fun h => (nomatch h), List.nodup_nil⟩, fun a ha b hb e => hnew (by rw [← List.mem_singleton.mp hb, ← e]; exact ha)⟩
      · rcases List.mem_append.mp hr' with h | h
        · exact Dr.sub.subset h
        · rw [List.mem_singleton.mp h]
          exact qf
    · rintro v H3 ⟨pc, us, rs', rfl, sm3, hpc, ru, nd', sub', ne'⟩
      have hS3 := hS2.same sm3
      have hps3 := sm3 _ _ hps2
      have hpr3 := sm3 _ _ hpr2
      have rows3 := rows2.same sm3
      have cx3 := cx2.same sm3
      have k03 : Kept S L H H3 := k02.trans fun b o e _ _ => sm3 b o e
      obtain ⟨qss, u1, u2, u3⟩ := handed_full (K := K) ru fun r' hr' => full_of Dr.nd (sub' r' hr')
      have lr' := nodup_le rs' (fulls sg) nd' sub'
      have lq : qss.length = rs'.length := by rw [u2, List.length_map]
      refine ⟨_, rfl, _, rfl, ?_⟩
      intro y dy hy hdy _
      refine make_rule (b1 := true) (b2 := true) (sg := sg) hy hdy (SqL.of hps3) (SqL.of hpc) l6 Dr.nd Dr.good u1 u3 (by omega) fun r1 H4 sm4 c1 fresh1 => ⟨rfl, ?_⟩
      rw [rowsOf_fulls Dr.nd Dr.good u2 sub'] at c1
      have len1 := allow_len nd' sub'
      obtain ⟨_, _, _, _, _, _, hr0⟩ := cx3.at_
      have ne1 : r ≠ r1 := ne_of_none hr0 fresh1
      have cx4 := cx3.same sm4
      obtain ⟨dx, _, _, hx4, _⟩ := cx4.at_
      refine ⟨_, rfl, x, dx, _, rfl, hx4, fl_no (by decide +kernel), x, r, sg, rs, rfl, cx4, fun p2 t2 hp2 hrs2 => ?_⟩
      have s5 : Same H4 _ := same_new (o := .lst (t2.map V.ref)) hp2
      have w5 : upd H4 p2 (.lst (t2.map V.ref)) p2 = some (.lst (t2.map V.ref)) := upd_same
      generalize upd H4 p2 (.lst (t2.map V.ref)) = H5 at s5 w5 ⊢
      refine ⟨_, rfl, by show 5 ≤ sizeLine; decide, fun F hF => ?_⟩
      have s6 : Same H5 _ := same_new (o := .lst [.ref y, .int 5, .non, .ref p2, .ref ps]) hF
      have w6 : upd H5 F (.lst [.ref y, .int 5, .non, .ref p2, .ref ps]) F = some (.lst [.ref y, .int 5, .non, .ref p2, .ref ps]) := upd_same
      have sm36 : Same H3 (upd H5 F (.lst [.ref y, .int 5, .non, .ref p2, .ref ps])) := sm4.trans (s5.trans s6)
      have s46 : Same H4 (upd H5 F (.lst [.ref y, .int 5, .non, .ref p2, .ref ps])) := s5.trans s6
      have hF5 := hF
      have hp2F : p2 ≠ F := ne_of_none w5 hF
      have hpsF : ps ≠ F := ne_of_none (s5 _ _ (sm4 _ _ hps3)) hF
      have hprF : pr ≠ F := ne_of_none (s5 _ _ (sm4 _ _ hpr3)) hF
      have hS5 : StreamAt H5 S L (c + 1) := (hS3.same sm4).same s5
      have offF := hS5.off hF
      have offp2 := (hS3.same sm4).off hp2
      have hFH : H F = none := k03.none (sm4.free (s5.free hF)) offF.1 offF.2
      generalize upd H5 F (.lst [.ref y, .int 5, .non, .ref p2, .ref ps]) = H6 at s6 w6 sm36 s46 ⊢
      have st6 : USt K C x r F ps pr p2 sg ts rs H6 [.ref y, .int 5, .non, .ref p2, .ref ps] := by
        refine ⟨cx3.same sm36, sm36 _ _ hps3, sm36 _ _ hpr3, rows3.same sm36, ⟨_, s6 _ _ w5⟩, w6, fun v hv => ?_⟩
        rcases List.mem_cons.mp hv with rfl | hv
        · exact .inl (.rule (c1.same s46) ne1 (allow_ok l6 Dr.nd Dr.good) (eqR_rows (by omega)) (eqR_rows (by omega)))
        · rcases List.mem_cons.mp hv with rfl | hv
          · exact .inl (.int 5)
          · rcases List.mem_cons.mp hv with rfl | hv
            · exact .inl .non
            · rcases List.mem_cons.mp hv with rfl | hv
              · exact .inr (.inl rfl)
              · exact .inr (.inr (List.mem_singleton.mp hv))
      have hS6 := hS3.same sm36
      refine ⟨_, rfl, _, rfl, S, L, ps, sg, c + 1, rfl, SqL.of st6.hps, (fun H' hk => SqL.of (lst_kept st6.hps hk nps)), by omega, by omega, hS6, fun z c' H7 hc' hz hnz hS7 hk7 => ?_⟩
      have st7 := st6.kept hS6.two hk7 nps npr offp2 offF
      have k07 : Kept S L H H7 := (k03.trans fun b o e _ _ => sm36 b o e).trans hk7
      refine ⟨by show 2 ≤ sizeLine; decide, fun t ht => ⟨t, _, rfl, SqT.of upd_same, rfl, _, _, rfl, _, _, rfl, rfl, ?_⟩⟩
      have s8 : Same H7 _ := same_new (o := .tup [.ref F, .str z]) ht
      refine k3 _ x r F ps pr p2 sg ts rs _ z _ _ _ _ _ _ (st7.same s8) Dr hpsF.symm hprF.symm hp2F.symm (by show 5 ≤ 8; decide) hz hnz fun H' g => k c' H' (by omega) ?_ ?_
      · obtain ⟨ns, a, m, h1, h2, h3⟩ := hS7.same s8
        exact ⟨ns, a, m, g _ _ offF.1.symm h1, g _ _ offF.2.symm h2, h3⟩
      · intro b o e n1 n2
        exact g b o (fun q => by rw [q, hFH] at e; cases e) (s8 _ _ (k07 b o e n1 n2))
end
end K6
namespace K6
open PySem PySem.Spec PyProof.Rows L2 LamX NdefX EV
/-- all that the law's own body asks of the text -/
structure LTx (P : Program) (w : World) (K : PySem.W.Frag) (mg : Str → Option Value) (base : Heap) (C : Addr) : Prop where
  U : UTx P w K mg base C
  range : mg "range" = none
  repr : mg "repr" = none
  isi : mg "isinstance" = none
  drawn : Has P w K mg base 5 "_law_drawn_rule" ["_law_stream", "_law_most"] spDrawn
  draw : Has P w K mg base 1 "_law_draw" ["_law_stream", "_law_many"] spDraw
  mixed : Has P w K mg base 2 "_law_mixed" ["_law_stream", "_law_things"] (spMixed K)
  same : HasG P w K mg base 1 "_law_same" ["_law_found", "_law_due"] (spSameP K)
  right : HasG P w K mg base 3 "_law_is_right" ["_law_rule", "_law_signs", "_law_allowed"] (spRight K C)
  unlike : Has P w K mg base 9 "_law_is_unlike" ["_law_rule", "_law_signs", "_law_allowed", "_law_stream"] (spUnlike K C)
  cont : ∃ fC fdC, FnOk P w K mg base CX0 5 fC fdC ["self", "thing"] (spContains K C) ∧ PySem.W.findIn K (.ref C) "__contains__" = some (some (.ref fC)) ∧ PySem.W.isFn K (.ref fC) = true ∧ L2.Binds K fdC ["self", "thing"] []
abbrev nLaw : List Str := ["_law_script", "_law_stream", "_law_turn", "_law_signs", "_law_allowed", "_law_given", "_law_one", "_law_passed", "_law_kept", "_law_rule", "_law_found", "_law_twin", "_law_odd"]
theorem scLaw : FnScope nLaw ["_law_script"] (defScope sLaw) := ⟨rfl, rfl, rfl, by decide +kernel, rfl, by decide +kernel, by decide +kernel⟩
/-- the rows of a turn -/
def turn : List Stmt := forBody ((defBody sLaw).getD 1 (.Pass ⟨0, 0, 0, 0⟩))
structure LSt (K : PySem.W.Frag) (C : Addr) (S L ps pr x r : Addr) (sg : List Str) (ts : List Addr) (rs : List (List Str)) (H : Hp) (c : Nat) : Prop where
  str : StreamAt H S L c
  hps : H ps = some (.lst (sg.map V.str))
  hpr : H pr = some (.lst (ts.map V.ref))
  rows : RowsAt H ts rs
  cx : RuleR K C H x sg rs r
structure LFx (S L ps pr : Addr) (sg : List Str) (rs : List (List Str)) : Prop where
  nps : ps ≠ S ∧ ps ≠ L
  npr : pr ≠ S ∧ pr ≠ L
  D : Draw2 sg rs
section
variable {K : PySem.W.Frag} {C : Addr} {H H' : Hp} {S L ps pr x r : Addr} {sg : List Str} {ts : List Addr} {rs : List (List Str)} {c : Nat}
theorem LSt.same (o : LSt K C S L ps pr x r sg ts rs H c) (sm : Same H H') : LSt K C S L ps pr x r sg ts rs H' c := ⟨o.str.same sm, sm _ _ o.hps, sm _ _ o.hpr, o.rows.same sm, o.cx.same sm⟩
theorem LSt.next {c' : Nat} (o : LSt K C S L ps pr x r sg ts rs H c) (fx : LFx S L ps pr sg rs) (k : Kept S L H H') (hS : StreamAt H' S L c') : LSt K C S L ps pr x r sg ts rs H' c' :=
  ⟨hS, lst_kept o.hps k fx.nps, lst_kept o.hpr k fx.npr, o.rows.kept o.str.two k, o.cx.kept o.str.two k⟩
end
/-- the σ of a turn -/
def Sig (a S ps pr x : Addr) (σ : L2.St) : Prop := ∃ o2 o5 o6 o7 o8 o10 o11 o12, σ = [some (.ref a), some (.ref S), o2, some (.ref ps), some (.ref pr), o5, o6, o7, o8, some (.ref x), o10, o11, o12]
/-- the σ between turns -/
def SigT (a S : Addr) (σ : L2.St) : Prop := ∃ o2 o3 o4 o5 o6 o7 o8 o9 o10 o11 o12, σ = [some (.ref a), some (.ref S), o2, o3, o4, o5, o6, o7, o8, o9, o10, o11, o12]
/-- the twin: names and settings the other way round -/
theorem rev_full {sg r : List Str} (h : r ∈ fulls sg) : r.reverse ∈ fulls sg.reverse := by
  obtain ⟨qs, e, rfl⟩ := fulls_mem.mp h
  exact fulls_mem.mpr ⟨qs.reverse, by rw [List.map_reverse, e], by rw [List.map_reverse]⟩
theorem asc_rev {sg r : List Str} (nd : sg.Nodup) (good : ∀ z ∈ sg, Name1 z) (h : r ∈ fulls sg) : asc sg r.reverse = r :=
  (asc_congr fun _ => List.mem_reverse).trans (asc_fulls nd good h)
theorem twin_eq {sg : List Str} {rs : List (List Str)} (D : Draw2 sg rs) : eqR sg.reverse (allow sg.reverse (rs.map List.reverse)) sg rs = true := by
  have sub : ∀ q ∈ rs.map List.reverse, q ∈ fulls sg.reverse := fun q hq => by
    obtain ⟨r, hr, rfl⟩ := List.mem_map.mp hq
    exact rev_full (D.sub.subset hr)
  have nd : (rs.map List.reverse).Nodup := nodup_map_inj D.rnd fun a _ b _ e => List.reverse_inj.mp e
  have len := allow_len nd sub
  rw [List.length_map] at len
  have mem : sameMem sg.reverse sg = true := sameMem_iff.mpr ⟨List.length_reverse, fun x hx => List.mem_reverse.mp hx⟩
  unfold eqR leR
  rw [mem, decide_eq_true len, Bool.and_true, Bool.true_and]
  refine List.all_eq_true.mpr fun b hb => ?_
  obtain ⟨q, hq, rfl⟩ := List.mem_map.mp hb
  obtain ⟨r, hr, rfl⟩ := List.mem_map.mp (allow_mem.mp hq).2
  refine decide_eq_true ?_
  rw [asc_rev D.nd D.good (D.sub.subset hr)]
  exact hr
section
variable {P : Program} {w : World} {K : PySem.W.Frag} {mg : Str → Option Value} {base : Heap} {C : Addr}
variable {f : Addr} {cdv : Value} {A : Around} {outer : List Env} {s0 : Shared} {HH : Hp} {E : XK}
abbrev XL (P : Program) (w : World) (K : PySem.W.Frag) (mg : Str → Option Value) (base : Heap) (f : Addr) (cdv : Value) (A : Around) (outer : List Env) (s0 : Shared) (HH : Hp) (E : XK) : Cx := (cxOf CX0 P w K mg base nLaw "law" (defScope sLaw) f cdv A outer s0 HH E).nox
theorem lseg12 (T : LTx P w K mg base C) (hr : Room 9 (XL P w K mg base f cdv A outer s0 HH E).A) :
    ∃ tt, PSs (XL P w K mg base f cdv A outer s0 HH E) (turn.drop 12) tt ∧ ∀ (D : Ends) (a S L ps pr x r : Addr) (sg : List Str) (ts : List Addr) (rs : List (List Str)) (σ : L2.St) (H : Hp) (c : Nat), Sig a S ps pr x σ → LFx S L ps pr sg rs → LSt K C S L ps pr x r sg ts rs H c → c ≤ 60000 →
      (∀ σ' H' c', SigT a S σ' → StreamAt H' S L c' → c' ≤ c + 12 → D.nx σ' H') → tt D σ H := by
  obtain ⟨fE, fdE, FE, TE, bE⟩ := T.U.eq
  obtain ⟨fI, fdI, M, GI, bI⟩ := T.U.make
  have hr8 : Room 8 _ := hr.mono (by decide)
  have hr7 : Room 7 _ := hr.mono (by decide)
  have hr6 : Room 6 _ := hr.mono (by decide)
  refine ⟨_, pss_cons (ps_set (i := 11) scLaw.nd rfl (.inl rfl) (pe_make M GI hr6 (by rfl) T.U.T.mgC bI .nil pass0 (pa_cons (pe_revL (pv 3)) (pa_cons (pe_lc (own := [("_law_one", 6)]) (g := gName 6) (tt := tYes) rfl scLaw.nd (pi_list (pv 4)) (blkOk_by (N := nLaw) (sc := defScope sLaw) (by decide +kernel))
        (fun _ _ _ _ _ => pg_name (i := 6) scLaw.nd rfl (.inl rfl)) (fun _ _ _ _ _ => pts_nil) (fun _ _ _ _ _ => show PE _ _ (tRevT K _) from pe_revT (pv 6))) pa_nil))))
      (pss_one (ps_if (PW.pt (pw_or (pt_not (pt_cmpR (op_eqOwn FE TE.eq TE.fn bE pass0 hr7) (pv 11) (pv 9) (nomark _))) (pw_or (pt_cmpR (op_neOwn FE TE bE pass0 hr8) (pv 11) (pv 9) (nomark _)) (pw_or1 (pt_not (pt_val (pe_callH T.unlike hr (by rfl) (pa_cons (pv 9) (pa_cons (pv 3) (pa_cons (pv 4) (pa_cons (pv 1) pa_nil))))))))))) (pss_one ps_none) pss_nil)), ?_⟩
  rintro D a S L ps pr x r sg ts rs σ H c ⟨o2, o5, o6, o7, o8, o10, o11, o12, rfl⟩ fx st hc k
  have Dr := fx.D
  have ok := Dr.ok
  have l6 := Dr.n6
  have l64 := Dr.few
  have lts : ts.length = rs.length := Paired.length st.rows
  refine ⟨_, rfl, ps, _, rfl, SqL.of st.hps, fun p hp => ?_⟩
  rw [← List.map_reverse]
  have s1 : Same H _ := same_new (o := .lst (sg.reverse.map V.str)) hp
  have hp1 : upd H p (.lst (sg.reverse.map V.str)) p = some (.lst (sg.reverse.map V.str)) := upd_same
  generalize upd H p (.lst (sg.reverse.map V.str)) = H1 at s1 hp1 ⊢
  have st1 := st.same s1
  refine ⟨_, rfl, pr, rfl, ⟨_, SqL.of st1.hpr⟩, fun Dl hD => lc_it (walk_list (xs := ts.map V.ref)) (fun i H2 => Same H1 H2 ∧ ∃ us, H2 Dl = some (.lst (us.map V.ref)) ∧ RowsAt H2 us ((rs.take i).map List.reverse)) ⟨same_new hD, [], upd_same, .nil⟩ (fun i H2 _ hh => SqL.of (hh.1 _ _ st1.hpr)) ?_ ?_⟩
  · rintro i v H2 H3 hi ⟨sm, us, hD3, ru⟩ ⟨rfl, hv⟩
    obtain ⟨t, ht, rfl⟩ := get_map hv
    obtain ⟨q, hq, hqt⟩ := RowsAt.get st1.rows i t ht
    have er : rs.take (i + 1) = rs.take i ++ [q] := by rw [List.take_succ, hq]; rfl
    have lus : us.length ≤ 64 := by
      have z := Paired.length ru
      rw [List.length_map, List.length_take] at z
      omega
    refine ⟨rfl, _, rfl, t, _, rfl, SqT.of (sm _ _ hqt), fun p9 hp9 => ?_⟩
    have s9 : Same H3 _ := same_new (o := .tup (q.map V.str).reverse) hp9
    refine ⟨_, s9 _ _ hD3, by rw [List.length_map, sizeLine_eq]; omega, fun b o h => (upd_ne (ne_of_none h hD)).trans (s9 _ _ (sm _ _ h)), us ++ [p9], ?_, RowsAt.put (s9 _ _ hD3) ?_⟩
    · rw [upd_same, List.map_append]
      rfl
    · rw [er, List.map_append]
      refine rows_snoc (ru.same s9) ?_
      show upd _ _ _ _ = _
      rw [upd_same, List.map_reverse]
  · rintro H2 ⟨sm, us, hD2, ru⟩
    rw [List.length_map, lts, List.take_length] at ru
    have st2 := st1.same sm
    have sub : ∀ q ∈ rs.map List.reverse, q ∈ fulls sg.reverse := fun q hq => by
      obtain ⟨r, hr, rfl⟩ := List.mem_map.mp hq
      exact rev_full (Dr.sub.subset hr)
    have n6r : sg.reverse.length ≤ 6 := by rw [List.length_reverse]; exact l6
    have ndr : sg.reverse.Nodup := (List.reverse_perm sg).nodup_iff.mpr Dr.nd
    have goodr : ∀ z ∈ sg.reverse, Name1 z := fun z hz => Dr.good z (List.mem_reverse.mp hz)
    obtain ⟨qss, u1, u2, u3⟩ := handed_full (K := K) ru fun q hq => full_of ndr (sub q hq)
    have lq : qss.length = rs.length := by
      have y := congrArg List.length u2
      rw [List.length_map, List.length_map] at y
      omega
    intro y dy hy hdy _
    refine make_rule (b1 := true) (b2 := true) (sg := sg.reverse) hy hdy (SqL.of (sm _ _ hp1)) (SqL.of hD2) n6r ndr goodr u1 u3 (by omega) fun r' H3 sm3 c1 fresh => ⟨rfl, ?_⟩
    rw [rowsOf_fulls ndr goodr u2 sub] at c1
    have st3 := st2.same sm3
    obtain ⟨_, _, _, _, _, _, hr0⟩ := st2.cx.at_
    have ne : r' ≠ r := (ne_of_none hr0 fresh).symm
    obtain ⟨dx, _, _, hx, _⟩ := st3.cx.at_
    obtain ⟨dy2, _, _, hy3, _⟩ := c1.at_
    have okr : OkR sg.reverse (allow sg.reverse (rs.map List.reverse)) := allow_ok n6r ndr goodr
    have eE := twin_eq Dr
    have ask : ∀ {H4 : Hp} {Q : VK}, Same H3 H4 → (∀ H', Same H4 H' → Q (.bl true) H') → spEq K C [.ref y, .ref x] H4 Q E0 := fun {H4 Q} sm q => ⟨y, .ref x, _, _, r', rfl, c1.same sm, okr.n60, okr.nd, okr.full, okr.few, .inl ⟨x, sg, rs, r, rfl, st3.cx.same sm, ne, ok.n60, ok.nd, ok.good, fun H' s' => by rw [eE]; exact q H' s'⟩⟩
    have ty : ∀ {H4 : Hp}, Same H3 H4 → TyX K H4 (.ref x) (.ref C) := fun sm => .base (.ins (sm _ _ hx) T.U.T.cl T.U.CI.cl T.U.CI.gt T.U.CI.tk T.U.CI.ob)
    refine ⟨_, rfl, _, rfl, .ref C, ty (Same.refl _), T.U.not2, y, dy2, _, rfl, hy3, ask (Same.refl _) fun H4 sm4 => ⟨_, rfl, _, rfl, iteF ⟨_, rfl, _, rfl, .inl ⟨y, dy2, _, .ref C, rfl, sm4 _ _ hy3, ty sm4, T.U.not2, ask sm4 fun H5 sm5 => ⟨_, rfl, _, rfl, iteF ?_⟩⟩⟩⟩⟩
    have st5 := (st3.same sm4).same sm5
    exact ⟨_, rfl, _, rfl, _, rfl, _, rfl, x, r, ps, pr, S, L, sg, ts, rs, c, rfl, st5.cx, st5.hps, st5.hpr, st5.rows, Dr, fx.nps, fx.npr, by omega, st5.str, fun c' H' hc' hS' hk' => ⟨_, rfl, iteF (k _ H' c' ⟨_, _, _, _, _, _, _, _, _, _, _, rfl⟩ hS' hc')⟩⟩
end
end K6
namespace K6
open PySem PySem.Spec PyProof.Rows L2 LamX NdefX EV
/-! ### things that are no full settings -/
theorem lit_first {ns : List Str} (good : ∀ z ∈ ns, Name1 z) {z : Str} (h45 : z.cps.toList.head? ≠ some 45) (hz : z ∉ ns) : z ∉ lits ns := fun h => by
  obtain ⟨n, hn, e⟩ := lits_mem.mp h
  rcases e with e | e
  · exact hz (e ▸ hn)
  · rw [e, neg_list] at h45
    exact h45 rfl
section
variable {K : PySem.W.Frag} {H : Hp} {ns : List Str}
theorem ask_bl (b : Bool) : Ask K H ns false (.bl b) := .odd (.type "bool") (fun H' _ => .base (.bl b)) (kit_no (kit_ty (by decide +kernel)) (kit_ty (by decide +kernel)))
theorem ask_a5 {A : Addr} {i : Int} (good : ∀ z ∈ ns, Name1 z) (h : H A = some (.lst [.str (Str.ofString "a"), .int i])) : Ask K H ns false (.ref A) := by
  refine ask_list h fun H' sm => ?_
  by_cases m : Str.ofString "a" ∈ ns
  · exact .bad (qs := [(false, Str.ofString "a")]) (rest := []) ⟨List.nodup_cons.mpr ⟨(fun h => nomatch h), List.nodup_nil⟩, fun q hq => by rw [List.mem_singleton.mp hq]; exact m⟩ (.odd (.type "int") (fun _ _ => .base (.int i)) (kit_ty (by decide +kernel)))
  · exact .bad (qs := []) (rest := [.int i]) ⟨List.nodup_nil, fun _ h => nomatch h⟩ (.far (lit_first good (by decide) m))
/-- a full setting and "zz" behind it -/
theorem ask_zz2 {A : Addr} {qs : List (Bool × Str)} (good : ∀ z ∈ ns, Name1 z) (hq : Lits ns qs) (e : qs.map Prod.snd = ns) (h : H A = some (.tup ((qs.map lit ++ [Str.ofString "zz"]).map V.str))) : Ask K H ns false (.ref A) := by
  refine .seq (b := false) (.type "tuple") (fun H' sm => .base (.tup (sm _ _ h))) (kit_seq false) (fun H' sm => Sq.tup (sm _ _ h)) fun H' sm => ?_
  rw [List.map_append]
  by_cases m : Str.ofString "zz" ∈ ns
  · exact .bad (qs := qs) (x := .str (lit (false, Str.ofString "zz"))) (rest := []) hq (.twice (q := (false, Str.ofString "zz")) m (by rw [e]; exact m))
  · exact .bad (qs := qs) (x := .str (Str.ofString "zz")) (rest := []) hq (.far (lit_first good (by decide) m))
end
section
variable {P : Program} {w : World} {K : PySem.W.Frag} {mg : Str → Option Value} {base : Heap} {C : Addr}
variable {f : Addr} {cdv : Value} {A : Around} {outer : List Env} {s0 : Shared} {HH : Hp} {E : XK}
theorem lseg11 (T : LTx P w K mg base C) (hr : Room 9 (XL P w K mg base f cdv A outer s0 HH E).A) :
    ∃ tt, PSs (XL P w K mg base f cdv A outer s0 HH E) (turn.drop 11) tt ∧ ∀ (D : Ends) (a S L ps pr x r : Addr) (sg : List Str) (ts : List Addr) (rs : List (List Str)) (σ : L2.St) (H : Hp) (c : Nat), Sig a S ps pr x σ → LFx S L ps pr sg rs → LSt K C S L ps pr x r sg ts rs H c → c ≤ 60000 →
      (∀ σ' H' c', SigT a S σ' → StreamAt H' S L c' → c' ≤ c + 12 → D.nx σ' H') → tt D σ H := by
  obtain ⟨fC, fdC, FC, hsC, hfC, bC⟩ := T.cont
  obtain ⟨tt3, p3, k3⟩ := lseg12 (f := f) (cdv := cdv) (A := A) (outer := outer) (s0 := s0) (HH := HH) (E := E) T hr
  have hr5 : Room 5 _ := hr.mono (by decide)
  refine ⟨_, pss_cons (ps_if (pt_val (pe_callB (cr_any rfl) (by rfl) T.U.any (by decide +kernel) (pa_cons (pe_lc (own := [("_law_odd", 12)]) (g := gName 12) (tt := tYes) rfl scLaw.nd (pi_list (pe_lst (pa_cons pe_non (pa_cons pe_int (pa_cons pe_str (pa_cons pe_str (pa_cons pe_dnewK (pa_cons (pe_lst (pa_cons pe_str (pa_cons pe_int pa_nil))) (pa_cons (pe_lst (pa_cons (pe_lst (pa_cons pe_str pa_nil)) pa_nil)) (pa_cons pe_bl pa_nil)))))))))) (blkOk_by (N := nLaw) (sc := defScope sLaw) (by decide +kernel))
        (fun _ _ _ _ _ => pg_name (i := 12) scLaw.nd rfl (.inl rfl)) (fun _ _ _ _ _ => pts_nil) (fun _ _ _ _ _ => pe_cmpR (op_inOwn FC hsC hfC bC pass0 hr5) (pv 12) (pv 9) rfl)) pa_nil))) (pss_one ps_none) pss_nil) p3, ?_⟩
  rintro D a S L ps pr x r sg ts rs σ H c ⟨o2, o5, o6, o7, o8, o10, o11, o12, rfl⟩ fx st hc k
  have ok := fx.D.ok
  have one1 : 1 ≤ sizeLine := by decide
  refine fun e he => ⟨by show 2 ≤ sizeLine; decide, fun z1 hz1 => ⟨one1, fun z2 hz2 => ⟨one1, fun z3 hz3 => ⟨by show 8 ≤ sizeLine; decide, fun Lo hLo => ?_⟩⟩⟩⟩
  have a1 : Same H _ := same_new (o := .dK []) he
  have a2 : Same _ _ := same_new (o := .lst [.str (Str.ofString "a"), .int 5]) hz1
  have a3 : Same _ _ := same_new (o := .lst [.str (Str.ofString "a")]) hz2
  have a4 : Same _ _ := same_new (o := .lst [.ref z2]) hz3
  have a5 : Same _ _ := same_new (o := .lst [.non, .int 5, .str (Str.ofString ""), .str (Str.ofString "a"), .ref e, .ref z1, .ref z3, .bl true]) hLo
  have w0 := (a2.trans (a3.trans (a4.trans a5))) _ _ (upd_same (H := H) (a := e) (o := .dK []))
  have w1 := (a3.trans (a4.trans a5)) _ _ (upd_same (H := upd H e (.dK [])) (a := z1) (o := .lst [.str (Str.ofString "a"), .int 5]))
  have w2 := (a4.trans a5) _ _ (upd_same (H := upd (upd H e (.dK [])) z1 (.lst [.str (Str.ofString "a"), .int 5])) (a := z2) (o := .lst [.str (Str.ofString "a")]))
  have w3 := a5 _ _ (upd_same (H := upd (upd (upd H e (.dK [])) z1 (.lst [.str (Str.ofString "a"), .int 5])) z2 (.lst [.str (Str.ofString "a")])) (a := z3) (o := .lst [.ref z2]))
  have w4 := upd_same (H := upd (upd (upd (upd H e (.dK [])) z1 (.lst [.str (Str.ofString "a"), .int 5])) z2 (.lst [.str (Str.ofString "a")])) z3 (.lst [.ref z2])) (a := Lo) (o := .lst [.non, .int 5, .str (Str.ofString ""), .str (Str.ofString "a"), .ref e, .ref z1, .ref z3, .bl true])
  have s6 := a1.trans (a2.trans (a3.trans (a4.trans a5)))
  generalize upd (upd (upd (upd (upd H e (.dK [])) z1 (.lst [.str (Str.ofString "a"), .int 5])) z2 (.lst [.str (Str.ofString "a")])) z3 (.lst [.ref z2])) Lo (.lst [.non, .int 5, .str (Str.ofString ""), .str (Str.ofString "a"), .ref e, .ref z1, .ref z3, .bl true]) = H6 at w0 w1 w2 w3 w4 s6 ⊢
  have st6 := st.same s6
  have odd : ∀ v ∈ [V.non, .int 5, .str (Str.ofString ""), .str (Str.ofString "a"), .ref e, .ref z1, .ref z3, .bl true], Ask K H6 sg false v := fun v hv => by
    rcases List.mem_cons.mp hv with rfl | hv
    · exact ask_non
    rcases List.mem_cons.mp hv with rfl | hv
    · exact ask_int 5
    rcases List.mem_cons.mp hv with rfl | hv
    · exact ask_str _
    rcases List.mem_cons.mp hv with rfl | hv
    · exact ask_str _
    rcases List.mem_cons.mp hv with rfl | hv
    · exact ask_dict w0
    rcases List.mem_cons.mp hv with rfl | hv
    · exact ask_a5 ok.good w1
    rcases List.mem_cons.mp hv with rfl | hv
    · exact ask_deep w2 w3
    · rw [List.mem_singleton.mp hv]
      exact ask_bl true
  have l8 : ([V.non, .int 5, .str (Str.ofString ""), .str (Str.ofString "a"), .ref e, .ref z1, .ref z3, .bl true]).length = 8 := rfl
  generalize [V.non, .int 5, .str (Str.ofString ""), .str (Str.ofString "a"), .ref e, .ref z1, .ref z3, .bl true] = xs at w4 odd l8 ⊢
  refine ⟨Lo, rfl, ⟨_, SqL.of w4⟩, fun L1 hL1 => lc_it (walk_list (xs := xs)) (fun i H2 => Same H6 H2 ∧ H2 L1 = some (.lst ((List.replicate i false).map V.bl))) ⟨same_new hL1, upd_same⟩ (fun i H2 _ hh => SqL.of (hh.1 _ _ w4)) ?_ ?_⟩
  · rintro i v H7 H8 hi ⟨sm, hL2⟩ ⟨rfl, hv⟩
    have st7 := st6.same sm
    obtain ⟨dx, _, _, hx, _⟩ := st7.cx.at_
    refine ⟨rfl, _, rfl, _, rfl, x, dx, _, rfl, hx, x, r, v, sg, rs, rfl, st7.cx, ok.n60, ok.nd, ok.good, .inr ⟨(odd v (List.mem_of_getElem? hv)).same sm, fun H9 sm9 => ⟨_, rfl, _, sm9 _ _ hL2, ?_, fun b o e => (upd_ne (ne_of_none e hL1)).trans (sm9 b o (sm b o e)), ?_⟩⟩⟩
    · rw [List.length_map, List.length_replicate, sizeLine_eq]
      omega
    · rw [upd_same, List.replicate_succ', List.map_append]
      rfl
  · rintro H7 ⟨sm, hL2⟩
    have e : (List.replicate xs.length false).any id = false := List.any_eq_false.mpr fun b hb => by rw [(List.mem_replicate.mp hb).2]; decide
    refine ⟨L1, _, rfl, SqL.of hL2, _, rfl, ?_⟩
    rw [e]
    exact iteF (k3 D a S L ps pr x r sg ts rs _ H7 c ⟨_, _, _, _, _, _, _, _, rfl⟩ fx (st6.same sm) hc k)
end
end K6
namespace K6
open PySem PySem.Spec PyProof.Rows L2 LamX NdefX EV
theorem sIx_last (n d : Nat) : HT.sIx n d (some (-1)) = n - 1 := by
  show (if (-1 : Int) < 0 then ((-1 : Int) + (n : Int)).toNat else min (-1 : Int).toNat n) = n - 1
  rw [if_pos (by decide)]
  omega
theorem cut_last (xs : List V) : cutV xs none (some (-1)) = xs.dropLast := by
  unfold cutV
  rw [HT.sIx_none, sIx_last, List.drop_zero, Nat.sub_zero, List.dropLast_eq_take]
theorem small_two (b : Bool) : Small (.list [.bool b, .bool b]) 20 := by
  cases b <;> exact ⟨rfl, by decide, rfl, by decide⟩
section
variable {P : Program} {w : World} {K : PySem.W.Frag} {mg : Str → Option Value} {base : Heap} {C : Addr}
variable {f : Addr} {cdv : Value} {A : Around} {outer : List Env} {s0 : Shared} {HH : Hp} {E : XK}
theorem lseg10 (T : LTx P w K mg base C) (gd : (XL P w K mg base f cdv A outer s0 HH E).A.guards = some []) (hr : Room 9 (XL P w K mg base f cdv A outer s0 HH E).A) :
    ∃ tt, PSs (XL P w K mg base f cdv A outer s0 HH E) (turn.drop 10) tt ∧ ∀ (D : Ends) (a S L ps pr x r : Addr) (sg : List Str) (ts : List Addr) (rs : List (List Str)) (σ : L2.St) (H : Hp) (c : Nat), Sig a S ps pr x σ → LFx S L ps pr sg rs → LSt K C S L ps pr x r sg ts rs H c → c ≤ 50000 →
      (∀ σ' H' c', SigT a S σ' → StreamAt H' S L c' → c' ≤ c + 500 → D.nx σ' H') → tt D σ H := by
  obtain ⟨fC, fdC, FC, hsC, hfC, bC⟩ := T.cont
  obtain ⟨tt3, p3, k3⟩ := lseg11 (f := f) (cdv := cdv) (A := A) (outer := outer) (s0 := s0) (HH := HH) (E := E) T hr
  have hr5 : Room 5 _ := hr.mono (by decide)
  have hr2 : Room 2 _ := hr.mono (by decide)
  have hr1 : Room 1 _ := hr.mono (by decide)
  refine ⟨_, pss_cons (ps_for PassesOwn.never rfl (pi_list (pe_callH T.U.fulls hr1 (by rfl) (pa_cons (pv 3) pa_nil))) (pg_name (i := 6) scLaw.nd rfl (.inl rfl))
      (pss_cons (ps_set (i := 10) scLaw.nd rfl (.inl rfl) (pe_lst (pa_cons (pe_cmpR (op_inOwn FC hsC hfC bC pass0 hr5) (pv 6) (pv 9) rfl) (pa_cons (pe_cmpR (op_inOwn FC hsC hfC bC pass0 hr5) (pe_callH T.mixed hr2 (by rfl) (pa_cons (pv 1) (pa_cons (pv 6) pa_nil))) (pv 9) rfl) pa_nil))))
      (pss_one (ps_if (PW.pt (pw_or (pt_not (pt_val (pe_callHG T.same gd hr1 (by rfl) (pa_cons (pv 10) (pa_cons (pe_op op_rep (pe_lst (pa_cons (pe_cmpR (op_inD (hu65 hr)) (pv 6) (pv 4) rfl) pa_nil)) pe_int) pa_nil)))))
        (pw_or (pt_cmpR (op_inOwn FC hsC hfC bC pass0 hr5) (pe_op op_catA (pv 6) (pe_tup (pa_cons pe_str pa_nil))) (pv 9) rfl)
        (pw_or1 (PW.pt (pw_and (pt_cmpR (op_inOwn FC hsC hfC bC pass0 hr5) (pe_slice sl_tupA (pv 6) po_none (po_some (pe_un un_neg pe_int))) (pv 9) rfl) (pw_and1 (pt_cmpR (op_neD hr.units) (pv 6) (pe_tup pa_nil) (nomark _)))))))))
        (pss_one ps_none) pss_nil)))) p3, ?_⟩
  rintro D a S L ps pr x r sg ts rs σ H c ⟨o2, o5, o6, o7, o8, o10, o11, o12, rfl⟩ fx st hc k
  have Dr := fx.D
  have ok := Dr.ok
  have l6 := Dr.n6
  have l64 := Dr.few
  have one1 : 1 ≤ sizeLine := by decide
  refine ⟨_, rfl, ps, sg, rfl, (fun H' s' => SqL.of (s' _ _ st.hps)), l6, (fun y hy => (Dr.good y hy).2.1), fun pf tf H1 hpf0 hpf1 rowf sm1 => ?_⟩
  have st1 := st.same sm1
  have offf := st.str.off hpf0
  have lf : tf.length = (fulls sg).length := Paired.length rowf
  have f64 := fulls_few l6
  refine ⟨pf, rfl, ⟨_, SqL.of hpf1⟩, for_list (K := K) (a := pf) (xs := tf.map V.ref) (fun i σ H2 => Sig a S ps pr x σ ∧ H2 pf = some (.lst (tf.map V.ref)) ∧ RowsAt H2 tf (fulls sg) ∧ ∃ c2, c2 ≤ c + 6 * i ∧ LSt K C S L ps pr x r sg ts rs H2 c2) ⟨⟨_, _, _, _, _, _, _, _, rfl⟩, hpf1, rowf, c, by omega, st1⟩ (fun i σ H2 _ hh => SqL.of hh.2.1) ?_ ?_⟩
  · rintro i v σ2 H2 hv ⟨⟨o2, o5, o6, o7, o8, o10, o11, o12, rfl⟩, hpf2, rowf2, c2, hc2, st2⟩
    obtain ⟨t, ht, rfl⟩ := get_map hv
    obtain ⟨q, hq', ht2⟩ := RowsAt.get rowf2 i t ht
    have ilt : i < (fulls sg).length := (List.getElem?_eq_some_iff.mp hq').1
    have qf : q ∈ fulls sg := List.mem_of_getElem? hq'
    have eA := asc_fulls Dr.nd Dr.good qf
    have qF := full_of Dr.nd qf
    have fitQ : ∀ y ∈ q, Fit y := fun y hy => ((full_texts Dr.good qF).2 y hy).1
    obtain ⟨qs, eq, rfl⟩ := fulls_mem.mp qf
    have lq : qs.length = sg.length := by rw [← eq, List.length_map]
    have hq : Lits sg qs := ⟨by rw [eq]; exact Dr.nd, fun z hz => by rw [← eq]; exact List.mem_map_of_mem hz⟩
    have ll : ((qs.map lit).map V.str).length = qs.length := by rw [List.length_map, List.length_map]
    obtain ⟨dx, _, _, hx, _⟩ := st2.cx.at_
    have b1 : (decide (qs.length = sg.length) && decide (asc sg (qs.map lit) ∈ rs)) = decide (qs.map lit ∈ rs) := by rw [decide_eq_true lq, eA, Bool.true_and]
    obtain ⟨bb, ebb⟩ : ∃ b, decide (qs.map lit ∈ rs) = b := ⟨_, rfl⟩
    refine ⟨_, rfl, _, rfl, x, dx, _, rfl, hx, x, r, .ref t, sg, rs, rfl, st2.cx, ok.n60, ok.nd, ok.good, .inl ⟨qs, given_tup hq ht2 hx, fun H3 sm3 => ⟨_, rfl, ?_⟩⟩⟩
    rw [b1, ebb]
    have st3 := st2.same sm3
    have ht3 := sm3 _ _ ht2
    refine ⟨_, rfl, _, rfl, S, L, t, false, (qs.map lit).map V.str, c2, rfl, Sq.tup ht3, by rw [ll]; omega, by rw [ll]; omega, st3.str, fun ys p H4 pm hp0 hp4 hS4 hk4 => ?_⟩
    obtain ⟨ms, rfl, pm2⟩ := unmap_str ys (qs.map lit) pm
    obtain ⟨qs', pq, rfl⟩ := perm_unmap pm2 qs rfl
    rw [ll] at hS4
    have st4 := st3.next fx hk4 hS4
    obtain ⟨⟨_, g1⟩, ⟨_, g2⟩⟩ := st3.str.two
    have ht4 := hk4 _ _ ht3 (ne_of ht3 g1 fun z => nomatch z) (ne_of ht3 g2 fun z => nomatch z)
    have hpf4 := lst_kept (sm3 _ _ hpf2) hk4 offf
    have rowf4 := RowsAt.kept (rowf2.same sm3) st3.str.two hk4
    obtain ⟨dx4, _, _, hx4, _⟩ := st4.cx.at_
    have b2 : (decide (qs'.length = sg.length) && decide (asc sg (qs'.map lit) ∈ rs)) = decide (qs.map lit ∈ rs) := by rw [decide_eq_true (pq.length_eq.trans lq), asc_perm pq, eA, Bool.true_and]
    refine ⟨_, rfl, x, dx4, _, rfl, hx4, x, r, .ref p, sg, rs, rfl, st4.cx, ok.n60, ok.nd, ok.good, .inl ⟨qs', given_list (hq.perm pq) hp4 hx4, fun H5 sm5 => ⟨_, rfl, ?_⟩⟩⟩
    rw [b2, ebb]
    refine ⟨by show 2 ≤ sizeLine; decide, fun fl hfl => ?_⟩
    have s6 : Same H5 _ := same_new (o := .lst [.bl bb, .bl bb]) hfl
    have w6 : upd H5 fl (.lst [.bl bb, .bl bb]) fl = some (.lst [.bl bb, .bl bb]) := upd_same
    generalize upd H5 fl (.lst [.bl bb, .bl bb]) = H6 at s6 w6 ⊢
    have s46 := sm5.trans s6
    have st6 := st4.same s46
    have ht6 := s46 _ _ ht4
    -- the same twice
    refine ⟨_, rfl, _, rfl, _, rfl, _, _, .tup (SqT.of ht6) (dp_strs _), .lst (SqL.of st6.hpr) st6.rows.lift, shaped_row _ fitQ, shaped_rows rs (fun r' hr' y hy => ((full_texts Dr.good (Dr.full r' hr')).2 y hy).1), ?_⟩
    rw [any_rows, ebb]
    refine ⟨one1, fun l1 hl1 => ?_⟩
    have s7 : Same H6 _ := same_new (o := .lst [.bl bb]) hl1
    refine ⟨l1, 2, _, rfl, rfl, upd_same, by decide, by decide, by show 1 * 2 ≤ sizeLine; decide, fun l2 hl2 => ?_⟩
    have s8 := s7.trans (same_new (o := .lst (List.replicate (2 : Int).toNat [V.bl bb]).flatten) hl2)
    have w8 : upd (upd H6 l1 (.lst [.bl bb])) l2 (.lst (List.replicate (2 : Int).toNat [V.bl bb]).flatten) l2 = some (.lst [.bl bb, .bl bb]) := upd_same
    generalize upd (upd H6 l1 (.lst [.bl bb])) l2 (.lst (List.replicate (2 : Int).toNat [V.bl bb]).flatten) = H8 at s8 w8 ⊢
    have st8 := st6.same s8
    have ht8 := s8 _ _ ht6
    refine ⟨_, _, _, 20, rfl, .lst (SqL.of (s8 _ _ w6)) (.cons (.bl bb) (.cons (.bl bb) .nil)), .lst (SqL.of w8) (.cons (.bl bb) (.cons (.bl bb) .nil)), small_two bb, by decide, _, rfl, iteF ?_⟩
    -- with one thing more
    refine ⟨_, rfl, one1, fun q2 hq2 => ?_⟩
    have s9 : Same H8 _ := same_new (o := .tup [.str (Str.ofString "zz")]) hq2
    refine cat_one (s9 _ _ ht8) upd_same (by rw [List.length_map]; omega) fun p9 H9 hp9 sm9 => ?_
    have s89 : Same H8 H9 := s9.trans sm9
    have st9 := st8.same s89
    have ht9 := s89 _ _ ht8
    obtain ⟨dx9, _, _, hx9, _⟩ := st9.cx.at_
    refine ⟨_, rfl, x, dx9, _, rfl, hx9, x, r, .ref p9, sg, rs, rfl, st9.cx, ok.n60, ok.nd, ok.good, .inr ⟨ask_zz2 ok.good hq eq hp9, fun H10 sm10 => ⟨_, rfl, _, rfl, iteF ?_⟩⟩⟩
    have st10 := st9.same sm10
    have ht10 := sm10 _ _ ht9
    have s410 : Same H4 H10 := (s46.trans s8).trans (s89.trans sm10)
    have hpf10 := s410 _ _ hpf4
    have rowf10 := rowf4.same s410
    -- without the last one
    have fin : ∀ {H' : Hp} {σ' : L2.St}, Same H10 H' → Sig a S ps pr x σ' → Sig a S ps pr x σ' ∧ H' pf = some (.lst (tf.map V.ref)) ∧ RowsAt H' tf (fulls sg) ∧ ∃ c2, c2 ≤ c + 6 * (i + 1) ∧ LSt K C S L ps pr x r sg ts rs H' c2 := fun {H' σ'} sm sig => ⟨sig, sm _ _ hpf10, rowf10.same sm, _, by omega, st10.same sm⟩
    refine ⟨_, rfl, 1, rfl, -1, rfl, t, _, rfl, SqT.of ht10, fun wh => ?_, fun nwh p11 hp11 => ?_⟩
    · have e0 : qs = [] := by
        have z := wh.2
        rw [sIx_last, ll] at z
        exact List.eq_nil_of_length_eq_zero (by omega)
      obtain ⟨dx10, _, _, hx10, _⟩ := st10.cx.at_
      refine ⟨_, rfl, x, dx10, _, rfl, hx10, x, r, .ref t, sg, rs, rfl, st10.cx, ok.n60, ok.nd, ok.good, .inl ⟨qs, given_tup hq ht10 hx10, fun H11 sm11 => ⟨_, rfl, _, rfl, ?_⟩⟩⟩
      cases (decide (qs.length = sg.length) && decide (asc sg (qs.map lit) ∈ rs)) with
      | false => exact iteF (fin sm11 ⟨_, _, _, _, _, _, _, _, rfl⟩)
      | true =>
        refine iteT ⟨_, rfl, Nat.zero_le _, fun e he => ⟨_, _, .tup (SqT.of ((same_new he) _ _ (sm11 _ _ ht10))) (dp_strs _), .tup (SqT.of upd_same) .nil, shaped_row _ fitQ, rfl, _, rfl, ?_⟩⟩
        subst e0
        exact iteF (fin (sm11.trans (same_new he)) ⟨_, _, _, _, _, _, _, _, rfl⟩)
    · have s11 : Same H10 _ := same_new (o := .tup (cutV ((qs.map lit).map V.str) none (some (-1)))) hp11
      have w11 : upd H10 p11 (.tup (cutV ((qs.map lit).map V.str) none (some (-1)))) p11 = some (.tup ((qs.dropLast.map lit).map V.str)) := by
        rw [upd_same, cut_last, List.map_dropLast, List.map_dropLast]
      generalize upd H10 p11 (.tup (cutV ((qs.map lit).map V.str) none (some (-1)))) = H11 at s11 w11 ⊢
      have st11 := st10.same s11
      obtain ⟨dx11, _, _, hx11, _⟩ := st11.cx.at_
      have pos : 0 < qs.length := by
        rcases Nat.eq_zero_or_pos qs.length with z | z
        · exact absurd ⟨rfl, by rw [sIx_last, ll, z]⟩ nwh
        · exact z
      have hq2 : Lits sg qs.dropLast := ⟨by rw [List.map_dropLast]; exact hq.nd.sublist (List.dropLast_sublist _), fun z hz => hq.sub z ((List.dropLast_sublist _).subset hz)⟩
      have eF : (decide (qs.dropLast.length = sg.length) && decide (asc sg (qs.dropLast.map lit) ∈ rs)) = false := by
        rw [decide_eq_false (by rw [List.length_dropLast]; omega), Bool.false_and]
      refine ⟨_, rfl, x, dx11, _, rfl, hx11, x, r, .ref p11, sg, rs, rfl, st11.cx, ok.n60, ok.nd, ok.good, .inl ⟨qs.dropLast, given_tup hq2 w11 hx11, fun H12 sm12 => ⟨_, rfl, _, rfl, ?_⟩⟩⟩
      rw [eF]
      exact iteF (fin (s11.trans sm12) ⟨_, _, _, _, _, _, _, _, rfl⟩)
  · rintro σ2 H2 ⟨sig2, _, _, c2, hc2, st2⟩
    rw [List.length_map, lf] at hc2
    exact k3 D a S L ps pr x r sg ts rs σ2 H2 c2 sig2 fx st2 (by omega) fun σ' H' c' hσ hS hc => k σ' H' c' hσ hS (by omega)
end
end K6
namespace K6
open PySem PySem.Spec PyProof.Rows L2 LamX NdefX EV
/-! ### the lists that were handed over are changed -/
def SigQ (a S ps pr G Pl x : Addr) (o8 : Option V) (σ : L2.St) : Prop := ∃ o2 o6 o10 o11 o12, σ = [some (.ref a), some (.ref S), o2, some (.ref ps), some (.ref pr), some (.ref G), o6, some (.ref Pl), o8, some (.ref x), o10, o11, o12]
def Far (S L ps pr q : Addr) : Prop := (q ≠ S ∧ q ≠ L) ∧ q ≠ ps ∧ q ≠ pr
/-- what was handed over as signs: a list or a tuple of them -/
def GSt (H : Hp) (G : Addr) (sg : List Str) : Prop := H G = some (.lst (sg.map V.str)) ∨ H G = some (.tup (sg.map V.str))
def QSt (Q : List Addr) (n : Nat) (H : Hp) : Prop := ∀ q ∈ Q, ∃ xs, H q = some (.lst xs) ∧ xs.length ≤ n
section
variable {K : PySem.W.Frag} {C : Addr} {H H' : Hp} {S L ps pr x r q G : Addr} {Q : List Addr} {sg : List Str} {ts : List Addr} {rs : List (List Str)} {c n : Nat} {xs : List V}
theorem LSt.put (o : LSt K C S L ps pr x r sg ts rs H c) (fx : Far S L ps pr q) (h : H q = some (.lst xs)) (ys : List V) : LSt K C S L ps pr x r sg ts rs (upd H q (.lst ys)) c := by
  obtain ⟨⟨n1, n2⟩, n3, n4⟩ := fx
  have k : Kept q q H (upd H q (.lst ys)) := fun b u e n1 _ => (upd_ne n1).trans e
  have two : Two H q q := ⟨⟨_, h⟩, ⟨_, h⟩⟩
  exact ⟨o.str.put n1 n2, (upd_ne n3.symm).trans o.hps, (upd_ne n4.symm).trans o.hpr, o.rows.kept two k, o.cx.kept two k⟩
theorem GSt.put (o : GSt H G sg) (ne : G ≠ q) {ys : List V} : GSt (upd H q (.lst ys)) G sg := o.imp (fun h => (upd_ne ne).trans h) fun h => (upd_ne ne).trans h
theorem GSt.same (o : GSt H G sg) (sm : Same H H') : GSt H' G sg := o.imp (sm _ _) (sm _ _)
theorem QSt.put (o : QSt Q n H) {ys : List V} (hy : ys.length ≤ n + 1) : QSt Q (n + 1) (upd H q (.lst ys)) := fun p hp => by
  by_cases e : p = q
  · exact ⟨ys, by rw [e, upd_same], hy⟩
  · obtain ⟨xs, h1, h2⟩ := o p hp
    exact ⟨xs, (upd_ne e).trans h1, by omega⟩
end
section
variable {P : Program} {w : World} {K : PySem.W.Frag} {mg : Str → Option Value} {base : Heap} {C : Addr}
variable {f : Addr} {cdv : Value} {A : Around} {outer : List Env} {s0 : Shared} {HH : Hp} {E : XK}
theorem lseg9 (T : LTx P w K mg base C) (gd : (XL P w K mg base f cdv A outer s0 HH E).A.guards = some []) (hr : Room 9 (XL P w K mg base f cdv A outer s0 HH E).A) :
    ∃ tt, PSs (XL P w K mg base f cdv A outer s0 HH E) (turn.drop 9) tt ∧ ∀ (D : Ends) (a S L ps pr x r : Addr) (sg : List Str) (ts : List Addr) (rs : List (List Str)) (σ : L2.St) (H : Hp) (c : Nat), Sig a S ps pr x σ → LFx S L ps pr sg rs → LSt K C S L ps pr x r sg ts rs H c → c ≤ 50000 →
      (∀ σ' H' c', SigT a S σ' → StreamAt H' S L c' → c' ≤ c + 500 → D.nx σ' H') → tt D σ H := by
  obtain ⟨tt3, p3, k3⟩ := lseg10 (f := f) (cdv := cdv) (A := A) (outer := outer) (s0 := s0) (HH := HH) (E := E) T gd hr
  have hr3 : Room 3 _ := hr.mono (by decide)
  refine ⟨_, pss_cons (ps_if (PW.pt (pw_or (pt_not (pt_val (pe_callHG T.right gd hr3 (by rfl) (pa_cons (pv 9) (pa_cons (pv 3) (pa_cons (pv 4) pa_nil)))))) (pw_or1 (pt_not (pt_val (pe_callHG T.right gd hr3 (by rfl) (pa_cons (pv 9) (pa_cons (pv 3) (pa_cons (pv 4) pa_nil))))))))) (pss_one ps_none) pss_nil) p3, ?_⟩
  rintro D a S L ps pr x r sg ts rs σ H c ⟨o2, o5, o6, o7, o8, o10, o11, o12, rfl⟩ fx st hc k
  exact ⟨_, rfl, _, rfl, _, rfl, x, r, ps, pr, sg, ts, rs, rfl, st.cx, st.hps, st.hpr, st.rows, fx.D, fun H1 sm1 => ⟨_, rfl, iteF ⟨_, rfl, _, rfl, _, rfl, x, r, ps, pr, sg, ts, rs, rfl, (st.same sm1).cx, (st.same sm1).hps, (st.same sm1).hpr, (st.same sm1).rows, fx.D, fun H2 sm2 => ⟨_, rfl, iteF (k3 D a S L ps pr x r sg ts rs _ H2 c ⟨_, _, _, _, _, _, _, _, rfl⟩ fx ((st.same sm1).same sm2) hc k)⟩⟩⟩⟩
theorem lseg6 (T : LTx P w K mg base C) (gd : (XL P w K mg base f cdv A outer s0 HH E).A.guards = some []) (hr : Room 9 (XL P w K mg base f cdv A outer s0 HH E).A) :
    ∃ tt, PSs (XL P w K mg base f cdv A outer s0 HH E) (turn.drop 6) tt ∧ ∀ (D : Ends) (a S L ps pr x r G Pl : Addr) (cs : List Addr) (sg : List Str) (ts : List Addr) (rs : List (List Str)) (o8 : Option V) (σ : L2.St) (H : Hp) (c : Nat), SigQ a S ps pr G Pl x o8 σ → LFx S L ps pr sg rs → LSt K C S L ps pr x r sg ts rs H c →
      Far S L ps pr G → Far S L ps pr Pl → (∀ q ∈ cs, Far S L ps pr q ∧ G ≠ q ∧ Pl ≠ q) → G ≠ Pl → GSt H G sg → H Pl = some (.lst (cs.map V.ref)) → QSt cs 20 H → cs.length ≤ 70 → c ≤ 50000 →
      (∀ σ' H' c', SigT a S σ' → StreamAt H' S L c' → c' ≤ c + 500 → D.nx σ' H') → tt D σ H := by
  obtain ⟨tt2, p2, k2⟩ := lseg9 (f := f) (cdv := cdv) (A := A) (outer := outer) (s0 := s0) (HH := HH) (E := E) T gd hr
  refine ⟨_, pss_cons (ps_for PassesOwn.never rfl (pi_list (pv 7)) (pg_name (i := 6) scLaw.nd rfl (.inl rfl))
        (pss_one (ps_expr (pe_bm PySem.F.plainAttrs_list PySem.F.slot_list_append PySem.F.type_list_append mt_append (pv 6) (pa_cons pe_str pa_nil)))))
      (pss_cons (ps_expr (pe_bm PySem.F.plainAttrs_list PySem.F.slot_list_append PySem.F.type_list_append mt_append (pv 7) (pa_cons pe_int pa_nil)))
      (pss_cons (ps_if (pt_val (pe_callB call_isi (by rfl) T.isi (by decide +kernel) (pa_cons (pv 5) (pa_cons (pe_bltn (v := .ty "list") (by rfl) T.U.T.list (by decide +kernel) rfl) pa_nil)))) (pss_one (ps_expr (pe_bm PySem.F.plainAttrs_list PySem.F.slot_list_append PySem.F.type_list_append mt_append (pv 5) (pa_cons pe_str pa_nil)))) pss_nil) p2)), ?_⟩
  rintro D a S L ps pr x r G Pl cs sg ts rs o8 σ H c ⟨o2, o6, o10, o11, o12, rfl⟩ fx st farG farP farC nGP hG hPl qs hcs hc k
  have l6 := fx.D.n6
  refine ⟨_, rfl, Pl, rfl, ⟨_, SqL.of hPl⟩, for_list (K := K) (a := Pl) (xs := cs.map V.ref) (fun i σ H2 => SigQ a S ps pr G Pl x o8 σ ∧ LSt K C S L ps pr x r sg ts rs H2 c ∧ QSt cs (20 + i) H2 ∧ H2 Pl = some (.lst (cs.map V.ref)) ∧ GSt H2 G sg) ⟨⟨_, _, _, _, _, rfl⟩, st, qs, hPl, hG⟩ (fun i σ H2 _ hh => SqL.of hh.2.2.2.1) ?_ ?_⟩
  · rintro i v σ2 H2 hv ⟨⟨o2, o6, o10, o11, o12, rfl⟩, st2, qs2, hP2, hG2⟩
    obtain ⟨q, hq, rfl⟩ := get_map hv
    have hqm : q ∈ cs := List.mem_of_getElem? hq
    have ilt : i < cs.length := (List.getElem?_eq_some_iff.mp hq).1
    obtain ⟨xs, hx, lx⟩ := qs2 q hqm
    obtain ⟨fq, nGq, nPq⟩ := farC q hqm
    exact ⟨_, rfl, .inl ⟨rfl, _, SqL.of hx⟩, q, _, _, rfl, rfl, hx, by rw [sizeLine_eq]; omega, ⟨_, _, _, _, _, rfl⟩, st2.put fq hx _, qs2.put (by rw [List.length_append, List.length_singleton]; omega), (upd_ne nPq).trans hP2, hG2.put nGq⟩
  · rintro σ2 H2 ⟨⟨o2, o6, o10, o11, o12, rfl⟩, st2, qs2, hP2, hG2⟩
    refine ⟨_, rfl, .inl ⟨rfl, _, SqL.of hP2⟩, Pl, _, _, rfl, rfl, hP2, by rw [List.length_map, sizeLine_eq]; omega, ?_⟩
    have st3 := st2.put farP hP2 (cs.map V.ref ++ [.int 5])
    have hG3 := hG2.put (ys := cs.map V.ref ++ [.int 5]) nGP
    generalize upd H2 Pl (.lst (cs.map V.ref ++ [.int 5])) = H3 at st3 hG3 ⊢
    rcases hG3 with hG3 | hG3
    · refine ⟨_, rfl, .ref G, _, _, _, true, rfl, .ty "list", .base (.lst hG3), kit_ty (by decide +kernel), _, rfl, iteT ⟨_, rfl, .inl ⟨rfl, _, SqL.of hG3⟩, G, _, _, rfl, rfl, hG3, by rw [List.length_map, sizeLine_eq]; omega, ?_⟩⟩
      exact k2 D a S L ps pr x r sg ts rs _ _ c ⟨_, _, _, _, _, _, _, _, rfl⟩ fx (st3.put farG hG3 _) hc k
    · refine ⟨_, rfl, .ref G, _, _, _, false, rfl, .ty "list", .base (.tup hG3), kit_ty (by decide +kernel), _, rfl, iteF ?_⟩
      exact k2 D a S L ps pr x r sg ts rs _ _ c ⟨_, _, _, _, _, _, _, _, rfl⟩ fx st3 hc k
end
end K6
namespace K6
open PySem PySem.Spec PyProof.Rows L2 LamX NdefX EV
/-- lists that hold full settings, one for each row, in drawn orders -/
def Mixes2 (H : Hp) (ns : List Str) (rs : List (List Str)) (S L : Addr) (H0 : Hp) (cs : List Addr) (qss : List (List (Bool × Str))) : Prop :=
  Paired (fun a qs => H a = some (.lst ((qs.map lit).map V.str)) ∧ (a ≠ S ∧ a ≠ L) ∧ H0 a = none) cs qss ∧ (∀ qs ∈ qss, Lits ns qs ∧ qs.length = ns.length) ∧ qss.map (fun qs => asc ns (qs.map lit)) = rs
theorem mixed_lc2 {K : PySem.W.Frag} {S L p : Addr} {ts : List Addr} {rs : List (List Str)} {ns : List Str} {c1 : Nat} {H1 : Hp} {Qd : Addr → Hp → Prop} {o0 o2 o3 o4 o5 o6 o7 o8 o9 o10 o11 o12 : Option V} (hS : StreamAt H1 S L c1) (hp : H1 p = some (.lst (ts.map V.ref))) (np : p ≠ S ∧ p ≠ L) (hr : RowsAt H1 ts rs) (nd : ns.Nodup) (good : ∀ z ∈ ns, Name1 z) (n6 : ns.length ≤ 6) (rows : ∀ r ∈ rs, r ∈ fulls ns) (few : rs.length ≤ 100) (hc : c1 ≤ 60000)
    (k : ∀ (Dl : Addr) (cs : List Addr) (qss : List (List (Bool × Str))) (c' : Nat) (H' : Hp), H1 Dl = none → Mixes2 H' ns rs S L (upd H1 Dl (.lst [])) cs qss → H' Dl = some (.lst (cs.map V.ref)) → StreamAt H' S L c' → c' ≤ c1 + 6 * rs.length → Kept S L H1 H' → Qd Dl H') :
    ∀ Dl, H1 Dl = none → ∃ W : Nat → Nat → Hp → Prop, (∃ m, W 0 m (upd H1 Dl (.lst []))) ∧ ∀ i m H, W i m H →
      ((Itl K p).stop i H ∧ Qd Dl H) ∨ ((Itl K p).go i H ∧ ∃ Nx : Hp → Prop, (∀ H', Nx H' → ∃ m', m' < m ∧ W (i + 1) m' H') ∧ ∀ x H', (Itl K p).yld i H x H' → gName 6 x (wipe [o0, some (.ref S), o2, o3, o4, o5, o6, o7, o8, o9, o10, o11, o12] [6]) H' fun σ2 H2 => wipe σ2 [6] = wipe [o0, some (.ref S), o2, o3, o4, o5, o6, o7, o8, o9, o10, o11, o12] [6] ∧ tYes σ2 H2 fun b H3 =>
        if b = true then tCall (spMixed K) [] E0 (tCons (tVar 1) (tCons (tVar 6) tNil)) σ2 H3 fun y H4 => ∃ acc, H4 Dl = some (.lst acc) ∧ acc.length < sizeLine ∧ Nx (upd H4 Dl (.lst (acc ++ [y]))) else Nx H3) := by
  intro Dl hD
  have off := hS.off hD
  have npD : p ≠ Dl := ne_of_none hp hD
  have lts : ts.length = rs.length := Paired.length hr
  have z := lc_it (J := Itl K p) (g := gName 6) (tt := tYes) (te := tCall (spMixed K) [] E0 (tCons (tVar 1) (tCons (tVar 6) tNil))) (vs := [6]) (σ := [o0, some (.ref S), o2, o3, o4, o5, o6, o7, o8, o9, o10, o11, o12]) (H1 := H1) (D := Dl) (Qd := Qd Dl) (walk_list (K := K) (a := p) (xs := ts.map V.ref))
    (fun i H2 => ∃ cs qss c5, Mixes2 H2 ns (rs.take i) S L (upd H1 Dl (.lst [])) cs qss ∧ H2 Dl = some (.lst (cs.map V.ref)) ∧ StreamAt H2 S L c5 ∧ c5 ≤ c1 + 6 * i ∧ Kept S L H1 H2) ?_ ?_ ?_ ?_
  · exact z
  · exact ⟨[], [], c1, ⟨.nil, (fun _ h => nomatch h), rfl⟩, upd_same, hS.new hD, by omega, (Kept.refl H1).new hD⟩
  · rintro i H2 hi ⟨cs, qss, c5, _, _, _, _, hk⟩
    exact SqL.of (hk _ _ hp np.1 np.2)
  · rintro i v H2 H3 hi ⟨cs, qss, c5, ⟨m1, m2, m3⟩, hD2, hS2, hc5, hk2⟩ ⟨rfl, hv⟩
    obtain ⟨t, ht, rfl⟩ := get_map hv
    obtain ⟨r, hr', hrt⟩ := RowsAt.get hr i t ht
    have ilt : i < rs.length := (List.getElem?_eq_some_iff.mp hr').1
    have rf := rows r (List.mem_of_getElem? hr')
    have eA := asc_fulls nd good rf
    obtain ⟨qs, hq, lq, rfl⟩ := full_of nd rf
    obtain ⟨⟨_, e1⟩, ⟨_, e2⟩⟩ := hS.two
    have ht3 := hk2 _ _ hrt (ne_of hrt e1 fun z => nomatch z) (ne_of hrt e2 fun z => nomatch z)
    have ll : ((qs.map lit).map V.str).length = qs.length := by rw [List.length_map, List.length_map]
    have lcs : cs.length = i := by
      have y := Paired.length m1
      have y2 := congrArg List.length m3
      rw [List.length_map, List.length_take] at y2
      omega
    refine ⟨rfl, _, rfl, _, rfl, S, L, t, false, (qs.map lit).map V.str, c5, rfl, Sq.tup ht3, by rw [ll]; omega, by rw [ll]; omega, hS2, fun ys a H4 pm ha0 ha4 hS4 hk4 => ?_⟩
    obtain ⟨ms, rfl, pm2⟩ := unmap_str ys (qs.map lit) pm
    obtain ⟨qs', pq, rfl⟩ := perm_unmap pm2 qs rfl
    have hD4 := hk4 _ _ hD2 off.1 off.2
    have naD : a ≠ Dl := (ne_of_none hD2 ha0).symm
    have offa := hS2.off ha0
    have ha1 : upd H1 Dl (.lst []) a = none := (upd_ne naD).trans (hk2.none ha0 offa.1 offa.2)
    refine ⟨_, hD4, by rw [List.length_map, lcs, sizeLine_eq]; omega, cs ++ [a], qss ++ [qs'], _, ⟨Paired.snoc (Paired.mapP m1 fun b q y => ⟨(upd_ne fun e => ?_).trans (hk4 _ _ y.1 y.2.1.1 y.2.1.2), y.2⟩) ⟨(upd_ne naD).trans ha4, offa, ha1⟩, fun q hq' => ?_, ?_⟩, ?_, hS4.put off.1 off.2, by rw [ll]; omega, kept_upd (hk2.trans hk4) hD⟩
    · have y2 := y.2.2
      rw [e, upd_same] at y2
      cases y2
    · rcases List.mem_append.mp hq' with q1 | q1
      · exact m2 q q1
      · rw [List.mem_singleton.mp q1]
        exact ⟨hq.perm pq, pq.length_eq.trans lq⟩
    · rw [List.map_append, m3, List.take_succ, hr']
      show rs.take i ++ [asc ns (qs'.map lit)] = rs.take i ++ [qs.map lit]
      rw [asc_perm pq, eA]
    · rw [upd_same, List.map_append]
      rfl
  · rintro H2 ⟨cs, qss, c5, m, hD2, hS2, hc5, hk2⟩
    rw [List.length_map, lts] at m hc5
    rw [List.take_length] at m
    exact k Dl cs qss c5 H2 hD m hD2 hS2 hc5 hk2
theorem mixes2_far {H1 H' : Hp} {ns : List Str} {rs : List (List Str)} {S L Dl : Addr} {cs : List Addr} {qss : List (List (Bool × Str))} (m : Mixes2 H' ns rs S L (upd H1 Dl (.lst [])) cs qss) (hD : H1 Dl = none) : ∀ a ∈ cs, (a ≠ S ∧ a ≠ L) ∧ Dl ≠ a ∧ ∀ p o, H1 p = some o → p ≠ a := fun a ha => by
  obtain ⟨i, hi⟩ := List.getElem?_of_mem ha
  obtain ⟨qs, _, _, off, z⟩ := paired_get m.1 i a hi
  refine ⟨off, fun e => ?_, fun p o h e => ?_⟩
  · rw [← e, upd_same] at z
    cases z
  · have y := same_new (o := .lst []) hD p o h
    rw [← e, y] at z
    cases z
theorem mixes2_len {H H0 : Hp} {ns : List Str} {rs : List (List Str)} {S L : Addr} {cs : List Addr} {qss : List (List (Bool × Str))} (m : Mixes2 H ns rs S L H0 cs qss) : qss.length = rs.length ∧ cs.length = rs.length := by
  have z := congrArg List.length m.2.2
  rw [List.length_map] at z
  exact ⟨z, (Paired.length m.1).trans z⟩
/-! ### what is handed over -/
def ListsAt (H : Hp) : List Addr → List (List (Bool × Str)) → Prop := Paired (fun a qs => H a = some (.lst ((qs.map lit).map V.str)))
theorem ListsAt.same {H H' : Hp} {cs : List Addr} {qss : List (List (Bool × Str))} (h : ListsAt H cs qss) (sm : Same H H') : ListsAt H' cs qss := Paired.mapP h fun _ _ z => sm _ _ z
theorem ListsAt.kept {H H' : Hp} {S L : Addr} : ∀ {cs : List Addr} {qss : List (List (Bool × Str))}, ListsAt H cs qss → (∀ q ∈ cs, q ≠ S ∧ q ≠ L) → Kept S L H H' → ListsAt H' cs qss
  | [], [], .nil, _, _ => .nil
  | _ :: _, _ :: _, .cons z t, off, k => .cons (k _ _ z (off _ List.mem_cons_self).1 (off _ List.mem_cons_self).2) (ListsAt.kept t (fun q hq => off q (List.mem_cons_of_mem _ hq)) k)
theorem ListsAt.dps {K : PySem.W.Frag} {H : Hp} : ∀ {cs : List Addr} {qss : List (List (Bool × Str))}, ListsAt H cs qss → DpAll K H (cs.map V.ref) (qss.map fun qs => PyData.list ((qs.map lit).map PyData.str))
  | [], [], .nil => .nil
  | _ :: _, _ :: _, .cons z t => .cons (.lst (SqL.of z) (dp_strs _)) (ListsAt.dps t)
theorem ListsAt.handed {K : PySem.W.Frag} {H : Hp} {ns : List Str} : ∀ {cs : List Addr} {qss : List (List (Bool × Str))}, ListsAt H cs qss → (∀ qs ∈ qss, Lits ns qs ∧ qs.length = ns.length) → Paired (Handed K H ns) (cs.map V.ref) qss
  | [], [], .nil, _ => .nil
  | _ :: _, _ :: _, .cons z t, h => .cons ⟨(h _ List.mem_cons_self).1, true, _, rfl, SqL.of z⟩ (ListsAt.handed t fun qs hq => h qs (List.mem_cons_of_mem _ hq))
/-- what shows of what is handed over: b, are the signs a list -/
def dataP (b : Bool) (sg : List Str) (qss : List (List (Bool × Str))) : PyData := .list [if b = true then .list (sg.map PyData.str) else .tuple (sg.map PyData.str), .list (qss.map fun qs => PyData.list ((qs.map lit).map PyData.str))]
def GAt (H : Hp) (b : Bool) (G : Addr) (sg : List Str) : Prop := H G = some (if b = true then .lst (sg.map V.str) else .tup (sg.map V.str))
theorem GAt.dp {K : PySem.W.Frag} {H : Hp} {b : Bool} {G : Addr} {sg : List Str} (h : GAt H b G sg) : Dp K H (.ref G) (if b = true then .list (sg.map PyData.str) else .tuple (sg.map PyData.str)) := by
  cases b
  · exact .tup (SqT.of h) (dp_strs sg)
  · exact .lst (SqL.of h) (dp_strs sg)
theorem GAt.sq {K : PySem.W.Frag} {H : Hp} {b : Bool} {G : Addr} {sg : List Str} (h : GAt H b G sg) : Sq K b H G (sg.map V.str) := by
  cases b
  · exact Sq.tup h
  · exact Sq.lst h
theorem GAt.st {H : Hp} {b : Bool} {G : Addr} {sg : List Str} (h : GAt H b G sg) : GSt H G sg := by
  cases b
  · exact .inr h
  · exact .inl h
theorem small_lists {n m : Nat} : ∀ rs : List (List Str), (∀ r ∈ rs, r.length ≤ m ∧ ∀ z ∈ r, Fit z ∧ z.length ≤ n) → SmallAll (rs.map fun r => PyData.list (r.map PyData.str)) (((n + 1) * m + 1) * rs.length) 3
  | [], _ => SmallAll.nil
  | r :: rs, h => by
    obtain ⟨h1, h2⟩ := h r List.mem_cons_self
    obtain ⟨a1, a2, a3, a4⟩ := small_list (small_strs r h2)
    have z := SmallAll.cons a1 a2 a3 a4 (small_lists rs fun z hz => h z (List.mem_cons_of_mem _ hz))
    refine ⟨z.ls, ?_, z.sh, z.dp⟩
    have b := z.bk
    have c : (n + 1) * r.length ≤ (n + 1) * m := Nat.mul_le_mul_left _ h1
    rw [List.length_cons, Nat.mul_succ]
    show PyData.bulkAll (.list (r.map PyData.str) :: rs.map fun r => PyData.list (r.map PyData.str)) ≤ _
    omega
theorem dataP_small {b : Bool} {sg : List Str} {rs : List (List Str)} {qss : List (List (Bool × Str))} (D : Draw2 sg rs) (lits : ∀ qs ∈ qss, Lits sg qs ∧ qs.length = sg.length) (l66 : qss.length ≤ 66) : Small (dataP b sg qss) 6000 := by
  have l6 := D.n6
  have a : (if b = true then PyData.list (sg.map PyData.str) else .tuple (sg.map PyData.str)).leavesShort 40 = true ∧ (if b = true then PyData.list (sg.map PyData.str) else .tuple (sg.map PyData.str)).bulk ≤ 70 ∧ (if b = true then PyData.list (sg.map PyData.str) else .tuple (sg.map PyData.str)).showable = true ∧ (if b = true then PyData.list (sg.map PyData.str) else .tuple (sg.map PyData.str)).depth ≤ 3 := by
    cases b
    · exact small_tup (small_names (by omega) D.good)
    · exact small_list (small_names (by omega) D.good)
  obtain ⟨a1, a2, a3, a4⟩ := a
  have rows := small_lists (n := 9) (m := 7) (qss.map fun qs => qs.map lit) fun r hr => by
    obtain ⟨qs, hq, rfl⟩ := List.mem_map.mp hr
    obtain ⟨L, lq⟩ := lits qs hq
    have z := full_texts D.good ⟨qs, L, lq, rfl⟩
    exact ⟨by rw [z.1]; omega, z.2⟩
  rw [List.map_map, List.length_map] at rows
  obtain ⟨c1, c2, c3, c4⟩ := small_list rows
  have bk : ((9 + 1) * 7 + 1) * qss.length ≤ 4700 := by omega
  have all := SmallAll.cons (m := 9) a1 a2 a3 (by omega) (.cons (m := 9) c1 (Nat.le_trans c2 bk) c3 (by omega) SmallAll.nil)
  obtain ⟨e1, e2, e3, e4⟩ := small_list all
  have e4' : (dataP b sg qss).depth ≤ 9 + 1 := e4
  exact ⟨e1, Nat.le_trans e2 (by decide), e3, by omega⟩
end K6
namespace K6
open PySem PySem.Spec PyProof.Rows L2 LamX NdefX EV
theorem handed_tups {K : PySem.W.Frag} {H : Hp} {ns : List Str} : ∀ {us : List Addr} {qss : List (List (Bool × Str))}, RowsAt H us (qss.map fun qs => qs.map lit) → (∀ qs ∈ qss, Lits ns qs ∧ qs.length = ns.length) → Paired (Handed K H ns) (us.map V.ref) qss
  | [], [], _, _ => .nil
  | _ :: _, _ :: _, .cons z t, h => .cons ⟨(h _ List.mem_cons_self).1, false, _, rfl, Sq.tup z⟩ (handed_tups t fun qs hq => h qs (List.mem_cons_of_mem _ hq))
section
variable {P : Program} {w : World} {K : PySem.W.Frag} {mg : Str → Option Value} {base : Heap} {C : Addr}
variable {f : Addr} {cdv : Value} {A : Around} {outer : List Env} {s0 : Shared} {HH : Hp} {E : XK}
theorem lseg5 (T : LTx P w K mg base C) (gd : (XL P w K mg base f cdv A outer s0 HH E).A.guards = some []) (hr : Room 9 (XL P w K mg base f cdv A outer s0 HH E).A) :
    ∃ tt, PSs (XL P w K mg base f cdv A outer s0 HH E) (turn.drop 5) tt ∧ ∀ (D : Ends) (a S L ps pr x r G Pl : Addr) (b : Bool) (cs : List Addr) (qss : List (List (Bool × Str))) (sg : List Str) (ts : List Addr) (rs : List (List Str)) (σ : L2.St) (H : Hp) (c : Nat), SigQ a S ps pr G Pl x (some (.str (dataP b sg qss).shown)) σ → LFx S L ps pr sg rs → LSt K C S L ps pr x r sg ts rs H c →
      Far S L ps pr G → Far S L ps pr Pl → (∀ q ∈ cs, Far S L ps pr q ∧ G ≠ q ∧ Pl ≠ q) → G ≠ Pl → GAt H b G sg → H Pl = some (.lst (cs.map V.ref)) → ListsAt H cs qss → (∀ qs ∈ qss, Lits sg qs ∧ qs.length = sg.length) → qss.length ≤ 66 → c ≤ 50000 →
      (∀ σ' H' c', SigT a S σ' → StreamAt H' S L c' → c' ≤ c + 500 → D.nx σ' H') → tt D σ H := by
  obtain ⟨tt2, p2, k2⟩ := lseg6 (f := f) (cdv := cdv) (A := A) (outer := outer) (s0 := s0) (HH := HH) (E := E) T gd hr
  refine ⟨_, pss_cons (ps_if (pt_cmpR op_ne (pe_callB (call_reprP gd hr.units) (by rfl) T.repr (by decide +kernel) (pa_cons (pe_lst (pa_cons (pv 5) (pa_cons (pv 7) pa_nil))) pa_nil)) (pv 8) (nomark _)) (pss_one ps_none) pss_nil) p2, ?_⟩
  rintro D a S L ps pr x r G Pl b cs qss sg ts rs σ H c ⟨o2, o6, o10, o11, o12, rfl⟩ fx st farG farP farC nGP hG hPl hL lits l66 hc k
  have small := dataP_small (b := b) fx.D lits l66
  have lcs : cs.length = qss.length := Paired.length hL
  have l6 := fx.D.n6
  refine ⟨_, rfl, _, rfl, by show 2 ≤ sizeLine; decide, fun M hM => ?_⟩
  have s1 : Same H _ := same_new (o := .lst [.ref G, .ref Pl]) hM
  have hM1 := upd_same (H := H) (a := M) (o := .lst [.ref G, .ref Pl])
  generalize upd H M (.lst [.ref G, .ref Pl]) = H1 at s1 hM1 ⊢
  have hG1 : GAt H1 b G sg := s1 _ _ hG
  refine ⟨.ref M, dataP b sg qss, rfl, .lst (SqL.of hM1) (.cons hG1.dp (.cons (.lst (SqL.of (s1 _ _ hPl)) (hL.same s1).dps) .nil)), small.sh, small.fits (by decide), Nat.le_trans small.dp (by decide), _, rfl, rfl, _, rfl, ?_⟩
  have e : (!decide (V.str (dataP b sg qss).shown = V.str (dataP b sg qss).shown)) = false := by rw [decide_eq_true rfl]; rfl
  rw [e]
  refine iteF (k2 D a S L ps pr x r G Pl cs sg ts rs _ _ H1 c ⟨_, _, _, _, _, rfl⟩ fx (st.same s1) farG farP farC nGP hG1.st (s1 _ _ hPl) (fun q hq => ?_) (by omega) hc k)
  obtain ⟨i, hi⟩ := List.getElem?_of_mem hq
  obtain ⟨qs, hqs, z⟩ := paired_get (hL.same s1) i q hi
  have lq := (lits qs (List.mem_of_getElem? hqs)).2
  exact ⟨_, z, by rw [List.length_map, List.length_map]; omega⟩
theorem lseg0 (T : LTx P w K mg base C) (gd : (XL P w K mg base f cdv A outer s0 HH E).A.guards = some []) (hr : Room 9 (XL P w K mg base f cdv A outer s0 HH E).A) :
    ∃ tt, PSs (XL P w K mg base f cdv A outer s0 HH E) turn tt ∧ ∀ (D : Ends) (a S L : Addr) (i : Nat) (o3 o4 o5 o6 o7 o8 o9 o10 o11 o12 : Option V) (H : Hp) (c : Nat), StreamAt H S L c → c ≤ 40000 →
      (∀ σ' H' c', SigT a S σ' → StreamAt H' S L c' → c' ≤ c + 1300 → D.nx σ' H') → tt D [some (.ref a), some (.ref S), some (.int (i : Int)), o3, o4, o5, o6, o7, o8, o9, o10, o11, o12] H := by
  obtain ⟨fI, fdI, M, GI, bI⟩ := T.U.make
  obtain ⟨tt5, p5, k5⟩ := lseg5 (f := f) (cdv := cdv) (A := A) (outer := outer) (s0 := s0) (HH := HH) (E := E) T gd hr
  have hr6 : Room 6 _ := hr.mono (by decide)
  have hr5 : Room 5 _ := hr.mono (by decide)
  have hr2 : Room 2 _ := hr.mono (by decide)
  have hr1 : Room 1 _ := hr.mono (by decide)
  refine ⟨_, pss_cons (ps_asg (pe_callH T.drawn hr5 (by rfl) (pa_cons (pv 1) (pa_cons (pe_ifExp (pt_cmpR op_eq (pv 2) pe_int (nomark _)) pe_int pe_int) pa_nil))) (pg_tup rfl (pgs_cons (pg_name (i := 3) scLaw.nd rfl (.inl rfl)) (pgs_cons (pg_name (i := 4) scLaw.nd rfl (.inl rfl)) pgs_nil))))
    (pss_cons (ps_set (i := 5) scLaw.nd rfl (.inl rfl) (pe_ifExp (pt_cmpR op_eq (pe_callH T.draw hr1 (by rfl) (pa_cons (pv 1) (pa_cons pe_int pa_nil))) pe_int (nomark _)) (pe_callTy call_list_of (by rfl) T.U.T.list (by decide +kernel) (pa_cons (pv 3) pa_nil)) (pe_tupleOf (by rfl) T.U.T.tuple (pv 3))))
    (pss_cons (ps_setLc (i := 7) (own := [("_law_one", 6)]) (g := gName 6) (tt := tYes) (by rfl) scLaw.nd rfl rfl (sw_true rfl rfl rfl (by decide +kernel)) (pi_list (pe_callH T.mixed hr2 (by rfl) (pa_cons (pv 1) (pa_cons (pe_op op_cat (pv 4) (pe_slice sl_list (pv 4) po_none (po_some pe_int))) pa_nil)))) (blkOk_by (N := nLaw) (sc := defScope sLaw) (by decide +kernel))
        (fun _ _ _ _ _ => pg_name (i := 6) scLaw.nd rfl (.inl rfl)) (fun _ _ _ _ _ => pts_nil) (fun _ _ _ _ _ => pe_callH T.mixed hr2 (by rfl) (pa_cons (pv 1) (pa_cons (pv 6) pa_nil))))
    (pss_cons (ps_set (i := 8) scLaw.nd rfl (.inl rfl) (pe_callB (call_reprP gd hr.units) (by rfl) T.repr (by decide +kernel) (pa_cons (pe_lst (pa_cons (pv 5) (pa_cons (pv 7) pa_nil))) pa_nil)))
    (pss_cons (ps_set (i := 9) scLaw.nd rfl (.inr rfl) (pe_make M GI hr6 (by rfl) T.U.T.mgC bI .nil pass0 (pa_cons (pv 5) (pa_cons (pe_ifExp (pt_cmpR op_eq (pe_callH T.draw hr1 (by rfl) (pa_cons (pv 1) (pa_cons pe_int pa_nil))) pe_int (nomark _)) (pv 7)
        (pe_tupleOf (by rfl) T.U.T.tuple (pe_lc (own := [("_law_one", 6)]) (g := gName 6) (tt := tYes) rfl scLaw.nd (pi_list (pv 7)) (blkOk_by (N := nLaw) (sc := defScope sLaw) (by decide +kernel))
          (fun _ _ _ _ _ => pg_name (i := 6) scLaw.nd rfl (.inl rfl)) (fun _ _ _ _ _ => pts_nil) (fun _ _ _ _ _ => show PE _ _ (tThen _ (kTup K)) from pe_tupleOf (by rfl) T.U.T.tuple (pv 6))))) pa_nil)))) p5)))), ?_⟩
  intro D a S L i o3 o4 o5 o6 o7 o8 o9 o10 o11 o12 H c hS hc k
  refine ⟨_, rfl, _, rfl, rfl, _, rfl, ?_⟩
  refine two_ways (fun v H' => ∃ m : Nat, m ≤ 6 ∧ v = .int (m : Int) ∧ H' = H) (fun _ Q' kQ => kQ _ _ ⟨6, by decide, rfl, rfl⟩) (fun _ Q' kQ => kQ _ _ ⟨4, by decide, rfl, rfl⟩) ?_
  rintro v H' ⟨m, m6, rfl, rfl⟩
  refine ⟨S, L, m, c, rfl, m6, by omega, hS, fun p ps pr sg ts rs c1 H1 Dr _ hp0 hps0 hpr0 hp1 hps1 hpr1 rows1 hc1 hS1 hk1 => ⟨p, _, rfl, SqT.of hp1, rfl, _, _, rfl, _, _, rfl, rfl, ?_⟩⟩
  have l6 := Dr.n6
  have l64 := Dr.few
  have fx : LFx S L ps pr sg rs := ⟨hS.off hps0, hS.off hpr0, Dr⟩
  have lts : ts.length = rs.length := Paired.length rows1
  have one1 : 1 ≤ sizeLine := by decide
  -- the signs as a list or a tuple
  refine ⟨_, rfl, S, L, 2, c1, rfl, by decide, by decide, by omega, hS1, fun r1 H2 _ _ hS2 hk2 => ⟨rfl, _, rfl, ?_⟩⟩
  have hps2 := lst_kept hps1 hk2 fx.nps
  have hpr2 := lst_kept hpr1 hk2 fx.npr
  have rows2 := RowsAt.kept rows1 hS1.two hk2
  refine two_ways (fun v H3 => ∃ G b, v = .ref G ∧ H2 G = none ∧ Same H2 H3 ∧ GAt H3 b G sg) (fun _ Q' kQ => ?_) (fun _ Q' kQ => ?_) ?_
  · exact ⟨_, rfl, ps, _, rfl, .inl (SqL.of hps2), fun G hG => kQ _ _ ⟨G, true, rfl, hG, same_new hG, upd_same⟩⟩
  · exact ⟨_, rfl, .inl ⟨ps, _, rfl, SqL.of hps2, fun G hG => kQ _ _ ⟨G, false, rfl, hG, same_new hG, upd_same⟩⟩⟩
  rintro v H3 ⟨G, b, rfl, hG0, sm3, hG3⟩
  have hS3 := hS2.same sm3
  have hps3 := sm3 _ _ hps2
  have hpr3 := sm3 _ _ hpr2
  have rows3 := rows2.same sm3
  have farG : Far S L ps pr G := ⟨hS2.off hG0, (ne_of_none hps2 hG0).symm, (ne_of_none hpr2 hG0).symm⟩
  -- the settings, some twice, in a drawn order
  refine ⟨_, rfl, _, rfl, _, rfl, _, rfl, pr, _, rfl, SqL.of hpr3, fun e he => ?_⟩
  have cut : cutV (ts.map V.ref) none (some 2) = (ts.take 2).map V.ref := by
    rw [show (2 : Int) = ((2 : Nat) : Int) from rfl, cutV_take, List.map_take]
  rw [cut]
  have e1 : Same H3 _ := same_new (o := .lst ((ts.take 2).map V.ref)) he
  refine ⟨pr, e, _, _, rfl, rfl, e1 _ _ hpr3, upd_same, by rw [List.length_map, List.length_map, List.length_take, sizeLine_eq]; omega, fun a4 ha4 => ?_⟩
  rw [← List.map_append]
  have s4 : Same H3 _ := e1.trans (same_new (o := .lst ((ts ++ ts.take 2).map V.ref)) ha4)
  have w4 : upd (upd H3 e (.lst ((ts.take 2).map V.ref))) a4 (.lst ((ts ++ ts.take 2).map V.ref)) a4 = some (.lst ((ts ++ ts.take 2).map V.ref)) := upd_same
  generalize upd (upd H3 e (.lst ((ts.take 2).map V.ref))) a4 (.lst ((ts ++ ts.take 2).map V.ref)) = H4 at s4 w4 ⊢
  have take2 : ∀ {xs : List Addr} {ys : List (List Str)} (n : Nat), RowsAt H4 xs ys → RowsAt H4 (xs.take n) (ys.take n) := by
    intro xs ys n h
    induction h generalizing n with
    | nil => rw [List.take_nil, List.take_nil]; exact .nil
    | cons r t ih =>
      cases n with
      | zero => exact .nil
      | succ n => exact .cons r (ih n)
  have rows4 := rows3.same s4
  have rowsA : RowsAt H4 (ts ++ ts.take 2) (rs ++ rs.take 2) := paired_app rows4 (take2 2 rows4)
  have hS4 := hS3.same s4
  have ltA : (ts ++ ts.take 2).length ≤ 66 := by rw [List.length_append, List.length_take]; omega
  refine ⟨S, L, a4, true, (ts ++ ts.take 2).map V.ref, c1 + 1, rfl, SqL.of w4, by rw [List.length_map]; omega, by rw [List.length_map]; omega, hS4, fun ys p5 H5 pm hp50 hp5 hS5 hk5 => ?_⟩
  rw [List.length_map] at hS5
  obtain ⟨ts2, rs2, rfl, rows5', prm⟩ := rows_perm rowsA pm
  have rows5 := RowsAt.kept rows5' hS4.two hk5
  have lr2 : rs2.length ≤ 66 := by
    rw [prm.length_eq, ← Paired.length rowsA]
    exact ltA
  have memR : ∀ r, r ∈ rs2 ↔ r ∈ rs := fun r => by
    rw [prm.mem_iff, List.mem_append]
    exact ⟨fun h => h.elim id List.mem_of_mem_take, .inl⟩
  have hG4 : GAt H4 b G sg := s4 _ _ hG3
  have hG5 : GAt H5 b G sg := hk5 _ _ hG4 farG.1.1 farG.1.2
  have hps5 := lst_kept (s4 _ _ hps3) hk5 fx.nps
  have hpr5 := lst_kept (s4 _ _ hpr3) hk5 fx.npr
  have rows5r := RowsAt.kept rows4 hS4.two hk5
  refine ⟨p5, rfl, ⟨_, SqL.of hp5⟩, mixed_lc2 hS5 hp5 (hS4.off hp50) rows5 Dr.nd Dr.good l6 (fun r hr => Dr.sub.subset ((memR r).mp hr)) (by omega) (by omega) fun Pl cs qss c6 H6 hP0 mx hP6 hS6 hc6 hk6 => ?_⟩
  have offP := hS5.off hP0
  obtain ⟨lq, lcs⟩ := mixes2_len mx
  have farC0 := mixes2_far mx hP0
  have farP : Far S L ps pr Pl := ⟨offP, (ne_of_none hps5 hP0).symm, (ne_of_none hpr5 hP0).symm⟩
  have nGP : G ≠ Pl := ne_of_none hG5 hP0
  have farC : ∀ q ∈ cs, Far S L ps pr q ∧ G ≠ q ∧ Pl ≠ q := fun q hq => by
    obtain ⟨z1, z2, z3⟩ := farC0 q hq
    exact ⟨⟨z1, (z3 _ _ hps5).symm, (z3 _ _ hpr5).symm⟩, z3 _ _ hG5, z2⟩
  have hG6 : GAt H6 b G sg := hk6 _ _ hG5 farG.1.1 farG.1.2
  have hps6 := lst_kept hps5 hk6 fx.nps
  have hpr6 := lst_kept hpr5 hk6 fx.npr
  have rows6 := RowsAt.kept rows5r hS5.two hk6
  have hL6 : ListsAt H6 cs qss := Paired.mapP mx.1 fun _ _ z => z.1
  have lits := mx.2.1
  have l66 : qss.length ≤ 66 := by omega
  have small := dataP_small (b := b) Dr lits l66
  have eAll : allow sg (rowsOf sg qss) = rs := by
    have z : allow sg (rowsOf sg qss) = allow sg rs := allow_congr fun r hr => by
      rw [rowsOf_iff, ← memR r, ← mx.2.2, List.mem_map]
      exact ⟨fun ⟨qs, h1, h2⟩ => ⟨qs, h1, h2.symm⟩, fun ⟨qs, h1, h2⟩ => ⟨qs, h1, h2.symm⟩⟩
    rw [z, allow_sub Dr.sub]
  -- what it shows
  refine ⟨_, rfl, _, rfl, by show 2 ≤ sizeLine; decide, fun M0 hM0 => ?_⟩
  have s7 : Same H6 _ := same_new (o := .lst [.ref G, .ref Pl]) hM0
  have w7 := upd_same (H := H6) (a := M0) (o := .lst [.ref G, .ref Pl])
  generalize upd H6 M0 (.lst [.ref G, .ref Pl]) = H7 at s7 w7 ⊢
  have hG7 : GAt H7 b G sg := s7 _ _ hG6
  refine ⟨.ref M0, dataP b sg qss, rfl, .lst (SqL.of w7) (.cons hG7.dp (.cons (.lst (SqL.of (s7 _ _ hP6)) (hL6.same s7).dps) .nil)), small.sh, small.fits (by decide), Nat.le_trans small.dp (by decide), ?_⟩
  -- the rule
  have hS7 := hS6.same s7
  refine ⟨_, rfl, _, rfl, S, L, 2, c6, rfl, by decide, by decide, by omega, hS7, fun r2 H8 _ _ hS8 hk8 => ⟨rfl, _, rfl, ?_⟩⟩
  have hG8 : GAt H8 b G sg := hk8 _ _ hG7 farG.1.1 farG.1.2
  have hP8 := lst_kept (s7 _ _ hP6) hk8 offP
  have hL8 := (hL6.same s7).kept (fun q hq => (farC q hq).1.1) hk8
  have hps8 := lst_kept (s7 _ _ hps6) hk8 fx.nps
  have hpr8 := lst_kept (s7 _ _ hpr6) hk8 fx.npr
  have rows8 := RowsAt.kept (rows6.same s7) hS7.two hk8
  refine two_ways (fun v H9 => ∃ T0 b2 xs, v = .ref T0 ∧ Same H8 H9 ∧ Sq K b2 H9 T0 xs ∧ Paired (Handed K H9 sg) xs qss) (fun _ Q' kQ => ?_) (fun _ Q' kQ => ?_) ?_
  · exact ⟨_, rfl, kQ _ _ ⟨Pl, true, _, rfl, Same.refl _, SqL.of hP8, hL8.handed lits⟩⟩
  · refine ⟨_, rfl, Pl, rfl, ⟨_, SqL.of hP8⟩, fun Dl hD => lc_it (walk_list (xs := cs.map V.ref)) (fun i H9 => Same H8 H9 ∧ ∃ us, H9 Dl = some (.lst (us.map V.ref)) ∧ RowsAt H9 us ((qss.take i).map fun qs => qs.map lit)) ⟨same_new hD, [], upd_same, .nil⟩ (fun i H9 _ hh => SqL.of (hh.1 _ _ hP8)) ?_ ?_⟩
    · rintro i v H9 H10 hi ⟨sm, us, hD9, ru⟩ ⟨rfl, hv⟩
      obtain ⟨t, ht, rfl⟩ := get_map hv
      obtain ⟨qs, hqs, hqt⟩ := paired_get hL8 i t ht
      have er : qss.take (i + 1) = qss.take i ++ [qs] := by rw [List.take_succ, hqs]; rfl
      have lus : us.length ≤ 66 := by
        have z := Paired.length ru
        rw [List.length_map, List.length_take] at z
        omega
      refine ⟨rfl, _, rfl, .inl ⟨t, _, rfl, SqL.of (sm _ _ hqt), fun q9 hq9 => ?_⟩⟩
      have s9 : Same H10 _ := same_new (o := .tup ((qs.map lit).map V.str)) hq9
      refine ⟨_, s9 _ _ hD9, by rw [List.length_map, sizeLine_eq]; omega, fun b' o h => (upd_ne (ne_of_none h hD)).trans (s9 _ _ (sm _ _ h)), us ++ [q9], ?_, RowsAt.put (s9 _ _ hD9) ?_⟩
      · rw [upd_same, List.map_append]
        rfl
      · rw [er, List.map_append]
        exact rows_snoc (ru.same s9) upd_same
    · rintro H9 ⟨sm, us, hD9, ru⟩
      rw [List.length_map, show cs.length = qss.length by omega, List.take_length] at ru
      refine .inl ⟨Dl, _, rfl, SqL.of hD9, fun q9 hq9 => ?_⟩
      have s9 : Same H9 _ := same_new (o := .tup (us.map V.ref)) hq9
      exact kQ _ _ ⟨q9, false, _, rfl, sm.trans s9, Sq.tup upd_same, handed_tups (ru.same s9) lits⟩
  · rintro v H9 ⟨T0, b2, xs, rfl, sm9, hT9, hd9⟩
    have hG9 : GAt H9 b G sg := sm9 _ _ hG8
    intro x dx hx hdx _
    refine make_rule (b1 := b) (b2 := b2) (sg := sg) hx hdx hG9.sq hT9 l6 Dr.nd Dr.good hd9 (fun qs hqs => (lits qs hqs).2) (by omega) fun r H10 sm10 cx fresh => ⟨rfl, ?_⟩
    rw [eAll] at cx
    have s810 := sm9.trans sm10
    exact k5 D a S L ps pr x r G Pl b cs qss sg ts rs _ H10 _ ⟨_, _, _, _, _, rfl⟩ fx ⟨hS8.same s810, s810 _ _ hps8, s810 _ _ hpr8, rows8.same s810, cx⟩ farG farP farC nGP (s810 _ _ hG8) (s810 _ _ hP8) (hL8.same s810) lits l66 (by omega) fun σ' H' c' hσ hS hc => k σ' H' c' hσ hS (by omega)
end
end K6
namespace K6
open PySem PySem.Spec PyProof.Rows L2 LamX NdefX EV
/-! ### the law -/
def spLaw0 (K : PySem.W.Frag) : Sp := fun vs H Q _ => ∃ (a : Addr) (ns : List Int), vs = [.ref a] ∧ SqL K H a (ns.map V.int) ∧ ns.length ≤ 63 ∧ ∀ H', Q (.bl true) H'
theorem walk0 {l : PySem.W.OpenLaw} {q : Program} {loose : List Str} {XP : (Str → Option Value) → Heap → Prop} {YP : World → Heap → Prop} {d : DefRec} {K : Params → PySem.W.Frag} (hn : l.most = some 63) (hdf : d.params.defaults = [])
    (hY : ∀ (w : World) (h : Heap), YP w h → (K w.params).In h)
    (F : ∀ (w : World) (mg : Str → Option Value) (fa : Addr) (h base : Heap), (K w.params).In h → h.Ns mainGlobals mg → mg d.name = some (.ref fa) →
      ∃ fd, (∀ (s : Shared) (u : Value), BindsTo s fd ⟨[u], []⟩ [("_law_script", u)]) ∧ FnG l.prog w (K w.params) mg base 10 fa fd ["_law_script"] (spLaw0 (K w.params))) :
    PySem.W.WalkO q loose XP YP l.row.toRowW d [] (fun f vs => PySem.call f vs) := by
  refine Att.attach_callB hn hdf fun w s₀ s₁ mg mb fa o pm cd doc a vs ns G Y ho hd hcd hmg hobj hints hlen hbits hg => ?_
  have KX := hY w _ Y
  refine law_callG (cs := []) KX G.T.g G.T.b G.T.builtins G.T.nolimit hg (fun p hp => nomatch hp) (fun p hp => nomatch hp) (fun p hp => nomatch hp) G.T.bmain hobj hints (Nat.le_trans hlen (by decide)) fun base H kb gb tb hH hS e0 => ?_
  obtain ⟨fd, hb, hF⟩ := F w mg fa _ base KX G.T.g hmg
  exact hF.run callerA [] s₁ H ⟨[.ref a], []⟩ [.ref a] [.ref a] _ E0 rfl ⟨rfl, by decide, by decide⟩ e0 (hb s₁ (.ref a)) (.cons rfl .nil) ⟨a, ns, rfl, hS, hlen, fun _ => rfl⟩
section
variable {P : Program} {w : World} {K : PySem.W.Frag} {mg : Str → Option Value} {base : Heap} {C : Addr} {f : Addr} {fd : FuncData}
theorem ok_law (F : Fun K "law" "law" sLaw f fd) (T : LTx P w K mg base C) : FnG P w K mg base 10 f fd ["_law_script"] (spLaw0 K) := by
  refine fng_of F scLaw (fun vs H Q E h => ?_) (fun cdv A outer s H vs Q E gd hr h => ?_)
  · obtain ⟨a, ns, rfl, _⟩ := h
    rfl
  · obtain ⟨a, ns, rfl, hA, hn, k⟩ := h
    obtain ⟨tt1, p1, k1⟩ := lseg0 (f := f) (cdv := cdv) (A := A) (outer := outer) (s0 := s) (HH := H) (E := E) T gd hr
    refine ⟨_, pss_cons (ps_set (i := 1) scLaw.nd rfl (.inr rfl) (pe_lst (pa_cons (pe_callTy call_list_of (by rfl) T.U.T.list (by decide +kernel) (pa_cons (pv 0) pa_nil)) (pa_cons pe_int (pa_cons pe_int (pa_cons pe_int pa_nil))))))
      (pss_cons (ps_for PassesOwn.never rfl (pi_range1 (by rfl) T.range (pa_cons pe_int pa_nil)) (pg_name (i := 2) scLaw.nd rfl (.inl rfl)) p1)
      (pss_one (ps_ret pe_bl))), ?_⟩
    refine ⟨_, rfl, a, _, rfl, .inl hA, fun l0 hl0 => ⟨(by show 4 ≤ sizeLine; decide), fun S hS => ?_⟩⟩
    have hSl : StreamAt (upd (upd H l0 (.lst (ns.map V.int))) S (.lst [.ref l0, .int 0, .int 0, .int 0])) S l0 0 := ⟨ns, 0, 0, upd_same, (upd_ne (ne_of_none upd_same hS)).trans upd_same, by decide, by decide, by decide, hn⟩
    generalize upd (upd H l0 (.lst (ns.map V.int))) S (.lst [.ref l0, .int 0, .int 0, .int 0]) = HA at hSl ⊢
    refine ⟨5, rfl, by decide, by decide, for_range (lo := 0) (n := 5) (fun i σ H2 => SigT a S σ ∧ ∃ c, c ≤ 1300 * i ∧ StreamAt H2 S l0 c) ⟨⟨_, _, _, _, _, _, _, _, _, _, _, rfl⟩, 0, Nat.zero_le _, hSl⟩ ?_ ?_⟩
    · rintro i σ H2 hi ⟨⟨o2, o3, o4, o5, o6, o7, o8, o9, o10, o11, o12, rfl⟩, c, hc, hS2⟩
      have e : (0 + (i : Int)) = (i : Int) := by omega
      rw [e]
      exact k1 _ a S l0 i o3 o4 o5 o6 o7 o8 o9 o10 o11 o12 H2 c hS2 (by omega) fun σ' H' c' hσ hS hc' => ⟨hσ, c', by omega, hS⟩
    · rintro σ H2 _
      exact k H2
end
end K6
namespace K6
open PySem PySem.Spec PyProof.Rows L2 LamX NdefX EV
/-! ### what the written part says of the text -/
def frees : List Str := ["int", "len", "repr", "range", "list", "tuple", "isinstance", "str", "all", "any", "enumerate", "sorted", "set"]
def freeB (K : PySem.W.Frag) (xs : List Str) : Bool := xs.all fun x => decide (PySem.W.nsIn K mainGlobals x = some none)
theorem freeB_ok {K : PySem.W.Frag} {xs : List Str} {h : Heap} {mg : Str → Option Value} (b : freeB K xs = true) (X : K.In h) (G : h.Ns mainGlobals mg) : ∀ x ∈ xs, mg x = none := fun x hx => by
  unfold freeB at b
  simp only [List.all_eq_true, decide_eq_true_eq] at b
  exact PySem.W.mg_none_of X G (b x hx)
def DefAt (K : PySem.W.Frag) (x : Str) (st : Stmt) (f : Addr) : Prop := PySem.W.nsIn K mainGlobals x = some (some (.ref f)) ∧ ∃ fd, Fun K x x st f fd
def fnB (K : PySem.W.Frag) (C : Addr) (m : Str) (f : Addr) : Bool := decide (PySem.W.findIn K (.ref C) m = some (some (.ref f))) && PySem.W.isFn K (.ref f) && PySem.W.keepIn K (.ref f)
theorem fnB_ok {K : PySem.W.Frag} {C f : Addr} {m : Str} (h : fnB K C m f = true) : Meth K C m f := by
  unfold fnB at h
  simp only [Bool.and_eq_true, decide_eq_true_eq] at h
  exact ⟨h.1.1, h.1.2, h.2⟩
def clB (K : PySem.W.Frag) (C : Addr) : Bool := PySem.W.plainGet K C Str.empty && PySem.W.hasDictIn K C && PySem.W.plainOver K C && decide (PySem.W.findIn K (.ref C) "__setattr__" = some (some (.builtin "object.__setattr__"))) &&
  (["names", "places", "rows"] : List Str).all (fun n => decide (PySem.W.findIn K (.ref C) n = some none))
theorem clB_ok {K : PySem.W.Frag} {C : Addr} (h : clB K C = true) : Cls K C ∧ NoAttr K C "names" ∧ NoAttr K C "places" ∧ NoAttr K C "rows" := by
  unfold clB at h
  simp only [Bool.and_eq_true, decide_eq_true_eq, List.all_eq_true] at h
  obtain ⟨⟨⟨⟨h1, h2⟩, h3⟩, h4⟩, h5⟩ := h
  exact ⟨⟨h1, h2, h3, h4⟩, h5 _ (by simp), h5 _ (by simp), h5 _ (by simp)⟩
def isB (K : PySem.W.Frag) (C : Addr) : Bool := decide (PySem.W.findIn K (.ref C) "__class__" = some (some (.builtin "object.__class__"))) && decide (PySem.W.specialIn K (.builtin "object.__class__") "__get__" = some (some (.builtin "getset_descriptor.__get__"))) && decide (PySem.W.takesIn K (.builtin "object.__class__") = some true) && decide (PySem.W.mroIn K C (.type "object") = some true)
theorem isB_ok {K : PySem.W.Frag} {C : Addr} (h : isB K C = true) : CIs K C := by
  unfold isB at h
  simp only [Bool.and_eq_true, decide_eq_true_eq] at h
  obtain ⟨⟨⟨h1, h2⟩, h3⟩, h4⟩ := h
  exact ⟨h1, h2, h3, h4⟩
def neB (K : PySem.W.Frag) (C : Addr) : Bool := decide (PySem.W.findIn K (.ref C) "__ne__" = some (some (.builtin "object.__ne__"))) && decide (PySem.W.mroIn K C (.type "object") = some true) && (oddTypes.all fun T => decide (PySem.W.subIn K (.ref C) (.type T) = some false) && decide (PySem.W.kitOne K (.type T) (.ref C) = some false) && PySem.W.notFirst K C (.type T)) && PySem.W.notFirst K C (.ref C)
theorem neB_ok {K : PySem.W.Frag} {C f : Addr} (h : neB K C = true) (m : Meth K C "__eq__" f) : NeTxt K C f ∧ (∀ T ∈ oddTypes, PySem.W.kitOne K (.type T) (.ref C) = some false ∧ PySem.W.notFirst K C (.type T) = true) ∧ PySem.W.notFirst K C (.ref C) = true := by
  unfold neB at h
  simp only [Bool.and_eq_true, decide_eq_true_eq, List.all_eq_true] at h
  obtain ⟨⟨⟨h1, h2⟩, h3⟩, h4⟩ := h
  exact ⟨⟨m.at_, m.fn, h1, h2, fun T hT => (h3 T hT).1.1⟩, fun T hT => ⟨(h3 T hT).1.2, (h3 T hT).2⟩, h4⟩
def mkB (K : PySem.W.Frag) (C : Addr) : Bool := PySem.W.makesIn K C && PySem.W.keepIn K (.ref C)
theorem mkB_ok {K : PySem.W.Frag} {C f : Addr} (h : mkB K C = true) (m : Meth K C "__init__" f) : Mk K C f := by
  unfold mkB at h
  simp only [Bool.and_eq_true] at h
  exact ⟨h.1, m.at_, m.fn, h.2⟩
section
variable {P : Program} {w : World} {K : PySem.W.Frag} {mg : Str → Option Value} {base : Heap}
theorem all_tx {h : Heap} {fa C fN AN fN1 fD fP fM fS fF fU fA fB fR fH fZ fi fn fl fp fv ft fw fc fk fs fu g0 g1 g2 g4 g5 g6 g7 : Addr} {vL vM vT : Value} (X : K.In h) (G : h.Ns mainGlobals mg) (hfa : mg "law" = some (.ref fa)) (fr : freeB K frees = true)
    (aL : PySem.W.nsIn K mainGlobals "LETTERS" = some (some vL)) (eL : ∃ t, vL = .str letters t) (aM : PySem.W.nsIn K mainGlobals "MOST_LETTERS" = some (some vM)) (eM : ∃ t, vM = .int 8 t) (aT : PySem.W.nsIn K mainGlobals "MOST_SIGNS" = some (some vT)) (eT : ∃ t, vT = .int 6 t)
    (dD : DefAt K "_law_draw" sDraw fD) (dP : DefAt K "_law_pick" sPick fP) (dM : DefAt K "_law_mixed" sMixed fM) (dS : DefAt K "_law_same" sSame fS) (dF : DefAt K "_law_fresh" sFresh fF) (dN : DefAt K "_law_names" sNames fN1) (dU : DefAt K "_law_up" sUp fU) (dA : DefAt K "_law_fulls" sFulls fA) (dB : DefAt K "_law_drawn_rule" sDrawn fB) (dR : DefAt K "_law_is_right" sRight fR) (dH : DefAt K "_law_is_unlike" sUnlike fH) (dZ : DefAt K "law" sLaw fZ) (di : DefAt K "is_name" sIsName fi) (dn : DefAt K "name_of" sNameOf fn) (dl : DefAt K "literals_of" sLits fl) (dp : DefAt K "places_of" sPlaces fp) (dv : DefAt K "in_order" sInOrder fv) (dt : DefAt K "is_list" sIsList ft) (dw : DefAt K "first_wrong" sWrong fw) (dc : DefAt K "is_clause" sIsClause fc) (dk : DefAt K "is_full" sIsFull fk) (ds : DefAt K "full_settings" sFullSettings fs) (du : DefAt K "check_count" sChkCount fu)
    (aC : PySem.W.nsIn K mainGlobals "Rule" = some (some (.ref C))) (aN : PySem.W.nsIn K mainGlobals "check_names" = some (some (.ref fN))) (lN : ∃ fd, FunE K "check_names" "check_names" sChkNames fN fd AN)
    (i0 : PySem.W.findIn K (.ref C) "__init__" = some (some (.ref g0))) (n0 : fnB K C "__init__" g0 = true) (l0 : ∃ fd, Fun K "__init__" "Rule.__init__" sInit g0 fd) (i1 : PySem.W.findIn K (.ref C) "signs" = some (some (.ref g1))) (n1 : fnB K C "signs" g1 = true) (l1 : ∃ fd, Fun K "signs" "Rule.signs" sSigns g1 fd) (i2 : PySem.W.findIn K (.ref C) "settings" = some (some (.ref g2))) (n2 : fnB K C "settings" g2 = true) (l2 : ∃ fd, Fun K "settings" "Rule.settings" sSettings g2 fd) (i4 : PySem.W.findIn K (.ref C) "__len__" = some (some (.ref g4))) (n4 : fnB K C "__len__" g4 = true) (l4 : ∃ fd, Fun K "__len__" "Rule.__len__" sLen g4 fd) (i5 : PySem.W.findIn K (.ref C) "__contains__" = some (some (.ref g5))) (n5 : fnB K C "__contains__" g5 = true) (l5 : ∃ fd, Fun K "__contains__" "Rule.__contains__" sContains g5 fd) (i6 : PySem.W.findIn K (.ref C) "__eq__" = some (some (.ref g6))) (n6 : fnB K C "__eq__" g6 = true) (l6 : ∃ fd, Fun K "__eq__" "Rule.__eq__" sEq g6 fd) (i7 : PySem.W.findIn K (.ref C) "__le__" = some (some (.ref g7))) (n7 : fnB K C "__le__" g7 = true) (l7 : ∃ fd, Fun K "__le__" "Rule.__le__" sLe g7 fd)
    (cC : clB K C = true) (cI : isB K C = true) (cE : neB K C = true) (cM : mkB K C = true) :
    ∃ fd, (∀ (s : Shared) (u : Value), BindsTo s fd ⟨[u], []⟩ [("_law_script", u)]) ∧ FnG P w K mg base 10 fa fd ["_law_script"] (spLaw0 K) := by
  have fz := freeB_ok fr X G
  have z_int : mg "int" = none := fz _ (by unfold frees; decide +kernel)
  have z_len : mg "len" = none := fz _ (by unfold frees; decide +kernel)
  have z_repr : mg "repr" = none := fz _ (by unfold frees; decide +kernel)
  have z_range : mg "range" = none := fz _ (by unfold frees; decide +kernel)
  have z_list : mg "list" = none := fz _ (by unfold frees; decide +kernel)
  have z_tuple : mg "tuple" = none := fz _ (by unfold frees; decide +kernel)
  have z_isinstance : mg "isinstance" = none := fz _ (by unfold frees; decide +kernel)
  have z_str : mg "str" = none := fz _ (by unfold frees; decide +kernel)
  have z_all : mg "all" = none := fz _ (by unfold frees; decide +kernel)
  have z_any : mg "any" = none := fz _ (by unfold frees; decide +kernel)
  have z_enumerate : mg "enumerate" = none := fz _ (by unfold frees; decide +kernel)
  have z_sorted : mg "sorted" = none := fz _ (by unfold frees; decide +kernel)
  have z_set : mg "set" = none := fz _ (by unfold frees; decide +kernel)
  obtain ⟨tL, rfl⟩ := eL
  obtain ⟨tM, rfl⟩ := eM
  obtain ⟨tT, rfl⟩ := eT
  have mT : ∃ t, mg "MOST_SIGNS" = some (.int 6 t) := ⟨_, PySem.W.mg_of X G aT⟩
  have mL : ∃ t, mg "LETTERS" = some (.str letters t) := ⟨_, PySem.W.mg_of X G aL⟩
  have mM : ∃ t, mg "MOST_LETTERS" = some (.int 8 t) := ⟨_, PySem.W.mg_of X G aM⟩
  obtain ⟨aD_, fdD, FD⟩ := dD
  have mD := PySem.W.mg_of X G aD_
  have bD := FD.binds (ps := ["_law_stream", "_law_many"]) fun _ _ _ _ _ _ us hl => match us, hl with | [_, _], _ => rfl
  obtain ⟨aP_, fdP, FP⟩ := dP
  have mP := PySem.W.mg_of X G aP_
  have bP := FP.binds (ps := ["_law_stream", "_law_things"]) fun _ _ _ _ _ _ us hl => match us, hl with | [_, _], _ => rfl
  obtain ⟨aM_, fdM, FM⟩ := dM
  have mM_ := PySem.W.mg_of X G aM_
  have bM := FM.binds (ps := ["_law_stream", "_law_things"]) fun _ _ _ _ _ _ us hl => match us, hl with | [_, _], _ => rfl
  obtain ⟨aS_, fdS, FS⟩ := dS
  have mS := PySem.W.mg_of X G aS_
  have bS := FS.binds (ps := ["_law_found", "_law_due"]) fun _ _ _ _ _ _ us hl => match us, hl with | [_, _], _ => rfl
  obtain ⟨aF_, fdF, FF⟩ := dF
  have mF := PySem.W.mg_of X G aF_
  have bF := FF.binds (ps := ["_law_stream", "_law_taken"]) fun _ _ _ _ _ _ us hl => match us, hl with | [_, _], _ => rfl
  obtain ⟨aN_, fdN_, FN_⟩ := dN
  have mN := PySem.W.mg_of X G aN_
  have bN := FN_.binds (ps := ["_law_stream", "_law_many"]) fun _ _ _ _ _ _ us hl => match us, hl with | [_, _], _ => rfl
  obtain ⟨aU_, fdU, FU⟩ := dU
  have mU := PySem.W.mg_of X G aU_
  have bU := FU.binds (ps := ["_law_some", "_law_names_here"]) fun _ _ _ _ _ _ us hl => match us, hl with | [_, _], _ => rfl
  obtain ⟨aA_, fdA, FA⟩ := dA
  have mA := PySem.W.mg_of X G aA_
  have bA := FA.binds (ps := ["_law_names_here"]) fun _ _ _ _ _ _ us hl => match us, hl with | [_], _ => rfl
  obtain ⟨aB_, fdB, FB⟩ := dB
  have mB := PySem.W.mg_of X G aB_
  have bB := FB.binds (ps := ["_law_stream", "_law_most"]) fun _ _ _ _ _ _ us hl => match us, hl with | [_, _], _ => rfl
  obtain ⟨aR_, fdR, FR⟩ := dR
  have mR := PySem.W.mg_of X G aR_
  have bR := FR.binds (ps := ["_law_rule", "_law_signs", "_law_allowed"]) fun _ _ _ _ _ _ us hl => match us, hl with | [_, _, _], _ => rfl
  obtain ⟨aH_, fdH, FH⟩ := dH
  have mH := PySem.W.mg_of X G aH_
  have bH := FH.binds (ps := ["_law_rule", "_law_signs", "_law_allowed", "_law_stream"]) fun _ _ _ _ _ _ us hl => match us, hl with | [_, _, _, _], _ => rfl
  obtain ⟨aZ_, fdZ, FZ⟩ := dZ
  have mZ := PySem.W.mg_of X G aZ_
  have bZ := FZ.binds (ps := ["_law_script"]) fun _ _ _ _ _ _ us hl => match us, hl with | [_], _ => rfl
  obtain ⟨ai_, fdi, Fi⟩ := di
  have mi := PySem.W.mg_of X G ai_
  have bi := Fi.binds (ps := ["thing"]) fun _ _ _ _ _ _ us hl => match us, hl with | [_], _ => rfl
  obtain ⟨an_, fdn, Fn⟩ := dn
  have mn := PySem.W.mg_of X G an_
  have bn := Fn.binds (ps := ["literal"]) fun _ _ _ _ _ _ us hl => match us, hl with | [_], _ => rfl
  obtain ⟨al_, fdl, Fl⟩ := dl
  have ml := PySem.W.mg_of X G al_
  have bl := Fl.binds (ps := ["names"]) fun _ _ _ _ _ _ us hl => match us, hl with | [_], _ => rfl
  obtain ⟨ap_, fdp, Fp⟩ := dp
  have mp := PySem.W.mg_of X G ap_
  have bp := Fp.binds (ps := ["names"]) fun _ _ _ _ _ _ us hl => match us, hl with | [_], _ => rfl
  obtain ⟨av_, fdv, Fv⟩ := dv
  have mv := PySem.W.mg_of X G av_
  have bv := Fv.binds (ps := ["places", "literals"]) fun _ _ _ _ _ _ us hl => match us, hl with | [_, _], _ => rfl
  obtain ⟨at_, fdt, Ft⟩ := dt
  have mt := PySem.W.mg_of X G at_
  have bt := Ft.binds (ps := ["thing"]) fun _ _ _ _ _ _ us hl => match us, hl with | [_], _ => rfl
  obtain ⟨aw_, fdw, Fw⟩ := dw
  have mw := PySem.W.mg_of X G aw_
  have bw := Fw.binds (ps := ["places", "things"]) fun _ _ _ _ _ _ us hl => match us, hl with | [_, _], _ => rfl
  obtain ⟨ac_, fdc, Fc⟩ := dc
  have mc := PySem.W.mg_of X G ac_
  have bc := Fc.binds (ps := ["places", "thing"]) fun _ _ _ _ _ _ us hl => match us, hl with | [_, _], _ => rfl
  obtain ⟨ak_, fdk, Fk⟩ := dk
  have mk := PySem.W.mg_of X G ak_
  have bk := Fk.binds (ps := ["places", "thing"]) fun _ _ _ _ _ _ us hl => match us, hl with | [_, _], _ => rfl
  obtain ⟨as_, fds, Fs⟩ := ds
  have ms := PySem.W.mg_of X G as_
  have bs := Fs.binds (ps := ["names"]) fun _ _ _ _ _ _ us hl => match us, hl with | [_], _ => rfl
  obtain ⟨au_, fdu, Fu⟩ := du
  have mu := PySem.W.mg_of X G au_
  have bu := Fu.binds (ps := ["names"]) fun _ _ _ _ _ _ us hl => match us, hl with | [_], _ => rfl
  obtain ⟨fd0, F0⟩ := l0
  have t0 := fnB_ok n0
  have b0 := F0.binds (ps := ["self", "signs", "settings"]) fun _ _ _ _ _ _ us hl => match us, hl with | [_, _, _], _ => rfl
  obtain ⟨fd1, F1⟩ := l1
  have t1 := fnB_ok n1
  have b1 := F1.binds (ps := ["self"]) fun _ _ _ _ _ _ us hl => match us, hl with | [_], _ => rfl
  obtain ⟨fd2, F2⟩ := l2
  have t2 := fnB_ok n2
  have b2 := F2.binds (ps := ["self"]) fun _ _ _ _ _ _ us hl => match us, hl with | [_], _ => rfl
  obtain ⟨fd4, F4⟩ := l4
  have t4 := fnB_ok n4
  have b4 := F4.binds (ps := ["self"]) fun _ _ _ _ _ _ us hl => match us, hl with | [_], _ => rfl
  obtain ⟨fd5, F5⟩ := l5
  have t5 := fnB_ok n5
  have b5 := F5.binds (ps := ["self", "thing"]) fun _ _ _ _ _ _ us hl => match us, hl with | [_, _], _ => rfl
  obtain ⟨fd6, F6⟩ := l6
  have t6 := fnB_ok n6
  have b6 := F6.binds (ps := ["self", "other"]) fun _ _ _ _ _ _ us hl => match us, hl with | [_, _], _ => rfl
  obtain ⟨fd7, F7⟩ := l7
  have t7 := fnB_ok n7
  have b7 := F7.binds (ps := ["self", "other"]) fun _ _ _ _ _ _ us hl => match us, hl with | [_, _], _ => rfl
  obtain ⟨fdN, FN⟩ := lN
  obtain ⟨c1, c2, c3, c4⟩ := clB_ok cC
  have CI := isB_ok cI
  obtain ⟨NE, no1, no2⟩ := neB_ok cE t6
  have MK := mkB_ok cM t0
  have T : RTxt K mg C := ⟨c1, c2, c3, c4, PySem.W.mg_of X G aC, z_tuple, z_list, z_len⟩
  have mN_ := PySem.W.mg_of X G aN
  obtain ⟨dsN, vN, bN_⟩ := FN.short (ps := ["things", "taken"]) 1 rfl fun T kV doc pm an cdv ct us its h1 h2 => match us, h1, its, h2 with | [_], _, [_], _ => ⟨_, rfl, rfl⟩
  have GD : FnOk P w K mg base CX0 1 fD fdD _ spDraw := ok_draw FD z_int
  have GP := ok_pickL FP GD mD FD.kp bD z_len
  have GM := ok_mixed FM GD mD FD.kp bD z_len z_range z_list
  have GS : FnG P w K mg base 1 fS fdS _ (spSameP K) := ok_sameP FS z_repr
  have GF := ok_fresh FF GD mD FD.kp bD GP mP FP.kp bP z_range z_int
  have GN := ok_names FN_ GF mF FF.kp bF z_range
  have GU : FnOk P w K mg base CX0 1 fU fdU _ (spUp K) := ok_up FU z_tuple
  have GA : FnOk P w K mg base CX0 1 fA fdA _ (spFulls K) := ok_fulls FA
  have GB := ok_drawn FB GD mD FD.kp bD GN mN FN_.kp bN GA mA FA.kp bA
  have Gi : FnOk P w K mg base CX0 1 fi fdi _ spIsName := ok_isName Fi z_isinstance z_str z_len z_all mL mM
  have Gn : FnOk P w K mg base CX0 1 fn fdn _ spNameOf := ok_nameOf Fn
  have Gl : FnOk P w K mg base CX0 1 fl fdl _ (spLits K) := ok_lits Fl
  have Gp := ok_places Fp Gl ml Fl.kp bl z_enumerate
  have Gv : FnOk P w K mg base CX0 1 fv fdv _ (spInOrder K) := ok_inOrder Fv z_tuple z_sorted z_int
  have Gt : FnOk P w K mg base CX0 1 ft fdt _ (spIsList K) := ok_isList Ft z_isinstance z_list z_tuple
  have GE := ok_chkNames FN Gi mi Fi.kp bi z_enumerate
  have Gw := ok_wrong Fw Gn mn Fn.kp bn z_enumerate z_isinstance z_str
  have Gc := ok_isClause Fc Gt mt Ft.kp bt Gw mw Fw.kp bw
  have Gk := ok_isFull Fk z_len Gc mc Fc.kp bc
  have Gs : FnOk P w K mg base CX0 1 fs fds _ (spFS K) := ok_fs Fs
  have Gu : FnOk P w K mg base CX0 1 fu fdu _ (spChkCount K) := ok_chkCount Fu z_len mT
  have GI := ok_init F0 T z_enumerate GE mN_ FN.fn.kp FN.e0 vN bN_ Gu mu Fu.kp bu Gp mp Fp.kp bp Gk mk Fk.kp bk Gv mv Fv.kp bv Gs ms Fs.kp bs
  have G1 : FnOk P w K mg base CX0 1 g1 fd1 _ (spSigns K C) := ok_signs F1 T
  have G2 : FnOk P w K mg base CX0 1 g2 fd2 _ (spSettings K C) := ok_settings F2 T
  have G4 : FnOk P w K mg base CX0 1 g4 fd4 _ (spLen K C) := ok_len F4 T
  have G5 := ok_contains F5 T Gk mk Fk.kp bk Gv mv Fv.kp bv
  have G7 := ok_le F7 T z_all z_set G5 t5.at_ t5.fn b5
  have G6 := ok_eq F6 T CI no2 z_isinstance G7 t7.at_ t7.fn b7
  have GR := ok_right FR T GS mS FS.kp bS G1 t1 b1 G2 t2 b2 G4 t4.at_ t4.fn b4
  have ux : UTx P w K mg base C := {
    T := T
    any := z_any
    all := z_all
    fresh := ⟨_, _, GF, mF, FF.kp, bF⟩
    fulls := ⟨_, _, GA, mA, FA.kp, bA⟩
    pick := ⟨_, _, GP, mP, FP.kp, bP⟩
    up := ⟨_, _, GU, mU, FU.kp, bU⟩
    make := ⟨_, _, MK, GI, b0⟩
    setm := ⟨_, _, G2, t2, b2⟩
    eq := ⟨_, _, G6, NE, b6⟩
    CI := CI
    not1 := no1
    not2 := no2 }
  have GH := ok_unlike FH ux
  have tx : LTx P w K mg base C := {
    U := ux
    range := z_range
    repr := z_repr
    isi := z_isinstance
    drawn := ⟨_, _, GB, mB, FB.kp, bB⟩
    draw := ⟨_, _, GD, mD, FD.kp, bD⟩
    mixed := ⟨_, _, GM, mM_, FM.kp, bM⟩
    same := ⟨_, _, GS, mS, FS.kp, bS⟩
    right := ⟨_, _, GR, mR, FR.kp, bR⟩
    unlike := ⟨_, _, GH, mH, FH.kp, bH⟩
    cont := ⟨_, _, G5, t5.at_, t5.fn, b5⟩ }
  obtain ⟨oc2, od2, kV2, doc2, pm2, an2, cdv2, ct2, osl2, e2, _⟩ := id FZ.ex
  have e := hfa.symm.trans mZ
  cases e
  refine ⟨fdZ, fun s u => ?_, ok_law FZ tx⟩
  subst e2
  exact .of_eq rfl
end
end K6
open PySem PySem.W PyProof.Rows
set_option maxRecDepth 100000 in
set_option maxHeartbeats 0 in
theorem PySem.Challenge.cw_lastopen_k02_rules_made_holds : PySem.Challenge.rw_lastopen_k02_rules_made.Holds := by
  w_on; o_law; k_head; (case hw => w_witness2)
  k_fill
  refine' K6.walk0 (l := PySem.Challenge.rw_lastopen_k02_rules_made) rfl rfl (fun w h Y => PySem.W.kIn_of Y) ?F
  case F =>
    intro w mg fa h base KX G hmg
    refine' K6.all_tx KX G hmg ?fr ?aL ?eL ?aM ?eM ?aT ?eT ?dD ?dP ?dM ?dS ?dF ?dN ?dU ?dA ?dB ?dR ?dH ?dZ ?di ?dn ?dl ?dp ?dv ?dt ?dw ?dc ?dk ?ds ?du ?aC ?aN ?lN ?i0 ?n0 ?l0 ?i1 ?n1 ?l1 ?i2 ?n2 ?l2 ?i4 ?n4 ?l4 ?i5 ?n5 ?l5 ?i6 ?n6 ?l6 ?i7 ?n7 ?l7 ?cC ?cI ?cE ?cM
    (case aL => k_is); (case aM => k_is); (case aT => k_is)
    (case eL => exact ⟨_, rfl⟩); (case eM => exact ⟨_, rfl⟩); (case eT => exact ⟨_, rfl⟩)
    (case dD => refine' ⟨?uaD, _, L2.fun_mk ?ulD ?ucD ?ukD⟩; (case uaD => k_is); (case ulD => k_is); (case ucD => k_is); (case ukD => k_is))
    (case dP => refine' ⟨?uaP, _, L2.fun_mk ?ulP ?ucP ?ukP⟩; (case uaP => k_is); (case ulP => k_is); (case ucP => k_is); (case ukP => k_is))
    (case dM => refine' ⟨?uaM, _, L2.fun_mk ?ulM ?ucM ?ukM⟩; (case uaM => k_is); (case ulM => k_is); (case ucM => k_is); (case ukM => k_is))
    (case dS => refine' ⟨?uaS, _, L2.fun_mk ?ulS ?ucS ?ukS⟩; (case uaS => k_is); (case ulS => k_is); (case ucS => k_is); (case ukS => k_is))
    (case dF => refine' ⟨?uaF, _, L2.fun_mk ?ulF ?ucF ?ukF⟩; (case uaF => k_is); (case ulF => k_is); (case ucF => k_is); (case ukF => k_is))
    (case dN => refine' ⟨?uaN, _, L2.fun_mk ?ulN ?ucN ?ukN⟩; (case uaN => k_is); (case ulN => k_is); (case ucN => k_is); (case ukN => k_is))
    (case dU => refine' ⟨?uaU, _, L2.fun_mk ?ulU ?ucU ?ukU⟩; (case uaU => k_is); (case ulU => k_is); (case ucU => k_is); (case ukU => k_is))
    (case dA => refine' ⟨?uaA, _, L2.fun_mk ?ulA ?ucA ?ukA⟩; (case uaA => k_is); (case ulA => k_is); (case ucA => k_is); (case ukA => k_is))
    (case dB => refine' ⟨?uaB, _, L2.fun_mk ?ulB ?ucB ?ukB⟩; (case uaB => k_is); (case ulB => k_is); (case ucB => k_is); (case ukB => k_is))
    (case dR => refine' ⟨?uaR, _, L2.fun_mk ?ulR ?ucR ?ukR⟩; (case uaR => k_is); (case ulR => k_is); (case ucR => k_is); (case ukR => k_is))
    (case dH => refine' ⟨?uaH, _, L2.fun_mk ?ulH ?ucH ?ukH⟩; (case uaH => k_is); (case ulH => k_is); (case ucH => k_is); (case ukH => k_is))
    (case dZ => refine' ⟨?uaZ, _, L2.fun_mk ?ulZ ?ucZ ?ukZ⟩; (case uaZ => k_is); (case ulZ => k_is); (case ucZ => k_is); (case ukZ => k_is))
    (case di => refine' ⟨?uai, _, L2.fun_mk ?uli ?uci ?uki⟩; (case uai => k_is); (case uli => k_is); (case uci => k_is); (case uki => k_is))
    (case dn => refine' ⟨?uan, _, L2.fun_mk ?uln ?ucn ?ukn⟩; (case uan => k_is); (case uln => k_is); (case ucn => k_is); (case ukn => k_is))
    (case dl => refine' ⟨?ual, _, L2.fun_mk ?ull ?ucl ?ukl⟩; (case ual => k_is); (case ull => k_is); (case ucl => k_is); (case ukl => k_is))
    (case dp => refine' ⟨?uap, _, L2.fun_mk ?ulp ?ucp ?ukp⟩; (case uap => k_is); (case ulp => k_is); (case ucp => k_is); (case ukp => k_is))
    (case dv => refine' ⟨?uav, _, L2.fun_mk ?ulv ?ucv ?ukv⟩; (case uav => k_is); (case ulv => k_is); (case ucv => k_is); (case ukv => k_is))
    (case dt => refine' ⟨?uat, _, L2.fun_mk ?ult ?uct ?ukt⟩; (case uat => k_is); (case ult => k_is); (case uct => k_is); (case ukt => k_is))
    (case dw => refine' ⟨?uaw, _, L2.fun_mk ?ulw ?ucw ?ukw⟩; (case uaw => k_is); (case ulw => k_is); (case ucw => k_is); (case ukw => k_is))
    (case dc => refine' ⟨?uac, _, L2.fun_mk ?ulc ?ucc ?ukc⟩; (case uac => k_is); (case ulc => k_is); (case ucc => k_is); (case ukc => k_is))
    (case dk => refine' ⟨?uak, _, L2.fun_mk ?ulk ?uck ?ukk⟩; (case uak => k_is); (case ulk => k_is); (case uck => k_is); (case ukk => k_is))
    (case ds => refine' ⟨?uas, _, L2.fun_mk ?uls ?ucs ?uks⟩; (case uas => k_is); (case uls => k_is); (case ucs => k_is); (case uks => k_is))
    (case du => refine' ⟨?uau, _, L2.fun_mk ?ulu ?ucu ?uku⟩; (case uau => k_is); (case ulu => k_is); (case ucu => k_is); (case uku => k_is))
    (case aC => k_is); (case aN => k_is)
    (case lN => refine' ⟨_, EV.funE_mk ?xlN ?xcN ?xkN ?xTN ?xdN ?xAN ?xbN ?xeN⟩; (case xlN => k_is); (case xcN => k_is); (case xkN => k_is); (case xTN => k_is); (case xdN => exact rfl); (case xAN => k_is); (case xbN => exact rfl); (case xeN => exact rfl))
    (case i0 => k_is)
    (case l0 => refine' ⟨_, L2.fun_mk ?vl0 ?vc0 ?vk0⟩; (case vl0 => k_is); (case vc0 => k_is); (case vk0 => k_is))
    (case i1 => k_is)
    (case l1 => refine' ⟨_, L2.fun_mk ?vl1 ?vc1 ?vk1⟩; (case vl1 => k_is); (case vc1 => k_is); (case vk1 => k_is))
    (case i2 => k_is)
    (case l2 => refine' ⟨_, L2.fun_mk ?vl2 ?vc2 ?vk2⟩; (case vl2 => k_is); (case vc2 => k_is); (case vk2 => k_is))
    (case i4 => k_is)
    (case l4 => refine' ⟨_, L2.fun_mk ?vl4 ?vc4 ?vk4⟩; (case vl4 => k_is); (case vc4 => k_is); (case vk4 => k_is))
    (case i5 => k_is)
    (case l5 => refine' ⟨_, L2.fun_mk ?vl5 ?vc5 ?vk5⟩; (case vl5 => k_is); (case vc5 => k_is); (case vk5 => k_is))
    (case i6 => k_is)
    (case l6 => refine' ⟨_, L2.fun_mk ?vl6 ?vc6 ?vk6⟩; (case vl6 => k_is); (case vc6 => k_is); (case vk6 => k_is))
    (case i7 => k_is)
    (case l7 => refine' ⟨_, L2.fun_mk ?vl7 ?vc7 ?vk7⟩; (case vl7 => k_is); (case vc7 => k_is); (case vk7 => k_is))
    (case fr => kernel_rfl)
    (case n0 => kernel_rfl)
    (case n1 => kernel_rfl)
    (case n2 => kernel_rfl)
    (case n4 => kernel_rfl)
    (case n5 => kernel_rfl)
    (case n6 => kernel_rfl)
    (case n7 => kernel_rfl)
    (case cC => kernel_rfl)
    (case cI => kernel_rfl)
    (case cE => kernel_rfl)
    (case cM => kernel_rfl)
