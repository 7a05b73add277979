import PyProof.Rows.All
import Wide.All
import OpenK.AllK
import Wide.FinOn
import KE.KLam
import HandS.ForMost
import HandS.Exc
import HandS.ExcOwn
import HandS.TryOnly
import HandS.WordsExc
import HandS.ExcInit
import HandS.ExcIs
import HandS.ExcField
import HandS.IsInst
import HandS.ClsMeth
import HandS.Defaults
import HandS.MakeKw
import HandS.Nested
import HandS.SetFor
import HandS.Flow
import HandS.ExcValue
import PyProof.ReprRoads
import PyProof.ReprBulk
import PyProof.StrLawsRepr
import PyProof.EqKinds
import HandS.Lambda
import HandS.EndBits
import HandS.EndTab
import HandS.DictComp
import HandS.Walk
import KE.GoesMore
import PyProof.EnumMake
import PyProof.Draws
import PySem.Challenge.RW_lastopen_k14_drawings_looked_at
import HandS.Conv
import HandS.Star
import HandS.SetKeys
import HandS.TupLen
import HandS.OwnEq
import HandS.StrMore
import HandS.Codes
import HandS.Style
import HandS.TupAny
import HandS.NoneIn
import HandS.Deep
import HandS.SortInts
import HandS.Words
import HandS.Strs
import HandS.Set
import HandS.More
import PyProof.NeKinds
import HandS.TryMany
import HandS.HotCalls
set_option Elab.async false
set_option linter.all false
set_option maxRecDepth 100000
set_option maxHeartbeats 4000000
/-! Errors of classes of one's own as values: made by place and by name, asked by isinstance, their fields read. -/
namespace PySem
namespace EK
open PySem.W PySem.Calls PyProof.Rows PySem.HandSPX
section
variable {M : Model} {prog : Program} {w : World} {A : Around} {E : Value → Shared → Prop} {R : Result → Shared → Prop} {h : Heap} {g : Array GenState} {d : Drawn} {t : Nat} {os : OsState}
variable {nm q : Str} {C N : Addr} {bs bm bmB : List Value} {hdct : Bool} {sn : List Str} {sub : List Value} {ab : Bool} {col : Option Bool} {dd : Option Addr} {k0 k1 k2 k3 k5 : Option Value} {B newId initId : String}
theorem check_new_kw (F : ExcBaseFacts B newId initId bmB) (hT : ∀ X : String, bm.contains (.type X) = bmB.contains (.type X)) {rest : List Value} {kw : List (Str × Value)} {Q : Unit → Shared → Prop}
    (hC : h.get? C = some (excClassObj nm q C N bs bm hdct sn sub ab col dd k0 k1 k2 k3 k5 newId)) (hq : Q () ⟨h, g, d, t, os⟩) : wpAny M A (checkBuiltinCall newId ⟨.ref C :: rest, kw⟩) Q E ⟨h, g, d, t, os⟩ := by
  have hcont : (Value.ref C :: bm).contains (.type B) = true := by rw [List.contains_cons, hT, F.hasB, Bool.or_true]
  have hstar := F.noStar
  simp only [checkBuiltinCall, F.newKind, F.newSplit, F.newRow]
  repeat (first | refine wpAny_loadPart_at hC ?_ | (refine wpAny_isSubtype_exc hC ?_; rw [hcont]) | refine wpAny_staticBase_exc hC ?_ | refine wpAny_madeBy_exc hC ?_ | simp only [bne_self_eq_false, Bool.false_eq_true, if_false] | wp_step)
  exact hq
theorem new_kw (F : ExcBaseFacts B newId initId bmB) (hT : ∀ X : String, bm.contains (.type X) = bmB.contains (.type X)) {rest : List Value} {kw : List (Str × Value)}
    (hC : h.get? C = some (excClassObj nm q C N bs bm hdct sn sub ab col dd k0 k1 k2 k3 k5 newId))
    (hq : R (.ok (.ret (.ref (h.objs.size + 1)))) ⟨(h.push { cls := .type "tuple", data := .seq rest.toArray }).push
      { cls := .ref C, data := .fields #[.ref h.objs.size, .none, .none, .none, .bool false, .none] }, g, d, t, os⟩) (hrest : rest.length ≤ sizeLine) :
    codeAny (model prog w) A (.builtin newId ⟨.ref C :: rest, kw⟩) R ⟨h, g, d, t, os⟩ := by
  have hends := F.ends
  have hcB : (Value.ref C :: bm).contains (.type B) = true := by rw [List.contains_cons, hT, F.hasB, Bool.or_true]
  have hcA : (Value.ref C :: bm).contains (.type "AttributeError") = false := by rw [List.contains_cons, hT, F.noAttr]; rfl
  have hcN : (Value.ref C :: bm).contains (.type "NameError") = false := by rw [List.contains_cons, hT, F.noName]; rfl
  refine codeAny_builtinAt F.entry ?_
  unfold Builtin.«BaseException.__new__»
  refine wpAt_bind ?_
  show wpAt _ _ _ (stack >>= _) _ _ _
  refine wpAt_bind (wpAt_stack fun p below => wpAt_of_wpAny ?_)
  wp_walk
  refine wpAt_of_wpAny ?_
  rw [F.owner]
  repeat (first | with_reducible refine wpAny_madeHere_exc F.canon hC ?_ | with_reducible refine wpAny_loadPart_at hC ?_ | (with_reducible refine wpAny_isSubtype_exc hC ?_; first | rw [hcB] | rw [hcA] | rw [hcN]) | wp_step)
  show R _ _
  rw [Heap.size_push]
  exact hq
theorem type_call_kw (F : ExcBaseFacts B newId initId bmB) (hT : ∀ X : String, bm.contains (.type X) = bmB.contains (.type X)) {rest : List Value} {kw : List (Str × Value)} {fI : Addr} {Q : Fin → Shared → Prop}
    (hC : h.get? C = some (excClassObj nm q C N bs bm hdct sn sub ab col dd k0 k1 k2 k3 k5 newId))
    (hi : W.Looks (model prog w) h (typeLookup (.ref C) "__init__") (some (.ref fI))) (hb : ∀ self, W.Looks (model prog w) h (bindSpecial (.ref fI) self) (.ref fI, [self])) (hrest : rest.length ≤ sizeLine)
    (hq : codeAny (model prog w) A (.call (.ref fI) ⟨.ref (h.objs.size + 1) :: rest, kw⟩)
      (fun r s' => match r with | .ok (.ret v) => v = .none ∧ Q (.done (.ret (.ref (h.objs.size + 1)))) s' | .ok _ => False | .error e => E e s')
      ⟨(h.push (W.kdv_tup rest)).push (excO C h.objs.size), g, d, t, os⟩) :
    wpAny (model prog w) A (Builtin.«type.__call__» ⟨.ref C :: rest, kw⟩) Q E ⟨h, g, d, t, os⟩ := by
  repeat (first | with_reducible refine wpAny_loadPart_at hC ?_ | with_reducible refine wpAny_madeBy_exc hC ?_ | wp_step)
  refine codeAny_call_builtin_code (Code.quiet_builtin _ F.quiet) (check_new_kw F hT hC ?_)
  refine new_kw F hT hC ?_ hrest
  show wpAny _ _ _ _ _ _
  have k : ∀ b o, h.get? b = some o → ((h.push (W.kdv_tup rest)).push (excO C h.objs.size)).get? b = some o := fun b o e => Heap.get?_push_of_some _ (Heap.get?_push_of_some _ e)
  have hC₁ := k _ _ hC
  have hget : ((h.push (W.kdv_tup rest)).push (excO C h.objs.size)).get? (h.objs.size + 1) = some (excO C h.objs.size) := by heap_get
  have hcC : (Value.ref C :: bm).contains (.ref C) = true := by simp
  have i1 := hi.keeps k
  have b1 := (hb (.ref (h.objs.size + 1))).keeps k
  unfold isInstance
  repeat (first | with_reducible refine wpAny_loadPart_at hget ?_ | (with_reducible refine wpAny_isSubtype_exc hC₁ ?_; rw [hcC]) | wp_step)
  show wpAny _ _ (typeLookup (.ref C) _) _ _ _
  refine i1.at ?_
  refine wpAny_holding (wpAny_bind (b1.at ?_))
  refine wpAny_bind (wpAny_call (codeAny_mono hq fun r s' z => ?_))
  rcases r with e | (v | _ | _ | _) <;> first | exact z | exact z.elim | skip
  obtain ⟨rfl, z⟩ := z
  first
    | exact wpAny_pure (wpAny_pure z)
    | (wp_walk; exact z)
theorem check_type_kw {rest : List Value} {kw : List (Str × Value)} {Q : Unit → Shared → Prop} (hC : h.get? C = some (excClassObj nm q C N bs bm hdct sn sub ab col dd k0 k1 k2 k3 k5 newId))
    (hq : Q () ⟨h, g, d, t, os⟩) : wpAny M A (checkBuiltinCall "type.__call__" ⟨.ref C :: rest, kw⟩) Q E ⟨h, g, d, t, os⟩ := by
  have f3 := tc_sub
  have hT : (⟨h, g, d, t, os⟩ : Shared).TypeIs (.ref C) "type" := ⟨_, hC, rfl⟩
  simp only [checkBuiltinCall, tc_kind, tc_split]
  repeat (any_goals (first | assumption | with_reducible refine wpAny_loadPart_at hC ?_ | with_reducible refine wpAny_onRaise ?_ | with_reducible refine wpAny_map ?_ | wp_step))
theorem call_kw (F : ExcBaseFacts B newId initId bmB) (hT : ∀ X : String, bm.contains (.type X) = bmB.contains (.type X)) {rest : List Value} {kw : List (Str × Value)} {fI : Addr}
    (hC : h.get? C = some (excClassObj nm q C N bs bm hdct sn sub ab col dd k0 k1 k2 k3 k5 newId))
    (hi : W.Looks (model prog w) h (typeLookup (.ref C) "__init__") (some (.ref fI))) (hb : ∀ self, W.Looks (model prog w) h (bindSpecial (.ref fI) self) (.ref fI, [self])) (hrest : rest.length ≤ sizeLine)
    (hq : codeAny (model prog w) (A.under (.builtin "type.__call__" ⟨.ref C :: rest, kw⟩)) (.call (.ref fI) ⟨.ref (h.objs.size + 1) :: rest, kw⟩) (W.InitBack (h.objs.size + 1) R)
      ⟨(h.push (W.kdv_tup rest)).push (excO C h.objs.size), g, d, t, os⟩) :
    codeAny (model prog w) A (.call (.ref C) ⟨rest, kw⟩) R ⟨h, g, d, t, os⟩ := by
  have f1 := tc_lookup
  have f2 := tc_bind (.ref C)
  have hTy : (⟨h, g, d, t, os⟩ : Shared).TypeIs (.ref C) "type" := ⟨_, hC, rfl⟩
  refine codeAny_of_tree ?_
  show wpAny _ _ (callAny (.ref C) _) _ _ _
  repeat (any_goals (first | assumption | with_reducible refine wpAny_loadPart_at hC ?_ | wp_step))
  refine ⟨rfl, ?_⟩
  refine codeAny_call_builtin_at (Code.quiet_builtin _ (by decide +kernel)) entry_typeCall (check_type_kw hC (type_call_kw F hT hC hi hb hrest ?_))
  refine codeAny_mono hq fun r s' z => ?_
  rcases r with e | (v | _ | _ | _) <;> exact z
end
end EK
end PySem
namespace PySem.W
open PySem PySem.Spec PySem.Calls PyProof.Rows
section
variable {prog : Program} {w : World} {A : Around} {E : Value → Shared → Prop} {s : Shared} {K : Frag} {x D : Addr} {ox : Obj} {od : Option Obj}
theorem find_dataN {C : Addr} {name : Str} {a g : Value} (hc : (clsIn K C).isSome = true) (ha : findIn K (.ref C) name = some (some a)) (hg : specialIn K a "__get__" = some (some g)) (ht : takesIn K a = some true) : findObj K C od name = some (.bind g a) := by
  obtain ⟨cd, hc⟩ := Option.isSome_iff_exists.mp hc
  unfold findObj
  rw [hc, Option.bind_some, ha, Option.bind_some]
  simp [hg, ht]
theorem kin_classEd {Q : Option Value → Shared → Prop} (hga : findIn K (.ref D) "__getattribute__" = some (some (.builtin "BaseException.__getattribute__"))) (hgt : findIn K (.ref D) "__getattr__" = some none) (hsub : subIn K (.ref D) (.type "BaseException") = some true)
    (hdct : hasDictIn K D = true) (ha : findIn K (.ref D) "__class__" = some (some (.builtin "object.__class__")))
    (hn : specialIn K (.builtin "object.__class__") "__get__" = some (some (.builtin "getset_descriptor.__get__"))) (htk : takesIn K (.builtin "object.__class__") = some true) (hm : mroIn K D (.type "object") = some true)
    (X : K.In s.heap) (I : InstAt s.heap x ox D od) (h : Q (some (.ref D)) { s with toks := s.toks + 1 }) : wpAny (model prog w) A (getAttr? (.ref x) "__class__") Q E s := by
  have hf : findObj K D od "__class__" = some (.bind (.builtin "getset_descriptor.__get__") (.builtin "object.__class__")) := find_dataN (by obtain ⟨cd, hc, _⟩ := any_some hdct; rw [hc]; rfl) ha hn htk
  obtain ⟨hp, g, d, t, os⟩ := s
  have L0 := I.type (M := model prog w)
  have L1 := looks_findIn (M := model prog w) X hga
  have L2 := looks_findIn (M := model prog w) X hgt
  have L3 := looks_find (M := model prog w) X I hf
  have sub : Looks (model prog w) hp (isInstance (.ref x) (.type "BaseException")) true := L0.andThen (looks_subIn X hsub)
  have hx0 : (false && onTheHeap (Value.builtin "BaseException.__getattribute__")) = false := rfl
  have hx2 : (Value.builtin "BaseException.__getattribute__" == Value.builtin "object.__getattribute__") = false := by decide +kernel
  have hx1 : (onTheHeap (Value.ref D) && Value.builtin "BaseException.__getattribute__" == Value.builtin "object.__getattribute__") = false := by rw [hx2]; rfl
  unfold getAttr? getAttrBy? getAttrBy
  refine wpAny_bind (wpAny_mkText (wpAny_bind (wpAny_attempt (wpAny_holding (wpAny_bind (L0.at (wpAny_bind (L1.at ?_))))))))
  show wpAny _ _ (if (onTheHeap (Value.ref D) && Value.builtin "BaseException.__getattribute__" == Value.builtin "object.__getattribute__") = true then _ else _) _ _ _
  rw [hx1, if_neg Bool.false_ne_true]
  unfold getAttrByItsOwn hookBefore
  refine wpAny_bind ?_
  rw [if_pos (show onTheHeap (Value.ref D) = true from rfl)]
  refine L2.at ?_
  refine wpAny_bind (wpAny_attempt (wpAny_holding ?_))
  unfold callGetattribute
  rw [hx0, if_neg Bool.false_ne_true]
  unfold boundAndCalled
  rw [PySem.F.excAttr_ValueError.ga.bind (.ref x)]
  refine wpAny_bind (wpAny_pure ?_)
  show wpAny _ _ (call (.builtin "BaseException.__getattribute__") [.ref x, .str "__class__" t]) _ _ _
  refine wpAny_call (codeAny_call_builtin PySem.F.excAttr_ValueError.ga.plain PySem.F.entry_bexc_ga ?_)
  refine @check_slot (model prog w) _ _ ⟨hp, g, d, t + 1, os⟩ "BaseException.__getattribute__" "BaseException" "__getattribute__" (.ref x) [.str "__class__" t] [] _ (by decide +kernel) (by decide +kernel) sub (PySem.F.args_bexc_ga (.ref x) (.str "__class__" t)) ?_
  unfold Builtin.«object.__getattribute__»
  refine wpAny_bind (wpAny_of_eq (a := ((Value.ref x : Value), [Value.str "__class__" t])) (by first | rfl | (simp only [slotArgs]; rfl)) ?_)
  refine wpAny_bind (wpAny_pure (wpAny_bind (L0.at (wpAny_bind (L3.at ?_)))))
  show wpAny _ _ (holding [Value.builtin "object.__class__"] (call (.builtin "getset_descriptor.__get__") [.builtin "object.__class__", .ref x, .ref D]) >>= ret) _ _ _
  refine wpAny_bind (wpAny_holding (wpAny_call (class_get (s := ⟨hp, g, d, t + 1, os⟩) (ox := ox) (od := od) X I hm ?_)))
  refine wpAny_pure ?_
  show wpAny _ _ (handedOut (.ref D)) _ _ _
  rw [handedOut_of (v := .ref D) rfl]
  first
    | exact wpAny_pure (wpAny_pure h)
    | exact wpAny_pure h
    | exact wpAny_pure (wpAny_bind (wpAny_pure (wpAny_pure h)))
theorem kitx_excd (hga : findIn K (.ref D) "__getattribute__" = some (some (.builtin "BaseException.__getattribute__"))) (hgt : findIn K (.ref D) "__getattr__" = some none) (hsub : subIn K (.ref D) (.type "BaseException") = some true) (hdct : hasDictIn K D = true) (ha : findIn K (.ref D) "__class__" = some (some (.builtin "object.__class__")))
    (hn : specialIn K (.builtin "object.__class__") "__get__" = some (some (.builtin "getset_descriptor.__get__"))) (htk : takesIn K (.builtin "object.__class__") = some true) (hm : mroIn K D (.type "object") = some true) :
    KitX K (.ref x) (.ref D) (fun h => ∃ ox od, InstAt h x ox D od) where
  ty := fun _ _ _ ⟨_, _, I⟩ => I.type
  it := fun _ _ X _ => by
    obtain ⟨cdD, hcD, _⟩ := any_some hdct
    unfold clsIn at hcD
    split at hcD
    · rename_i c' d' cd' sl' ho
      intro A' Q' E' s' k q
      unfold isType loadHead
      exact wpAny_bind (wpAny_loadPart (k _ _ (X _ _ ho)) (wpAny_pure q))
    · cases hcD
  ne := fun h tp dd its n sl X htp => by
    obtain ⟨cdD, hcD, _⟩ := any_some hdct
    refine Bool.eq_false_iff.mpr fun q => ?_
    have e : D = tp := Value.ref.inj (beq_iff_eq.mp q)
    subst e
    unfold clsIn at hcD
    split at hcD
    · rename_i c' d' cd' sl' ho
      have z := (X _ _ ho).symm.trans htp
      cases z
    · cases hcD
  ca := fun X ⟨_, _, I⟩ k => kin_classEd hga hgt hsub hdct ha hn htk hm X I k
end
end PySem.W

namespace EV
open PySem PySem.Spec PyProof.Rows L2
/-- an error of the class at C with the fields fs stands at a -/
def ErrAt (H : Hp) (a C : Addr) (fs : List (Str × V)) : Prop := (fs = [] ∧ H a = some (exo a C none)) ∨ ∃ dx, H a = some (exo a C (some dx)) ∧ H dx = some (exd dx fs)
theorem ErrAt.of_same {H H' : Hp} {a C : Addr} {fs : List (Str × V)} (e : ErrAt H a C fs) (k : ∀ b o, H b = some o → H' b = some o) : ErrAt H' a C fs := by
  rcases e with ⟨h1, h2⟩ | ⟨dx, h1, h2⟩
  · exact .inl ⟨h1, k _ _ h2⟩
  · exact .inr ⟨dx, k _ _ h1, k _ _ h2⟩
section
variable {X : Cx} {pins : List (Addr × Obj)} {σ : L2.St} {H : Hp} {s : Shared}
theorem ErrAt.inst (I : Inv X pins σ H s) {a C : Addr} {fs : List (Str × V)} (e : ErrAt H a C fs) : ∃ ox od, PySem.W.InstAt s.heap a ox C od ∧ ∀ f, RelO (fs.lookup f) ((od.bind fun o => PySem.W.lookIn f o).join) := by
  rcases e with ⟨rfl, h⟩ | ⟨dx, h1, h2⟩
  · obtain ⟨t1, ho⟩ := exo_at I.hok h
    exact ⟨_, none, ⟨ho, rfl, rfl, trivial⟩, fun f => trivial⟩
  · obtain ⟨t1, ho⟩ := exo_at I.hok h1
    obtain ⟨mA, hns, hr⟩ := exd_at I.hok h2
    obtain ⟨od, hod, hl⟩ := lookIn_ns hns
    refine ⟨_, some od, ⟨ho, rfl, rfl, hod⟩, fun f => ?_⟩
    show RelO (fs.lookup f) (PySem.W.lookIn f od).join
    rw [hl f]
    exact hr f
end
/-! ### the field of an error that is a value -/
def tEf (K : PySem.W.Frag) (f : Str) (te : TE) : TE := fun σ H Q => te σ H fun x H1 => ∃ (a C dx : Addr) (fs : List (Str × V)) (v : V), x = .ref a ∧ XfC K C ∧ PySem.W.findIn K (.ref C) f = some none ∧ H1 a = some (exo a C (some dx)) ∧ H1 dx = some (exd dx fs) ∧ fs.lookup f = some v ∧ Q v H1
theorem pe_ef {X : Cx} {e : Expr} {te : TE} {pos : Pos} {n : Str} (he : PE X e te) (hb : attributeBase e n X.env (eval e X.env) = eval e X.env := by rfl) : PE X (.Attribute e n pos) (tEf X.K n te) := by
  refine ⟨fun pins s σ H Q I h => ?_⟩
  refine attr_of hb (thn (he.run pins s σ H _ I h) fun u s1 hh => ?_)
  obtain ⟨x, H1, I1, rx, a, C, dx, fs, v, ex, T, hno, h1, h2, l, q⟩ := hh
  subst ex
  obtain rfl : u = Value.ref a := rx
  obtain ⟨t1, ho⟩ := exo_at I1.hok h1
  obtain ⟨mA, hns, hr⟩ := exd_at I1.hok h2
  obtain ⟨od, hod, hl⟩ := lookIn_ns hns
  obtain ⟨u, hu, ru⟩ := RelO.some_of (v := v) (o := mA n) (by rw [← l]; exact hr n)
  have J : PySem.W.InstAt s1.heap a _ C (some od) := ⟨ho, rfl, rfl, hod⟩
  exact HandSPX.exc_get I1.kIn J T.ga T.gg T.exC (PySem.W.findObj_own T.hdC hno rfl (by rw [hl, hu])) (handed_of ru) ⟨v, H1, I1.tok _, ru, q⟩
/-! ### isinstance of it -/
def rIsX (K : PySem.W.Frag) : List V → Hp → VK → Prop := fun xs H Q => ∃ (a D : Addr) (fs : List (Str × V)) (c : V) (cv : Value) (b : Bool), xs = [.ref a, c] ∧ ErrAt H a D fs ∧ ClsV c cv ∧ ExcC K D ∧ PySem.W.kitOne K (.ref D) cv = some b ∧ Q (.bl b) H
theorem call_isX {X : Cx} : CallR X (.builtin "isinstance") (rIsX X.K) := by
  intro pins s σ H xs us Q I r h
  obtain ⟨a, D, fs, c, cv, b, rfl, ea, k, C, e, q⟩ := h
  obtain ⟨u1, u2, rfl, r1, r2⟩ := vals2 r
  have e2 := k.eq r2
  subst e2
  cases (show u1 = Value.ref a from r1)
  obtain ⟨ox, od, J, _⟩ := ea.inst I
  exact PySem.W.kia_one (PySem.W.kitx_excd C.hg C.hk C.hs C.hd C.ha C.hn C.ht C.hm) I.kIn ⟨_, _, J⟩ e (fun z => nomatch z) fun tk => ⟨.bl b, H, I.tok tk, rfl, q⟩
/-! ### made -/
section
variable {X : Cx} {CX : CXT} {k : Nat} {C fI : Addr} {fd : FuncData} {ps : List Str} {sp : Sp} {E : XK} {x : Str} {p pos : Pos} {e : Expr} {es : List Expr} {ta : TA}
theorem run_mkE {pins : List (Addr × Obj)} {σ : L2.St} {H : Hp} {s : Shared} {Q : VK} {us ws : List Value} {kw : List (Str × Value)} {zs : List V} (T : OexC X.K C) (iC : PySem.W.findIn X.K (.ref C) "__init__" = some (some (.ref fI))) (tI : PySem.W.typeIn X.K (.ref fI) = some (.type "function"))
    (F : FnOk X.prog X.w X.K X.mg X.base CX k fI fd ps sp) (hr : Room (k + 1) X.A) (hx : Passes CX X E) (I : Inv X pins σ H s) (hus : us.length ≤ 1000)
    (bt : ∀ (s' : Shared) (self : Value), X.K.In s'.heap → (self :: ws).length = ps.length → BindsTo s' fd ⟨self :: us, kw⟩ (ps.zip (self :: ws))) (r : Vals zs ws)
    (h : ∀ a, H a = none → sp (.ref a :: zs) (upd H a (exo a C none)) (fun v H2 => v = .non ∧ Q (.ref a) H2) E) :
    wpAny (model X.prog X.w) X.A (call (.ref C) us kw) (EP X pins σ Q) X.xe s := by
  obtain ⟨nm, q, N, bs, bm, sn, sub, ab, col, dd, k0, k1, k2, k3, k5, hC, hbm⟩ := T.cls
  obtain ⟨hp, g, dr, tk, os⟩ := s
  have hsz : hp.objs.size ≤ hp.objs.size + 1 := Nat.le_succ _
  have hn : H (hp.objs.size + 1) = none := I.hok.fresh hsz
  have hq := h (hp.objs.size + 1) hn
  have kk : ∀ b o, hp.get? b = some o → ((hp.push (PySem.W.kdv_tup us)).push (PySem.HandSPX.excO C hp.objs.size)).get? b = some o := fun b o e => Heap.get?_push_of_some _ (Heap.get?_push_of_some _ e)
  have hget : ((hp.push (PySem.W.kdv_tup us)).push (PySem.HandSPX.excO C hp.objs.size)).get? (hp.objs.size + 1) = some (PySem.HandSPX.excO C hp.objs.size) := by heap_get
  have I2 : Inv X pins σ (upd H (hp.objs.size + 1) (exo (hp.objs.size + 1) C none)) ⟨(hp.push (PySem.W.kdv_tup us)).push (PySem.HandSPX.excO C hp.objs.size), g, dr, tk, os⟩ :=
    I.laid (t' := tk) (a := hp.objs.size + 1) (o := exo (hp.objs.size + 1) C none) (h' := (hp.push (PySem.W.kdv_tup us)).push (PySem.HandSPX.excO C hp.objs.size)) kk hsz (exo_ok hget)
  have r2 : Vals (V.ref (hp.objs.size + 1) :: zs) (Value.ref (hp.objs.size + 1) :: ws) := .cons rfl r
  have hl : (Value.ref (hp.objs.size + 1) :: ws).length = ps.length := by
    have e := r2.length
    rw [F.len _ _ _ _ hq] at e
    exact e.symm
  have hus2 : us.length ≤ sizeLine := by
    rw [sizeLine_eq]
    omega
  refine wpAny_call (PySem.EK.call_kw PySem.F.excBase_ValueError (fun Y => PySem.HandSPX.refsVE_contains Y bm hbm) (I.kIn _ _ hC) (PySem.W.looks_findIn I.kIn iC) (fun self => PySem.W.bind_fn I.kIn self tI) hus2
    (codeAny_mono (F.run _ X.stack _ _ ⟨Value.ref (hp.objs.size + 1) :: us, kw⟩ (Value.ref (hp.objs.size + 1) :: ws) _ _ E (hr.make C us kw) (I2.env0.make C us kw) (bt _ _ I2.kIn hl) r2 hq) fun r s' hq' => ?_))
  cases r with
  | error er => exact hx pins σ _ _ er s' I2 hq'
  | ok fl =>
    cases fl with
    | ret u =>
      obtain ⟨v, H', I3, rv, ev, q3⟩ := I2.after hq'
      subst ev
      exact ⟨rv, ⟨V.ref (hp.objs.size + 1), H', I3, rfl, q3⟩⟩
    | next => exact False.elim hq'
    | brk => exact False.elim hq'
    | cont => exact False.elim hq'
/-- C(e, ..) and C(), the error as a value; C's own __init__ keeps sp -/
def tMkE (C : Addr) (sp : Sp) (E : XK) (ta : TA) : TE := fun σ H Q => ta σ H fun vs H1 => vs.length ≤ 1000 ∧ ∀ a, H1 a = none → sp (.ref a :: vs) (upd H1 a (exo a C none)) (fun v H2 => v = .non ∧ Q (.ref a) H2) E
/-- C(k = v, ..) -/
def tMkEk (C : Addr) (m : Nat) (sp : Sp) (E : XK) (gV : List V → List V) (tk : TA) : TE := fun σ H Q => tk σ H fun zs H1 => zs.length = m ∧ ∀ a, H1 a = none → sp (.ref a :: gV zs) (upd H1 a (exo a C none)) (fun v H2 => v = .non ∧ Q (.ref a) H2) E
theorem pe_mkE (T : OexC X.K C) (iC : PySem.W.findIn X.K (.ref C) "__init__" = some (some (.ref fI))) (tI : PySem.W.typeIn X.K (.ref fI) = some (.type "function")) (F : FnOk X.prog X.w X.K X.mg X.base CX k fI fd ps sp) (hr : Room (k + 1) X.A) (hb : Binds X.K fd ps []) (hx : Passes CX X E)
    (hg : Gl X x) (hm : X.mg x = some (.ref C)) (ha : PA X (e :: es) ta)
    (hdb : (x == ("__debug__" : Str)) = false := by decide) (he : starEach (e :: es) X.env = (false, eval e X.env) :: starEach es X.env := by rfl) (hpl : (backTo pos (starEach es X.env)).any (·.1) = false := by rfl) :
    PE X (.Call (.Name x p) (e :: es) [] pos) (tMkE C sp E ta) := by
  refine ⟨fun pins s σ H Q I h => ?_⟩
  refine wpAny_Call_Name_kw (ld_glob I hg hm ?_ hdb)
  refine PySem.W.callWith_K (h₀ := X.base) I.ok.mod.kin T.kC (thn (ha.run pos pins s σ H _ I h) fun us s1 ⟨vs, H1, I1, r1, hz, q1⟩ => ⟨I1.kIn, ?_⟩) he hpl
  refine run_mkE (ws := us) T iC tI F hr hx I1 (by show us.length ≤ 1000; rw [← r1.length]; exact hz) (fun s' self hk hl => ?_) r1 q1
  have z := hb s' (self :: us) hk (by rw [List.append_nil]; exact hl)
  rw [List.append_nil] at z
  exact z
theorem pe_mkE0 (T : OexC X.K C) (iC : PySem.W.findIn X.K (.ref C) "__init__" = some (some (.ref fI))) (tI : PySem.W.typeIn X.K (.ref fI) = some (.type "function")) (F : FnOk X.prog X.w X.K X.mg X.base CX k fI fd ps sp) (hr : Room (k + 1) X.A) (hb : Binds X.K fd ps []) (hx : Passes CX X E)
    (hg : Gl X x) (hm : X.mg x = some (.ref C)) (hdb : (x == ("__debug__" : Str)) = false := by decide) :
    PE X (.Call (.Name x p) [] [] pos) (tMkE C sp E tNil) := by
  refine ⟨fun pins s σ H Q I h => ?_⟩
  refine wpAny_Call_Name_kw (ld_glob I hg hm ?_ hdb)
  obtain ⟨_, h⟩ := (show ([] : List V).length ≤ 1000 ∧ _ from h)
  refine PySem.W.callWith_K0 I.kIn T.kC (run_mkE (us := []) (ws := []) (kw := []) T iC tI F hr hx I (by decide) (fun s' self hk hl => ?_) .nil h)
  have z := hb s' [self] hk hl
  exact z
theorem pe_mkEk {ks : List Str} {g : List Value → List Value} {gV : List V → List V} {kws : List Keyword} {tk : TA} (T : OexC X.K C) (iC : PySem.W.findIn X.K (.ref C) "__init__" = some (some (.ref fI))) (tI : PySem.W.typeIn X.K (.ref fI) = some (.type "function"))
    (F : FnOk X.prog X.w X.K X.mg X.base CX k fI fd ps sp) (hr : Room (k + 1) X.A) (hx : Passes CX X E)
    (hb : ∀ (s' : Shared) (self : Value) (ws : List Value), ws.length = ks.length → BindsTo s' fd ⟨[self], ks.zip ws⟩ (ps.zip (self :: g ws))) (hrel : ∀ {zs : List V} {ws : List Value}, Vals zs ws → zs.length = ks.length → Vals (gV zs) (g ws))
    (hg : Gl X x) (hm : X.mg x = some (.ref C)) (hkw : PK X kws tk)
    (hall : (backToKw pos (keywordEach kws X.env)).all (·.1.isSome) = true := by rfl) (hks : (backToKw pos (keywordEach kws X.env)).filterMap (·.1) = ks := by rfl) (hdb : (x == ("__debug__" : Str)) = false := by decide)
    (hpl : ((backTo pos (starEach [] X.env)).any (·.1) || (backToKw pos (keywordEach kws X.env)).any (·.1.isNone)) = false := by rfl) :
    PE X (.Call (.Name x p) [] kws pos) (tMkEk C ks.length sp E gV tk) := by
  refine ⟨fun pins s σ H Q I h => ?_⟩
  refine wpAny_Call_Name_kw (ld_glob I hg hm ?_ hdb)
  refine PySem.W.callWith_KW0 (h₀ := X.base) I.ok.mod.kin T.kC hall ?_ hpl
  refine thn (hkw.run pos pins s σ H _ I h) fun ws s2 ⟨zs, H2, I2, rz, l2, q2⟩ => ⟨I2.kIn, ?_⟩
  rw [hks]
  exact run_mkE (us := []) T iC tI F hr hx I2 (by decide) (fun s' self hk hl => hb s' self ws (by rw [← rz.length]; exact l2)) (hrel rz l2) q2
/-- an error class without an __init__ of its own, made with nothing -/
theorem pe_exc0 {bmB : List Value} {B newId initId : String} (F : ExcBaseFacts B newId initId bmB) (q : PySem.W.excIn X.K C bmB newId = true) (hm : X.mg x = some (.ref C)) (kC : PySem.W.keepIn X.K (.ref C) = true) (hg : Gl X x) (hdb : (x == ("__debug__" : Str)) = false := by decide) :
    PE X (.Call (.Name x p) [] [] pos) (fun σ H Q => ∀ a, H a = none → Q (.ref a) (upd H a (exo a C none))) := by
  refine ⟨fun pins s σ H Q I h => ?_⟩
  refine wpAny_Call_Name_kw (ld_glob I hg hm ?_ hdb)
  refine PySem.W.callWith_K0 I.kIn kC ?_
  obtain ⟨bm, N, nm, qn, bs, hdct, sn, sub, ab, col, dd, k0, k1, k2, k3, k5, mN, hC, hN, hni, T⟩ := exc_obj I.kIn q
  refine wpAny_call_exc_subT F T hC hN hni (fun h' a hm => ?_) (by show 0 ≤ sizeLine; exact Nat.zero_le _)
  have hn : H a = none := I.hok.gone hm.new
  obtain ⟨t, ht, _, _⟩ := hm.there
  exact ⟨.ref a, upd H a (exo a C none), I.laidN hm.keeps hm.new hn (exo_ok ht), rfl, h a hn⟩
/-- Base.__init__(self, ..), Base an own error class without an __init__ of its own -/
theorem pe_binit {pl : Sem Bool} {O : Addr} {p1 p2 : Pos} (r : ClX.CRead X.K O (.type "type")) (vV : PySem.W.findCls X.K (.ref O) (.type "type") "__init__" = some (.val (.builtin "ValueError.__init__"))) (hg : Gl X x) (hm : X.mg x = some (.ref O)) (ha : PA X (e :: es) ta)
    (hdb : (x == ("__debug__" : Str)) = false := by decide)
    (hc : eval (.Call (.Attribute (.Name x p1) "__init__" p2) (e :: es) [] pos) X.env = (do
      let ov ← eval (.Name x p1) X.env
      standAt p2.atName
      let (f, first) ← holding [ov] (getMethod ov "__init__" pl)
      callWith pos f first (backTo pos (starEach (e :: es) X.env)) (backToKw pos (keywordEach [] X.env))) := by rfl)
    (he : starEach (e :: es) X.env = (false, eval e X.env) :: starEach es X.env := by rfl) (hpl : (backTo pos (starEach es X.env)).any (·.1) = false := by rfl) :
    PE X (.Call (.Attribute (.Name x p1) "__init__" p2) (e :: es) [] pos) (tVeI X.K ta) := by
  refine ⟨fun pins s σ H Q I h => ?_⟩
  refine PySem.W.methodCall_KW (ld_glob I hg hm ?_ hdb) hc
  refine PySem.W.method_cls I.kIn r.ga (PySem.W.cls_value I.kIn r.rd vV (by decide +kernel) ?_)
  show wpAny _ _ (callWith pos (Value.builtin "ValueError.__init__") [] (backTo pos (starEach (e :: es) X.env)) []) _ _ _
  refine PyProof.Rows.callWith_method1 (thn (ha.run pos pins _ σ H _ (I.tok _) h) fun us s1 ⟨vs, H1, I1, r1, a, C, ws, ev, hl, T, ea, q⟩ => ?_) he hpl
  subst ev
  cases r1 with
  | @cons _ u0 _ ur ra rw' =>
    obtain rfl : u0 = Value.ref a := ra
    have hlen : ur.length ≤ sizeLine := by
      rw [← Paired.length rw', sizeLine_eq]
      omega
    exact oinit_ok T I1 ea hlen fun s' J => ⟨.non, H1, J, rfl, q⟩
end
end EV
namespace EV
open PySem PySem.Spec PyProof.Rows L2
/-! ### data with dicts, to be shown -/
def keyD : Key → PyData
  | .inl i => .int i
  | .inr x => .str x
mutual
inductive Dq (K : PySem.W.Frag) (H : Hp) : V → PyData → Prop
  | non : Dq K H .non .none
  | bl (b : Bool) : Dq K H (.bl b) (.bool b)
  | int (i : Int) : Dq K H (.int i) (.int i)
  | str (x : Str) : Dq K H (.str x) (.str x)
  | lst {a : Addr} {xs : List V} {ds : List PyData} : SqL K H a xs → a ≠ sysModules → DqAll K H xs ds → Dq K H (.ref a) (.list ds)
  | tup {a : Addr} {xs : List V} {ds : List PyData} : SqT K H a xs → DqAll K H xs ds → Dq K H (.ref a) (.tuple ds)
  | dct {a : Addr} {kvs : List (Key × V)} {ds : List PyData} : H a = some (.dK kvs) → DqAll K H (kvs.map (·.2)) ds → Dq K H (.ref a) (.dict ((kvs.map fun p => keyD p.1).zip ds))
inductive DqAll (K : PySem.W.Frag) (H : Hp) : List V → List PyData → Prop
  | nil : DqAll K H [] []
  | cons {v : V} {vs : List V} {d : PyData} {ds : List PyData} : Dq K H v d → DqAll K H vs ds → DqAll K H (v :: vs) (d :: ds)
end
theorem DqAll.len {K : PySem.W.Frag} {H : Hp} : ∀ {vs : List V} {ds : List PyData}, DqAll K H vs ds → vs.length = ds.length
  | _, _, .nil => rfl
  | _, _, .cons _ t => congrArg Nat.succ (DqAll.len t)
section
variable {X : Cx} {pins : List (Addr × Obj)} {σ : L2.St} {H : Hp} {s : Shared}
theorem keys_read {h : Heap} : ∀ {es : List DictEntry} {vs : List (Key × Value)}, Pairs (mixKind X.prog X.w) es vs → ReadsAll h (es.map (·.key)) (vs.map fun p => keyD p.1) []
  | _, _, .nil => .nil
  | _, _, .cons (e := e) (kv := kv) h1 h2 t => by
    have r := keys_read (h := h) t
    have one : Reads h e.key (keyD kv.1) [] := by
      rcases keyIs_shape (show keyIs kv.1 e.key = true from h1) with ⟨i, tk, e1, e2⟩ | ⟨y, tk, e1, e2⟩
      · rw [e1, e2]
        exact .int i tk
      · rw [e1, e2]
        exact .str y tk
    exact .cons one r
theorem vals_are : ∀ {es : List DictEntry} {vs : List (Key × Value)}, Pairs (mixKind X.prog X.w) es vs → es.map (·.val) = vs.map (·.2)
  | _, _, .nil => rfl
  | _, _, .cons h1 h2 t => by
    rw [List.map_cons, List.map_cons, h2, vals_are t]
theorem kv_vals : ∀ {kvs : List (Key × V)} {vs : List (Key × Value)}, KV kvs vs → Vals (kvs.map (·.2)) (vs.map (·.2))
  | _, _, .nil => .nil
  | _, _, .cons r t => .cons r.2 (kv_vals t)
theorem kv_keys : ∀ {kvs : List (Key × V)} {vs : List (Key × Value)}, KV kvs vs → kvs.map (fun p => keyD p.1) = vs.map (fun p => keyD p.1)
  | _, _, .nil => rfl
  | _, _, .cons r t => by rw [List.map_cons, List.map_cons, r.1, kv_keys t]
theorem zip_fst {α β : Type} : ∀ {l : List α} {m : List β}, l.length = m.length → (l.zip m).map (·.1) = l
  | [], [], _ => rfl
  | a :: l, b :: m, h => by rw [List.zip_cons_cons, List.map_cons, zip_fst (Nat.succ.inj h)]
theorem zip_snd {α β : Type} : ∀ {l : List α} {m : List β}, l.length = m.length → (l.zip m).map (·.2) = m
  | [], [], _ => rfl
  | a :: l, b :: m, h => by rw [List.zip_cons_cons, List.map_cons, zip_snd (Nat.succ.inj h)]
mutual
theorem Dq.reads (I : Inv X pins σ H s) : ∀ {v : V} {d : PyData} {u : Value}, Dq X.K H v d → RelV v u → ∃ as, Reads s.heap u d as ∧ sysModules ∉ as
  | _, _, _, .non, r => by cases r; exact ⟨_, .none, by simp⟩
  | _, _, _, .bl b, r => by cases r; exact ⟨_, .bool b, by simp⟩
  | _, _, _, .int i, r => by obtain ⟨t, rfl⟩ := r; exact ⟨_, .int i t, by simp⟩
  | _, _, _, .str x, r => by obtain ⟨t, rfl⟩ := r; exact ⟨_, .str x t, by simp⟩
  | _, _, _, .lst hs ne ha, r => by
    cases r
    obtain ⟨its, rv, ⟨o, n, ho, hc, _, hd⟩, _⟩ := I.list hs
    obtain ⟨as, hr, hn⟩ := DqAll.reads I ha rv
    refine ⟨_, Reads.list ho hc hd hr, fun z => ?_⟩
    rcases List.mem_cons.mp z with e | e
    · exact ne e.symm
    · exact hn e
  | _, _, _, .tup hs ha, r => by
    cases r
    obtain ⟨its, rv, ⟨o, ho, hc, n, hd⟩, _⟩ := I.tuple hs
    obtain ⟨as, hr, hn⟩ := DqAll.reads I ha rv
    exact ⟨_, Reads.tuple ho hc hd hr, hn⟩
  | _, _, _, .dct (a := a) (kvs := kvs) (ds := ds) he ha, r => by
    cases r
    obtain ⟨_, hsm, vs, kv, o, es, ep, ho, hx, hd, _, hp, _⟩ := (show ObjOk X.prog X.w H s.heap a (.dK kvs) from I.hok a _ he)
    obtain ⟨as, hr, hn⟩ := DqAll.reads I ha (kv_vals kv)
    have hl : (kvs.map fun p => keyD p.1).length = ds.length := by rw [List.length_map, ← ha.len, List.length_map]
    have hk := keys_read (h := s.heap) hp
    refine ⟨_, Reads.dict (as := []) (bs := as) ho hx.1 hd ?_ ?_, fun z => ?_⟩
    · rw [zip_fst hl, kv_keys kv]
      exact hk
    · rw [zip_snd hl, vals_are hp]
      exact hr
    · rcases List.mem_cons.mp z with e | e
      · exact (beq_eq_false_iff_ne.mp hsm) e.symm
      · exact hn e
theorem DqAll.reads (I : Inv X pins σ H s) : ∀ {vs : List V} {ds : List PyData} {us : List Value}, DqAll X.K H vs ds → Vals vs us → ∃ as, ReadsAll s.heap us ds as ∧ sysModules ∉ as
  | _, _, _, .nil, r => by cases r; exact ⟨_, .nil, by simp⟩
  | _, _, _, .cons h1 h2, r => by
    cases r with
    | cons r1 r2 =>
      obtain ⟨as, q1, n1⟩ := Dq.reads I h1 r1
      obtain ⟨bs, q2, n2⟩ := DqAll.reads I h2 r2
      exact ⟨_, .cons q1 q2, fun z => (List.mem_append.mp z).elim n1 n2⟩
end
end
theorem sqT_same {K : PySem.W.Frag} {H H' : Hp} (k : ∀ b o, H b = some o → H' b = some o) {a : Addr} {xs : List V} (h : SqT K H a xs) : SqT K H' a xs := by
  rcases h with (h | ⟨o, h⟩) | h
  · exact .inl (.inl (k _ _ h))
  · exact .inl (.inr ⟨o, k _ _ h⟩)
  · exact .inr h
mutual
theorem Dq.same {K : PySem.W.Frag} {H H' : Hp} (k : ∀ b o, H b = some o → H' b = some o) : ∀ {v : V} {d : PyData}, Dq K H v d → Dq K H' v d
  | _, _, .non => .non
  | _, _, .bl b => .bl b
  | _, _, .int i => .int i
  | _, _, .str x => .str x
  | _, _, .lst hs ne ha => .lst (Same.seq k hs) ne (DqAll.same k ha)
  | _, _, .tup hs ha => .tup (sqT_same k hs) (DqAll.same k ha)
  | _, _, .dct he ha => .dct (k _ _ he) (DqAll.same k ha)
theorem DqAll.same {K : PySem.W.Frag} {H H' : Hp} (k : ∀ b o, H b = some o → H' b = some o) : ∀ {vs : List V} {ds : List PyData}, DqAll K H vs ds → DqAll K H' vs ds
  | _, _, .nil => .nil
  | _, _, .cons h t => .cons (Dq.same k h) (DqAll.same k t)
end
/-! ### repr -/
def rRepr (K : PySem.W.Frag) : List V → Hp → VK → Prop := fun xs H Q => ∃ (x : V) (d : PyData), xs = [x] ∧ Dq K H x d ∧ d.showable = true ∧ d.shown.length ≤ sizeLine ∧ d.depth ≤ 60 ∧ Q (.str d.shown) H
theorem call_reprD {X : Cx} (hg : X.A.guards = some []) (hu : X.A.units + 64 < cLine) : CallR X (.builtin "repr") (rRepr X.K) := by
  intro pins s σ H xs us Q I r h
  obtain ⟨x, d, rfl, hd, hs, hz, hdp, q⟩ := h
  obtain ⟨u, rfl, ru⟩ := r.one
  cases hd with
  | non =>
    cases ru
    exact PySem.P.repr_of_none ⟨.str _, H, I.tok _, ⟨_, rfl⟩, q⟩
  | bl b =>
    cases ru
    refine PySem.P.repr_of_bool ⟨.str _, H, I.tok _, ⟨_, rfl⟩, ?_⟩
    cases b <;> exact q
  | int i =>
    obtain ⟨t, rfl⟩ := ru
    exact PySem.P.repr_of_int (by simpa [PyData.showable] using hs) ⟨.str _, H, I.tok _, ⟨_, rfl⟩, q⟩
  | str y =>
    obtain ⟨t, rfl⟩ := ru
    exact PySem.P.repr_of_str ⟨.str _, H, I.tok _, ⟨_, rfl⟩, q⟩ hz
  | lst h1 h2 h3 =>
    obtain ⟨as, hr, hn⟩ := Dq.reads I (.lst h1 h2 h3) ru
    cases ru
    exact repr_of_reads' hr hs (fun _ => hn) hg (by omega) (fun _ _ e => e) (fun h' u tk k => ⟨.str _, H, I.kept k, ⟨u, rfl⟩, q⟩) hz
  | tup h1 h2 =>
    obtain ⟨as, hr, hn⟩ := Dq.reads I (.tup h1 h2) ru
    cases ru
    exact repr_of_reads' hr hs (fun _ => hn) hg (by omega) (fun _ _ e => e) (fun h' u tk k => ⟨.str _, H, I.kept k, ⟨u, rfl⟩, q⟩) hz
  | dct h1 h2 =>
    obtain ⟨as, hr, hn⟩ := Dq.reads I (.dct h1 h2) ru
    cases ru
    exact repr_of_reads' hr hs (fun _ => hn) hg (by omega) (fun _ _ e => e) (fun h' u tk k => ⟨.str _, H, I.kept k, ⟨u, rfl⟩, q⟩) hz
/-! ### a list display: its place is told to be a new one -/
def tLstB (t : TA) : TE := fun σ H Q => t σ H fun xs H1 => xs.length ≤ sizeLine ∧ ∀ p, H1 p = none → p ≠ sysModules → Q (.ref p) (upd H1 p (.lst xs))
theorem pe_lstB {X : Cx} {es : List Expr} {t : TA} {pos : Pos} (h : PA X es t) : PE X (.List es pos) (tLstB t) := ⟨fun pins s σ H Q I hq =>
  wpAny_List_spliced (thn (h.run pos pins s σ H _ I hq) fun us s1 ⟨xs, H1, I1, r, z, q⟩ => ⟨r.length ▸ z, .ref s1.heap.objs.size, upd H1 s1.heap.objs.size (.lst xs),
    I1.laid (t' := s1.toks) (fun _ _ e => Heap.get?_push_of_some _ e) (Nat.le_refl _) ⟨z, us, 0, r, Heap.get?_push_size _ rfl⟩, rfl, q _ (I1.hok.fresh (Nat.le_refl _)) (Nat.ne_of_gt I1.big)⟩)⟩
/-! ### xs.count(True), xs a list of truth values -/
def isTrueV : Value → Bool
  | .bool b => b
  | _ => false
def rCntT (K : PySem.W.Frag) : V → List V → Hp → VK → Prop := fun x xs H Q => ∃ (p : Addr) (bs : List Bool), x = .ref p ∧ xs = [.bl true] ∧ SqL K H p (bs.map V.bl) ∧ Q (.int (bs.countP id : Nat)) H
theorem true_count : ∀ {bs : List Bool} {us : List Value}, Vals (bs.map V.bl) us → us.countP isTrueV = bs.countP id ∧ ∀ y ∈ us, ∃ b, y = .bool b
  | [], _, r => by cases r; exact ⟨rfl, fun _ h => nomatch h⟩
  | b :: bs, _, r => by
    cases r with
    | cons r1 r2 =>
      cases r1
      obtain ⟨h1, h2⟩ := true_count r2
      refine ⟨?_, fun y hy => ?_⟩
      · rw [List.countP_cons, List.countP_cons, h1] <;> rfl
      · rcases List.mem_cons.mp hy with e | e
        · exact ⟨b, e⟩
        · exact h2 y e
theorem mt_countT {X : Cx} : MtR X "list.count" (rCntT X.K) := by
  intro pins s σ H x xs v us Q I rx rxs h
  obtain ⟨p, bs, rfl, rfl, hs, q⟩ := h
  cases rx
  obtain ⟨u, rfl, ru⟩ := rxs.one
  cases ru
  obtain ⟨its, rv, ⟨⟨cls, dd, data, sl⟩, n, ho, hc, hdn, hd⟩, hlen⟩ := I.list hs
  simp only at hc hd
  subst hc hd
  obtain ⟨ec, eb⟩ := true_count rv
  refine call_meets PySem.F.slot_list_count ⟨_, ho, rfl⟩ PySem.F.entry_list_count (PySem.F.args_list_count_2 _ _)
    (SeqAt.list_countAt p its.toArray n dd sl (.bool true) isTrueV) ⟨ho, fun y hy => ?_, .int (bs.countP id : Nat), H, I.tok _, ⟨s.toks, ?_⟩, q⟩
  · obtain ⟨b, rfl⟩ := eb y (by simpa using hy)
    have z := SeqAt.EqAt.bool_bool (A := X.A.in1) (s := s) b true
    rw [show (b == true) = isTrueV (.bool b) by cases b <;> rfl] at z
    exact z
  · have e3 : its.toArray.toList.countP isTrueV = bs.countP id := ec
    show Value.int ((its.toArray.toList.countP isTrueV : Nat) : Int) s.toks = _
    rw [e3]
end EV
namespace EV
open PySem PySem.Spec PyProof.Rows L2 LamX NdefX
/-! ### a lambda without captured names, as a value -/
def LamO (f : Addr) (F : NF) (e : Expr) : HO := .ext fun h => ∃ (od : Option Addr) (sl : Array (Option Value)) (pm ctv : Value), h.get? f = some (⟨.type "function", od, .func (PySem.W.kla_fn F.name F.qual F.params e F.scope F.cl pm (.ref F.c) ctv), sl⟩ : Obj)
theorem lamO_at {P : Program} {w : World} {H : Hp} {h : Heap} {f : Addr} {F : NF} {e : Expr} (hok : HOk P w H h) (x : H f = some (LamO f F e)) : ∃ (od : Option Addr) (sl : Array (Option Value)) (pm ctv : Value), h.get? f = some (⟨.type "function", od, .func (PySem.W.kla_fn F.name F.qual F.params e F.scope F.cl pm (.ref F.c) ctv), sl⟩ : Obj) := (hok f _ x).1
theorem lamO_ne {f : Addr} {F : NF} {e : Expr} (ps : Array Value) : LamO f F e ≠ .tbl ps := fun z => by
  unfold LamO at z
  cases z
section
variable {X : Cx} {pins : List (Addr × Obj)} {σ : L2.St} {H : Hp} {s : Shared}
theorem inv_lam {F : NF} {e : Expr} {h' : Heap} {t' : Nat} {pm ctv : Value} (I : Inv X pins σ H { s with heap := h', toks := t' }) :
    Inv X pins σ (upd H h'.objs.size (LamO h'.objs.size F e)) { s with heap := h'.push ({ cls := .type "function", data := .func (PySem.W.kla_fn F.name F.qual F.params e F.scope F.cl pm (.ref F.c) ctv) } : Obj), toks := t' } := by
  have at_ : (h'.push ({ cls := .type "function", data := .func (PySem.W.kla_fn F.name F.qual F.params e F.scope F.cl pm (.ref F.c) ctv) } : Obj)).get? h'.objs.size = some ({ cls := .type "function", data := .func (PySem.W.kla_fn F.name F.qual F.params e F.scope F.cl pm (.ref F.c) ctv) } : Obj) := Heap.get?_push_size _ rfl
  exact I.laid (a := h'.objs.size) (o := LamO h'.objs.size F e) (t' := t') (fun _ _ z => Heap.get?_push_of_some _ z) (Nat.le_refl _) ⟨⟨_, _, pm, ctv, at_⟩, ⟨_, at_⟩, fun _ _ ⟨od, sl, p, t, z⟩ st => ⟨od, sl, p, t, st _ z⟩⟩
/-- its making: the code object is new, or found in the table -/
theorem lam_new {T : List (Addr × Str)} {c P : Addr} {params : Arguments} {body : Expr} {scope : Scope} {pos : Pos} {E : Value → Shared → Prop} {Q : Value → Shared → Prop} (I : Inv X pins σ H s) (TB : TabB X.base X.mg c P) (hcode : X.env.code = .ref c)
    (hm : (P, X.env.qual ++ "<lambda>") ∈ T) (hu : ∀ p ∈ T, p.1 = P → p.2 = X.env.qual ++ "<lambda>") (hT : Tabs T H) (hdef : defaultsOf params X.env = ([], [])) (hfree : ∀ y ∈ scope.names, y.2 = .free → ∃ c, X.env.cells.lookup y.1 = some c) (hcl : cloFrom X.env.cells scope.names [] = [])
    (h : ∀ (f c' : Addr) (H1 : Hp) (s' : Shared), Inv X pins σ H1 s' → ExtN H H1 → Tabs T H1 → H f = none → H1 f = some (LamO f ⟨"<lambda>", X.env.qual ++ "<lambda>", params, [], scope, [], c'⟩ body) → H1 c' = some (CodeO c' (X.env.qual ++ "<lambda>")) → Q (.ref f) s') :
    wpAny (model X.prog X.w) X.A (eval (.Lambda params body scope pos) X.env) Q E s := by
  obtain ⟨ps, hP, ht, ha⟩ := hT _ hm
  have bP := TB.bm.keeps I.bk
  have hP' : s.heap.get? P = some { cls := .none, data := .fields ps } := I.hok P _ hP
  have clo := closure_ok (env := X.env) hfree
  rw [hcl] at clo
  refine PySem.W.kla_eval hdef ?_
  cases hc : codeAmong pos ps.toList with
  | some cv =>
    obtain ⟨c', e, hco⟩ := ha pos cv hc
    subst e
    refine PySem.W.kla_makeFunctionHit (mg := X.mg) (c := c) (P := P) (ps := ps) clo I.ok.glob (I.mod.glob.keeps I.bk) hcode (TB.code.keeps I.bk) hP' ht hc bP fun ctv h' tk hx hsz => ?_
    have J : Inv X pins σ H { s with heap := h', toks := tk } := I.kept hx
    have nf := J.hok.fresh (Nat.le_refl h'.objs.size)
    exact h h'.objs.size c' _ _ (inv_lam (F := ⟨"<lambda>", X.env.qual ++ "<lambda>", params, [], scope, [], c'⟩) J) (fun b o e _ => (upd_ne (ne_of_none e nf)).trans e) (fun p hp => (hT p hp).ext fun b o e => (upd_ne (ne_of_none e nf)).trans e) nf upd_same ((upd_ne (ne_of_none hco nf)).trans hco)
  | none =>
    refine PySem.W.kla_makeFunction (mg := X.mg) (c := c) (P := P) (ps := ps) clo I.ok.glob (I.mod.glob.keeps I.bk) hcode (TB.code.keeps I.bk) hP' ht hc TB.gP bP fun c' ctv h' tk hx hge hlt hrec htb => ?_
    obtain ⟨c2, oc, vs, t, e2, hoc, hd, hv⟩ := hrec
    cases e2
    have nC : H c' = none := I.hok.fresh hge
    have J := inv_table (t' := tk) (more := #[rawInt pos.line, rawInt pos.col, .ref c']) (h' := h') I hP (fun b o hb e => hx b o hb e) htb hge ⟨oc, vs, t, hoc, hd, hv⟩
    have grow : ExtN H (upd (upd H P (.tbl (ps ++ #[rawInt pos.line, rawInt pos.col, .ref c']))) c' (CodeO c' (X.env.qual ++ "<lambda>"))) := fun b o e n => by
      rw [upd_ne (ne_of_none e nC), upd_ne fun z => n ps (Option.some.inj (e.symm.trans (by rw [z]; exact hP)))]
      exact e
    have eL : (ps ++ #[rawInt pos.line, rawInt pos.col, .ref c']).toList = ps.toList ++ [rawInt pos.line, rawInt pos.col, .ref c'] := by simp
    have T1 : Tabs T (upd (upd H P (.tbl (ps ++ #[rawInt pos.line, rawInt pos.col, .ref c']))) c' (CodeO c' (X.env.qual ++ "<lambda>"))) := fun p hp => by
      by_cases hb : p.1 = P
      · rw [hu p hp hb, hb]
        refine ⟨_, (upd_ne (ne_of_none hP nC)).trans upd_same, eL ▸ PySem.TriplesOk_snoc _ _ _ _ ht, fun p' cv hcv => ?_⟩
        rcases among_app _ ht (eL ▸ hcv) with z | z
        · obtain ⟨c0, e1, e2⟩ := ha p' cv z
          exact ⟨c0, e1, grow _ _ e2 codeO_ne⟩
        · exact ⟨c', z, upd_same⟩
      · obtain ⟨ps', a1, a2, a3⟩ := hT p hp
        refine ⟨ps', (upd_ne (ne_of_none a1 nC)).trans ((upd_ne hb).trans a1), a2, fun p' cv hcv => ?_⟩
        obtain ⟨c0, e1, e2⟩ := a3 p' cv hcv
        exact ⟨c0, e1, grow _ _ e2 codeO_ne⟩
    have nf := J.hok.fresh (Nat.le_refl h'.objs.size)
    refine h h'.objs.size c' _ _ (inv_lam (F := ⟨"<lambda>", X.env.qual ++ "<lambda>", params, [], scope, [], c'⟩) J) (fun b o e n => (upd_ne (ne_of_none (grow b o e n) nf)).trans (grow b o e n)) (fun p hp => (T1 p hp).ext fun b o e => (upd_ne (ne_of_none e nf)).trans e) ?_ upd_same
      ((upd_ne (Nat.ne_of_lt hlt)).trans upd_same)
    exact I.hok.fresh (Nat.le_trans hge (Nat.le_of_lt hlt))
end
def tLamV (T : List (Addr × Str)) (mk : Addr → NF) (e : Expr) : TE := fun σ H Q => Tabs T H ∧ ∀ (f c' : Addr) (H1 : Hp), ExtN H H1 → Tabs T H1 → H f = none → H1 f = some (LamO f (mk c') e) → H1 c' = some (CodeO c' (mk c').qual) → Q (.ref f) H1
theorem pe_lamV {X : Cx} {T : List (Addr × Str)} {c P : Addr} {params : Arguments} {body : Expr} {scope : Scope} {pos : Pos} (TB : TabB X.base X.mg c P) (hcode : X.env.code = .ref c) (hm : (P, X.env.qual ++ "<lambda>") ∈ T) (hu : ∀ p ∈ T, p.1 = P → p.2 = X.env.qual ++ "<lambda>")
    (hnf : ∀ y ∈ scope.names, y.2 ≠ .free) (hcl : cloFrom X.env.cells scope.names [] = []) (hdef : defaultsOf params X.env = ([], []) := by rfl) :
    PE X (.Lambda params body scope pos) (tLamV T (fun c' => ⟨"<lambda>", X.env.qual ++ "<lambda>", params, [], scope, [], c'⟩) body) :=
  ⟨fun pins s σ H Q I h => lam_new I TB hcode hm hu h.1 hdef (fun y hy e => (hnf y hy e).elim) hcl fun f c' H1 s' J eN T1 f0 f1 c1 => ⟨.ref f, H1, J, rfl, h.2 f c' H1 eN T1 f0 f1 c1⟩⟩
/-! ### its call -/
section
variable {X : Cx} {pins : List (Addr × Obj)} {σ : L2.St} {H : Hp} {s : Shared} {CX : CXT} {E : XK} {k : Nat} {x : Str} {F : NF} {body : Expr} {f : Addr} {Q : VK} {v : V} {u : Value} {tb : TE}
theorem run_lam (I : Inv X pins σ H s) (S : NScope [x] [x] [] F.scope) (hcl : F.cl = []) (hb : ∀ (pm ctv u : Value), bindArgs (PySem.W.kla_fn F.name F.qual F.params body F.scope F.cl pm (.ref F.c) ctv) ⟨[u], []⟩ = pure [(x, u)])
    (hf : H f = some (LamO f F body)) (hc : H F.c = some (CodeO F.c F.qual)) (hr : Room (k + 1) X.A) (hx : Passes CX X E) (r : RelV v u)
    (hbody : ∀ (A : Around) (outer : List Env) (s : Shared), PE (ncx CX X.prog X.w X.K X.mg X.base [x] F f A outer s H E) body tb) (q : tb [some v] H Q) :
    wpAny (model X.prog X.w) X.A (call (.ref f) [u]) (EP X pins σ Q) X.xe s := by
  obtain ⟨od, sl, pm, ctv, ho⟩ := lamO_at I.hok hf
  have cr := codeO_at I.hok hc
  have lim := I.nolimit
  have run : codeAny (model X.prog X.w) X.A (.call (.ref f) ⟨[u], []⟩) (CR CX X.stack X.prog X.w H s Q E) s := by
    refine PySem.W.kla_callFunE hr.depth ho rfl S.co S.gen rfl cr ?_
    rw [hb pm ctv u]
    refine wpAny_pure (wpAny_newFunctionEnv S.nocell (fun y hy => ?_) (fun h₁ hns hsb => ⟨lim.fresh _ hsb, ?_⟩) S.kind)
    · rcases List.mem_cons.mp hy with e | e
      · rw [e]
        exact S.par x List.mem_cons_self
      · cases e
    · show codeAny _ _ (.expr body (envF F f s.heap.objs.size)) _ _
      have kp : ∀ b o, s.heap.get? b = some o → h₁.get? b = some o := fun b o e => hsb.extBut b o (Nat.ne_of_lt (Heap.lt_size e)) (Heap.get?_push_of_some _ e)
      have C : CellsAt F.cl [] [] s.heap H := by
        rw [hcl]
        exact ⟨rfl, (fun _ _ e => nomatch e), (fun _ _ _ e => nomatch e), (fun _ _ e => nomatch e)⟩
      have J : Inv (ncx CX X.prog X.w X.K X.mg X.base [x] F f X.A X.stack s H E) [] (startF [x] [v] []) H { s with heap := h₁, toks := s.toks + 1 } := inv_startN (us := [u]) S hr.hd I.env0 rfl (.cons r .nil) C hns kp
      refine PySem.W.kla_codeExpr (wpAny_mono ((hbody X.A X.stack s).run [] _ (startF [x] [v] []) H Q J q) (fun w' s' hq => ?_) fun e s' hq => hq)
      obtain ⟨y, H', J', rv, q'⟩ := hq
      exact ⟨y, H', J'.os, J'.bare, J'.base, J'.hok, rv, q'⟩
  refine wpAny_call (codeAny_mono run fun r s' hq => ?_)
  cases r with
  | error e => exact hx pins σ H s e s' I hq
  | ok fl =>
    cases fl with
    | ret w' => exact I.after hq
    | next => exact False.elim hq
    | brk => exact False.elim hq
    | cont => exact False.elim hq
end
end EV
namespace EV
open PySem PySem.Spec PyProof.Rows L2 LamX NdefX
/-! ### the law's own call, with the surroundings told (nothing is being shown ahead of it) -/
/-- the abstract heap at the law's entry: the tables, and the script if the written part does not tell it -/
def entryH (cs : List (Addr × Addr)) (K : PySem.W.Frag) (a : Addr) (o : Obj) (xs : List V) : Hp := fun b =>
  if b ∈ cs.map (·.2) then some (.tbl #[]) else if b = a ∧ K.lookup a = none then some (.frz o (.lst xs)) else none
theorem entryH_cases {cs : List (Addr × Addr)} {K : PySem.W.Frag} {a : Addr} {o : Obj} {xs : List V} {b : Addr} {u : HO} (h : entryH cs K a o xs b = some u) : (b ∈ cs.map (·.2) ∧ u = .tbl #[]) ∨ (b ∉ cs.map (·.2) ∧ b = a ∧ K.lookup a = none ∧ u = .frz o (.lst xs)) := by
  unfold entryH at h
  by_cases h1 : b ∈ cs.map (·.2)
  · rw [if_pos h1] at h
    exact .inl ⟨h1, (Option.some.inj h).symm⟩
  · rw [if_neg h1] at h
    by_cases h2 : b = a ∧ K.lookup a = none
    · rw [if_pos h2] at h
      exact .inr ⟨h1, h2.1, h2.2, (Option.some.inj h).symm⟩
    · rw [if_neg h2] at h
      cases h
theorem law_callG {P : Program} {w : World} {K : PySem.W.Frag} {mg mb : Str → Option Value} {fa a : Addr} {cs : List (Addr × Addr)} {s₁ : Shared} {vs : List Value} {ns : List Int}
    (KX : K.In s₁.heap) (gl : s₁.heap.Ns mainGlobals mg) (bl : s₁.heap.Ns builtinsNs mb) (bb : ∀ x : Str, x ≠ "__name__" → mb x = bootBuiltins x) (lim : s₁.heap.NoLimit) (hg : s₁.gens = #[])
    (tb : ∀ p ∈ cs, s₁.heap.get? p.2 = some { cls := .none, data := .fields #[] }) (tk : ∀ p ∈ cs, K.lookup p.2 = none) (cd : ∀ p ∈ cs, PySem.W.CodeHd s₁.heap p.1 p.2)
    (bm : ∃ (bm : Addr) (ob : Obj), mg "__builtins__" = some (.ref bm) ∧ bm ≠ builtinsNs ∧ s₁.heap.get? bm = some ob ∧ ob.cls = .type "module" ∧ ob.dict = some builtinsNs ∧ ob.data = .plain)
    (ha : s₁.heap.get? a = some { cls := .type "list", data := .seq vs.toArray }) (hi : IntsAre vs ns) (hl : ns.length ≤ sizeLine)
    (F : ∀ (base : Heap) (H : Hp), K.In base → base.Ns mainGlobals mg → (∀ p ∈ cs, TabB base mg p.1 p.2) → (∀ p ∈ cs, H p.2 = some (.tbl #[])) → SqL K H a (ns.map V.int) → Env0 P w K mg base callerA [] s₁ H →
      codeAny (model P w) callerA (.call (.ref fa) ⟨[.ref a], []⟩) (CR CX0 [] P w H s₁ (fun v _ => v = .bl true) E0) s₁) :
    codeAny (model P w) callerA (.call (.ref fa) ⟨[.ref a], []⟩) (fun r s' => r = .ok (.ret (.bool true)) ∧ OldK s₁.heap s'.heap ∧ s'.os = s₁.os ∧ AllBare s'.gens) s₁ := by
  have rv := vals_ints hi
  have ln := hi.length
  have inT : ∀ {b : Addr}, b ∈ cs.map (·.2) → ∃ p ∈ cs, p.2 = b := fun hb => by
    obtain ⟨p, hp, e⟩ := List.mem_map.mp hb
    exact ⟨p, hp, e⟩
  have atT : ∀ {b : Addr}, b ∈ cs.map (·.2) → s₁.heap.get? b = some { cls := .none, data := .fields #[] } := fun hb => by
    obtain ⟨p, hp, rfl⟩ := inT hb
    exact tb p hp
  have aT : a ∉ cs.map (·.2) := fun z => by
    have q := ha.symm.trans (atT z)
    cases q
  generalize hH : entryH cs K a { cls := .type "list", data := .seq vs.toArray } (ns.map V.int) = H
  have split : ∀ {b : Addr} {u : HO}, H b = some u → (b ∈ cs.map (·.2) ∧ u = .tbl #[]) ∨ (b ∉ cs.map (·.2) ∧ b = a ∧ K.lookup a = none ∧ u = .frz { cls := .type "list", data := .seq vs.toArray } (.lst (ns.map V.int))) := fun e => entryH_cases (hH ▸ e)
  have tabs : ∀ p ∈ cs, H p.2 = some (.tbl #[]) := fun p hp => by
    rw [← hH]
    exact if_pos (List.mem_map.mpr ⟨p, hp, rfl⟩)
  -- what is no list and no empty table is not tracked
  have off : ∀ {b : Addr} {o : Obj}, s₁.heap.get? b = some o → (∀ us n, o.data ≠ .seq us n) → o.data ≠ .fields #[] → H b = none := fun {b o} e h1 h2 => by
    cases q : H b with
    | none => rfl
    | some u =>
      rcases split q with ⟨z, _⟩ | ⟨_, z, _, _⟩
      · have y := e.symm.trans (atT z)
        cases y
        exact (h2 rfl).elim
      · rw [z] at e
        have y := e.symm.trans ha
        cases y
        exact (h1 _ _ rfl).elim
  have kept : ∀ {b : Addr} {o : Obj}, s₁.heap.get? b = some o → H b = none → (hidT s₁.heap H).get? b = some o := fun e n => hidT_get e n
  have nss : ∀ {b : Addr} {m : Str → Option Value}, s₁.heap.Ns b m → (hidT s₁.heap H).Ns b m := fun ⟨o, es, ep, e, d, r⟩ => ⟨o, es, ep, kept e (off e (fun _ _ z => by rw [d] at z; cases z) fun z => by rw [d] at z; cases z), d, r⟩
  have kin : K.In (hidT s₁.heap H) := fun b o e => kept (KX b o e) (by
    cases q : H b with
    | none => rfl
    | some u =>
      rcases split q with ⟨z, _⟩ | ⟨_, z, n, _⟩
      · obtain ⟨p, hp, ep⟩ := inT z
        have y := tk p hp
        rw [ep, e] at y
        cases y
      · rw [← z, e] at n
        cases n)
  have tbs : ∀ p ∈ cs, TabB (hidT s₁.heap H) mg p.1 p.2 := fun p hp => by
    have t0 := tb p hp
    refine ⟨?_, ?_, fun z => ?_⟩
    · obtain ⟨o, us, file, tf, flags, tg, inF, text, tt, e1, r1, r2, r3, r⟩ := cd p hp
      refine ⟨o, us, file, tf, flags, tg, inF, text, tt, kept e1 (off e1 (fun _ _ z => by rw [r2] at z; cases z) fun z => ?_), r1, r2, r3, r⟩
      rw [r2] at z
      cases z
      simp at r3
    · obtain ⟨m, ob, b1, b2, b3, b4, b5, b6⟩ := bm
      refine ⟨m, ob, b1, b2, fun q => ?_, fun q => ?_, kept b3 (off b3 (fun _ _ z => by rw [b6] at z; cases z) fun z => by rw [b6] at z; cases z), b4, b5, b6⟩
      · obtain ⟨o, es, ep, e, hd, _⟩ := gl
        rw [q] at b3
        have y := b3.symm.trans e
        cases y
        rw [b6] at hd
        cases hd
      · rw [q] at b3
        have y := b3.symm.trans t0
        cases y
        cases b6
    · obtain ⟨o, es, ep, e, hd, _⟩ := gl
      rw [z] at e
      have y := t0.symm.trans e
      cases y
      cases hd
  have hok : HOk P w H s₁.heap := fun b u e => by
    rcases split e with ⟨z, rfl⟩ | ⟨_, rfl, _, rfl⟩
    · exact atT z
    · exact ⟨ha, (by rw [List.length_map]; exact hl), vs, _, rv, ha⟩
  have seq : SqL K H a (ns.map V.int) := by
    cases hk : K.lookup a with
    | none =>
      refine .inl (.inr ⟨{ cls := .type "list", data := .seq vs.toArray }, ?_⟩)
      rw [← hH]
      exact (if_neg aT).trans (if_pos ⟨rfl, hk⟩)
    | some o =>
      have y := (KX a o hk).symm.trans ha
      cases y
      exact .inr ⟨_, vs.toArray, _, hk, rfl, rfl, rfl, (by rw [List.size_toArray, ln]; exact hl), by simpa using rv⟩
  have e0 : Env0 P w K mg (hidT s₁.heap H) callerA [] s₁ H := ⟨rfl, ⟨kin, nss gl, ⟨mb, nss bl, bb⟩, let ⟨mc, h1, h2⟩ := lim; ⟨mc, nss h1, h2⟩⟩, fun b o e => of_hidT e, Nat.le_of_eq (hidT_size _ _), trivial, fun b hb => absurd (show b ∈ ([] : List Addr) from hb) (by simp), hok, .of_eq hg⟩
  refine codeAny_mono (F _ H kin (nss gl) tbs tabs seq e0) fun r s' h => ?_
  cases r with
  | error e => exact False.elim h
  | ok fl =>
    cases fl with
    | next => exact False.elim h
    | brk => exact False.elim h
    | cont => exact False.elim h
    | ret u =>
      obtain ⟨v, H', os, bare, un, ok2, rel, q⟩ := h
      have q' : v = .bl true := q
      subst q'
      obtain rfl : u = Value.bool true := rel
      have stays : ∀ b o, b ∉ cs.map (·.2) → s₁.heap.get? b = some o → s'.heap.get? b = some o := fun b o nb e => by
        cases q : H b with
        | none => exact un.keep b o e q (by intro z; exact absurd (show b ∈ ([] : List Addr) from z) (by simp)) (by simp)
        | some u =>
          rcases split q with ⟨z, _⟩ | ⟨_, z, _, rfl⟩
          · exact absurd z nb
          · obtain ⟨e1, _⟩ := ok2 b _ (un.frzs b _ _ q)
            rw [z] at e
            have y := e.symm.trans ha
            cases y
            exact e1
      have grown : ∀ {b : Addr}, b ∈ cs.map (·.2) → ∃ (p : Addr × Addr) (more : Array Value), p ∈ cs ∧ p.2 = b ∧ s'.heap.get? b = some { cls := .none, data := .fields more } := fun {b} hb => by
        obtain ⟨p, hp, rfl⟩ := inT hb
        obtain ⟨more, z⟩ := un.tbls p.2 #[] (tabs p hp)
        exact ⟨p, _, hp, rfl, ok2 p.2 _ z⟩
      refine ⟨rfl, ⟨fun b o e => ?_, fun b o e => ?_⟩, os, bare⟩
      · by_cases hb : b ∈ cs.map (·.2)
        · obtain ⟨p, more, hp, rfl, hm⟩ := grown hb
          have y := e.symm.trans (tb p hp)
          cases y
          exact .inr (.inl ⟨((cd p hp).tab (tb p hp)).isCodeTable, rfl, #[], more, rfl, by rw [Array.empty_append]; exact hm⟩)
        · exact .inl (stays b o hb e)
      · by_cases hb : b ∈ cs.map (·.2)
        · obtain ⟨p, more, hp, rfl, hm⟩ := grown hb
          exact ⟨_, hm⟩
        · exact ⟨o, stays b o hb e⟩
/-! ### a promise that wants to know that nothing is being shown -/
structure FnG (P : Program) (w : World) (K : PySem.W.Frag) (mg : Str → Option Value) (base : Heap) (k : Nat) (f : Addr) (fd : FuncData) (ps : List Str) (sp : Sp) : Prop where
  len : ∀ vs H Q E, sp vs H Q E → vs.length = ps.length
  run : ∀ (A : Around) (outer : List Env) (s : Shared) (H : Hp) (args : Args) (us : List Value) (vs : List V) (Q : VK) (E : XK), A.guards = some [] → Room k A → Env0 P w K mg base A outer s H → BindsTo s fd args (ps.zip us) → Vals vs us → sp vs H Q E →
    codeAny (model P w) A (.call (.ref f) args) (CR CX0 outer P w H s Q E) s
theorem fng_of {P : Program} {w : World} {K : PySem.W.Frag} {mg : Str → Option Value} {base : Heap} {k : Nat} {x qual : Str} {st : Stmt} {f : Addr} {fd : FuncData} {N ps : List Str} {sp : Sp} (F : Fun K x qual st f fd) (S : FnScope N ps (defScope st)) (len : ∀ vs H Q E, sp vs H Q E → vs.length = ps.length)
    (hbody : ∀ (cdv : Value) (A : Around) (outer : List Env) (s : Shared) (H : Hp) (vs : List V) (Q : VK) (E : XK), (A.deeper (envOfC qual (defScope st) s.heap.objs.size f cdv)).guards = some [] → Room k (A.deeper (envOfC qual (defScope st) s.heap.objs.size f cdv)) → sp vs H Q E →
      ∃ t, PSs (cxOf CX0 P w K mg base N qual (defScope st) f cdv A outer s H E).nox (defBody st) t ∧ t { nx := fun _ H' => Q .non H', rt := Q } (start N vs) H) : FnG P w K mg base (k + 1) f fd ps sp := by
  obtain ⟨oc, od, kV, doc, pm, an, cdv, ct, osl, rfl, lk, hcd⟩ := F.ex
  refine ⟨len, fun A outer s H args us vs Q E hg hr e0 hb r hsp => run_ofS lk hcd S hr e0 hb r (len _ _ _ _ hsp) fun hr' => ?_⟩
  obtain ⟨t, h1, h2⟩ := hbody cdv A outer s H vs Q E hg hr' hsp
  exact ⟨t, h1.nox, h2⟩
section
variable {X : Cx} {k : Nat} {f : Addr} {fd : FuncData} {ps : List Str} {sp : Sp} {x : Str} {p pos : Pos} {e : Expr} {es : List Expr} {t : TA}
theorem pe_callG (F : FnG X.prog X.w X.K X.mg X.base k f fd ps sp) (gd : X.A.guards = some []) (hr : Room k X.A) (hg : Gl X x) (hm : X.mg x = some (.ref f)) (hk : PySem.W.keepIn X.K (.ref f) = true) (hb : Binds X.K fd ps []) (ha : PA X (e :: es) t)
    (hdb : (x == ("__debug__" : Str)) = false := by decide) (he : starEach (e :: es) X.env = (false, eval e X.env) :: starEach es X.env := by rfl) (hpl : (backTo pos (starEach es X.env)).any (·.1) = false := by rfl) :
    PE X (.Call (.Name x p) (e :: es) [] pos) (tCall sp [] E0 t) := by
  refine ⟨fun pins s σ H Q I h => ?_⟩
  refine wpAny_Call_Name_kw (ld_glob I hg hm ?_ hdb)
  refine PySem.W.callWith_K (h₀ := X.base) I.ok.mod.kin hk (thn (ha.run pos pins s σ H _ I h) fun us s1 ⟨vs, H1, I1, r, q⟩ => ⟨I1.kIn, ?_⟩) he hpl
  have q : sp (vs ++ []) H1 Q E0 := q
  rw [List.append_nil] at q
  have hl : (us ++ []).length = ps.length := by rw [List.append_nil, ← r.length]; exact F.len _ _ _ _ q
  have b := hb s1 us I1.kIn hl
  rw [List.append_nil] at b
  refine wpAny_call (codeAny_mono (F.run X.A X.stack s1 H1 ⟨us, []⟩ us vs Q E0 gd hr I1.env0 b r q) fun z s' hq => ?_)
  cases z with
  | error e => exact False.elim hq
  | ok fl =>
    cases fl with
    | ret u => exact I1.after hq
    | next => exact False.elim hq
    | brk => exact False.elim hq
    | cont => exact False.elim hq
end
end EV
/-! Dict comprehensions whose keys may be tuples: the store is what DPut says. -/
namespace EV
open PySem PySem.Spec PyProof.Rows L2
section
variable {X : Cx} {pins : List (Addr × Obj)} {σ : L2.St} {H : Hp} {s : Shared}
/-- an entry laid by a comprehension, whatever the key is -/
theorem lay_entry {P : Unit → Shared → Prop} {E : Value → Shared → Prop} {D : Addr} {y z : V} {u r : Value} {H' : Hp} (hu : X.A.units + 1 < cLine) (I : Inv X pins σ H s) (g : DPut H D y z H') (ry : RelV y u) (rz : RelV z r) (k : ∀ s', Inv X pins σ H' s' → P () s') :
    wpAny (model X.prog X.w) X.A (dictSet D u r) P E s := by
  rcases g with ⟨kvs, ky, hD, rfl, small, rfl⟩ | ⟨kvs, ky, b, hD, rfl, hb, small, rfl⟩
  · exact d_dictSet I hD small ry rz k
  · obtain rfl : u = Value.ref b := ry
    obtain ⟨le, nsys, xs, kt, dh⟩ := dt_of I.hok hD
    have le' : xs.length ≤ sizeLine := Paired.length kt ▸ le
    have room : (putK kvs ky z).length ≤ sizeLine := by
      have t := length_putK kvs ky z
      omega
    have hr : (tupleKind (mixKind X.prog X.w)).room X.A := Nat.lt_of_succ_lt hu
    refine wpAny_dictSet_heap (hsz := le') hr (key_of I.hok hb) dh fun h2 dh2 but => k _ ?_
    obtain ⟨o, es, ep, q1, q2, q3, q4, _, q6⟩ := dh2
    refine d_write I (by rw [hD]; exact True.intro) but ⟨o, q1⟩ ⟨room, nsys, _, KT.keeps (kt.put ky hb rz) fun c ys hc => ?_, o, es, ep, q1, q2, q3, q4, q6⟩
    exact (upd_ne (ne_of hc hD fun t => nomatch t)).trans hc
end
section
variable {X : Cx}
/-- the empty dict, to hold keys of the one kind or of the other -/
inductive Bare0 : HO → Prop
  | k : Bare0 (.dK [])
  | t : Bare0 (.dT [])
theorem bare0_lay {P : Program} {w : World} {H : Hp} {h : Heap} {o : HO} (b : Bare0 o) (big : sysModules < h.objs.size) : ObjOk P w H (h.push { cls := .type "dict", data := .dict #[] }) h.objs.size o := by
  cases b
  · exact dk_empty h big
  · exact dt_empty h big
/-- one turn of the comprehension's block, as a reading -/
def turnP (D : Addr) (g : TG) (tt : TT) (tk tv : TE) (vs : List Nat) (σ : L2.St) (Nx : Hp → Prop) (x : V) (H' : Hp) : Prop :=
  g x (wipe σ vs) H' fun σ2 H2 => wipe σ2 vs = wipe σ vs ∧ tt σ2 H2 fun b H3 =>
    if b = true then tk σ2 H3 fun y H4 => tv σ2 H4 fun z H5 => ∃ H6, DPut H5 D y z H6 ∧ Nx H6 else Nx H3
def tDcP (o0 : HO) (wi : TI) (g : TG) (tt : TT) (tk tv : TE) (vs : List Nat) : TE := fun σ H Q => wi σ H fun J H1 => ∀ D, H1 D = none → ∃ W : Nat → Nat → Hp → Prop, (∃ m, W 0 m (upd H1 D o0)) ∧
  ∀ i m H2, W i m H2 → (J.stop i H2 ∧ Q (.ref D) H2) ∨ (J.go i H2 ∧ ∃ Nx : Hp → Prop, (∀ H3, Nx H3 → ∃ m', m' < m ∧ W (i + 1) m' H3) ∧ ∀ x H3, J.yld i H2 x H3 → turnP D g tt tk tv vs σ Nx x H3)
abbrev AllBlk (X : Cx) (scope : Scope) (p : Cx → Prop) : Prop := ∀ (s : Shared) (H : Hp) (C : Addr) (cl : List (Str × Addr)) (fp : List Addr), p (X.blk s H scope (compEnvC scope cl C X.env) fp)
theorem pe_dcP {kx vx tg iter : Expr} {ifs : List Expr} {scope : Scope} {own : List (Str × Nat)} {pos : Pos} {wi : TI} {g : TG} {tt : TT} {tk tv : TE} {o0 : HO} (b0 : Bare0 o0) (calm : X.calm = true) (hu : X.A.units + 1 < cLine) (hN : X.N.Nodup) (hi : PI X tg iter wi) (ok : BlkOk X.N X.env.scope scope own)
    (hg : AllBlk X scope fun B => PG B tg g) (ht : AllBlk X scope fun B => PTs B ifs tt) (hk : AllBlk X scope fun B => PE B kx tk) (he : AllBlk X scope fun B => PE B vx tv)
    (fold : ∀ x, foldedSetIterable iter X.env x = pure x := by intro _; rfl) : PE X (.DictComp kx vx [⟨tg, iter, ifs, 0⟩] scope pos) (tDcP o0 wi g tt tk tv (own.map (·.2))) := by
  refine ⟨fun pins s σ H Q I reading => ?_⟩
  rw [arm_eval_DictComp]
  have frees : ∀ y ∈ scope.names, y.2 = .free → ∃ c, X.env.cells.lookup y.1 = some c := fun y hy e => (ok.free y hy e).elim (fun q => I.ok.has _ (.inl q)) fun q => I.ok.has _ (.inr q)
  refine wpAny_comprehension_free rfl fold (closure_ok frees) ok.kind (fun y hy e => (ok.uniq y hy).trans (congrArg some e)) (thn (hi.run pins s σ H _ I reading) fun xv s1 made => thn made fun itv s2 stands => ?_)
  obtain ⟨it, fp, tn, J, H2, rfl, I2, T, at0, fpk, rest⟩ := stands
  refine wpAny_newObj_type (newEnv_comp ?_)
  obtain ⟨D, eD⟩ : ∃ D, s2.heap.objs.size = D := ⟨_, rfl⟩
  rw [eD]
  have new : H2 D = none := I2.hok.fresh (Nat.le_of_eq eD)
  obtain ⟨W, ⟨m0, start⟩, turns⟩ := rest D new
  -- the empty dict stands
  obtain ⟨s3, e3⟩ : ∃ s3 : Shared, ({ s2 with heap := s2.heap.push { cls := .type "dict", data := .dict #[] } } : Shared) = s3 := ⟨_, rfl⟩
  have grow : ∀ b o, s2.heap.get? b = some o → s3.heap.get? b = some o := fun b o e => by
    rw [← e3]
    exact Heap.get?_push_of_some _ e
  have size3 : s3.heap.objs.size = s2.heap.objs.size + 1 := by
    rw [← e3]
    exact Heap.size_push ..
  have I3 : Inv X pins σ (upd H2 D o0) s3 := by
    rw [← e3]
    refine I2.laid (t' := s2.toks) (fun b o e => Heap.get?_push_of_some _ e) (Nat.le_of_eq eD) ?_
    rw [← eD]
    exact bare0_lay b0 I2.big
  have small : ∀ b ∈ fp, b < s2.heap.objs.size := fun b hb => (T.obj _ _ at0 b hb).elim fun o q => Heap.lt_size q.1
  have fp3 : ∀ b ∈ fp, FpOk X pins (upd H2 D o0) b ∧ b < s3.heap.objs.size := fun b hb => by
    have lt := small b hb
    have ne : b ≠ D := Nat.ne_of_lt (eD ▸ lt)
    exact ⟨⟨(upd_ne ne).trans (fpk b hb).1, (fpk b hb).2⟩, size3 ▸ Nat.lt_succ_of_lt lt⟩
  have at3 : tn 0 s3.heap := T.keep _ _ _ at0 fun b _ o e => grow b o e
  have I4 := block_start I3 ok hN fp3
  generalize eC : s3.heap.objs.size = C at I4
  generalize ecl : cellsFrom (C + 1) scope.names (cloFrom X.env.cells scope.names []) = cl at I4
  have pg := hg s3 (upd H2 D o0) C cl fp
  have pt := ht s3 (upd H2 D o0) C cl fp
  have pk := hk s3 (upd H2 D o0) C cl fp
  have pv := he s3 (upd H2 D o0) C cl fp
  have none3 : ∀ b ∈ fp, (upd H2 D o0) b = none := fun b hb => (fp3 b hb).1.1
  have h4s : ∀ b o, s3.heap.get? b = some o → (pushCells (s3.heap.push { cls := .type "dict", data := .dict #[] }) scope.names).get? b = some o := fun b o e => pushCells_keeps _ _ _ _ (Heap.get?_push_of_some _ e)
  rw [e3]
  show codeAny _ _ (.compStart (.DictComp kx vx [⟨tg, iter, ifs, 0⟩] scope pos) 0 (.ref it) (.ref D) (compEnvC scope (cellsFrom (s3.heap.objs.size + 1) scope.names (cloFrom X.env.cells scope.names [])) s3.heap.objs.size X.env)) (compPost (model X.prog X.w) X.A X.xe _ _ (.ref D) s3.heap.objs.size) { s3 with heap := pushCells (s3.heap.push { cls := .type "dict", data := .dict #[] }) scope.names }
  rw [eC, ecl]
  generalize eB : compEnvC scope cl C X.env = B at I4 pg pt pk pv ⊢
  have locB : B.locals = C := eB ▸ rfl
  have at4 : tn 0 (pushCells (s3.heap.push { cls := .type "dict", data := .dict #[] }) scope.names) := T.keep _ _ _ at3 fun b _ o e => h4s b o e
  generalize e4 : ({ s3 with heap := pushCells (s3.heap.push { cls := .type "dict", data := .dict #[] }) scope.names } : Shared) = s4 at I4 ⊢
  have at4 : tn 0 s4.heap := e4 ▸ at4
  -- the iterator's own objects, seen from the block
  have own4 : ∀ {σ' : L2.St} {G : Hp} {s' : Shared}, Inv (X.blk s3 (upd H2 D o0) scope B fp) [] σ' G s' → (∀ b ∈ fp, G b = none) → ∀ b ∈ fp, FpOk (X.blk s3 (upd H2 D o0) scope B fp) [] G b := fun {σ' G s'} J' z b hb =>
    ⟨z b hb, (J'.ok.exf b hb).1, J'.ok.exfs b hb, .inl hb, fun x c e => (J'.ok.exf b hb).2 x c e, fun p hp => by simp [Cx.blk] at hp⟩
  have walk : codeAny (model X.prog X.w) X.A (.compLoop (.DictComp kx vx [⟨tg, iter, ifs, 0⟩] scope pos) 0 (.ref it) (.ref D) B) (compPost (model X.prog X.w) X.A X.xe none (fun v s' => ∃ x H', Inv X pins σ H' s' ∧ RelV x v ∧ Q x H') (.ref D) C) s4 := by
    refine compLoop_anyD (fun n s5 => ∃ i G, Inv (X.blk s3 (upd H2 D o0) scope B fp) [] (wipe σ (own.map (·.2))) G s5 ∧ tn i s5.heap ∧ (∀ b ∈ fp, G b = none) ∧ W i n G) ?_ m0 ⟨0, _, I4, at4, none3, start⟩
    rintro n s5 ⟨i, G, I5, at5, none5, w5⟩
    rcases turns i n G w5 with ⟨over, found⟩ | ⟨more, Nx, next, step⟩
    · -- no further item: the def's own frame again
      refine thnF (T.done (X.blk s3 (upd H2 D o0) scope B fp) rfl rfl rfl calm i [] s5 _ G (fun _ _ => False) I5 (own4 I5 none5) at5 over) fun r s6 fin => ?_
      obtain ⟨rfl, I6⟩ := fin
      have back : Inv X pins σ G s6 := I3.call' (ch := fp) I6.os I6.base I6.hok I6.bare fun b hb => ⟨(fp3 b hb).1.2.2.2.1, (fp3 b hb).1.2.1, (fp3 b hb).1.2.2.2.2.1, (fp3 b hb).1.2.2.2.2.2⟩
      have freeC : G C = none := locB ▸ (show G B.locals = none from I6.free)
      obtain ⟨m, ns, _⟩ := I6.loc
      have nsC : s6.heap.Ns C m := locB ▸ (show s6.heap.Ns B.locals m from ns)
      obtain ⟨f0, f1, f2, f3, f4, f5⟩ := I3.fpOk (Nat.le_of_eq eC) freeC
      exact ⟨m, nsC, fun h9 but => ⟨.ref D, G, back.turned (t' := s6.toks) (fun b o hb e => (but.2 b hb).trans e) f0 f1 f3 f4 f5, rfl, found⟩⟩
    · refine thnF (T.item (X.blk s3 (upd H2 D o0) scope B fp) rfl rfl rfl calm i [] s5 _ G (fun _ _ => False) I5 (own4 I5 none5) at5 more) fun r s6 got => ?_
      obtain ⟨u, rfl, later⟩ := got
      refine thnF later fun _ s7 st => ?_
      obtain ⟨x, G7, I7, rx, y7, at7, none7⟩ := st
      have I8 := I7.pinned (own4 I7 none7) (T.obj _ _ at7)
      refine thnF (pg.run _ s7 _ G7 x u _ I8 rx (step x G7 y7)) fun _ s8 ⟨σ8, G8, I9, same8, q8⟩ => ?_
      -- what the turn leaves
      have goOn : ∀ {s9 : Shared} {G9 : Hp}, Inv (X.blk s3 (upd H2 D o0) scope B fp) ([] ++ pinsAt fp s7.heap) σ8 G9 s9 → Nx G9 → ∃ m, m < n ∧ ∃ j G', Inv (X.blk s3 (upd H2 D o0) scope B fp) [] (wipe σ (own.map (·.2))) G' s9 ∧ tn j s9.heap ∧ (∀ b ∈ fp, G' b = none) ∧ W j m G' := by
        intro s9 G9 J nx
        obtain ⟨m, lt, w9⟩ := next G9 nx
        have stood : ∀ b ∈ fp, ∀ o, s7.heap.get? b = some o → s9.heap.get? b = some o ∧ G9 b = none := fun b hb o e => by
          have z := J.pin (b, o) (List.mem_append_right _ (List.mem_append_right _ (mem_pinsAt hb e)))
          exact ⟨z.1, z.2.1⟩
        have len8 : (wipe σ (own.map (·.2))).length = σ8.length := same8 ▸ wipe_length ..
        refine ⟨m, lt, i + 1, G9, (J.unpinned (pins := [])).weak len8 (fun j v e => (wipe_some (same8.symm ▸ e)).1), T.keep _ _ _ at7 fun b hb o e => (stood b hb o e).1, fun b hb => ?_, w9⟩
        obtain ⟨o, e, _⟩ := T.obj _ _ at7 b hb
        exact (stood b hb o e).2
      refine thnF (pt.run _ s8 σ8 G8 _ I9 q8) fun b s9 ⟨G9, I10, q9⟩ => ?_
      by_cases kept : b = true
      · have q9 : tk σ8 G9 fun y H4 => tv σ8 H4 fun z H5 => ∃ H6, DPut H5 D y z H6 ∧ Nx H6 := by
          have q9 := show (if b = true then _ else _) from q9
          rwa [if_pos kept] at q9
        rw [if_pos kept]
        refine thnF (pk.run _ s9 σ8 G9 _ I10 q9) fun ku s10 ⟨y, G10, I11, ry, q10⟩ => ?_
        refine thnF (pv.run _ s10 σ8 G10 _ I11 q10) fun vu s11 ⟨z, G11, I12, rz, G12, put, nx⟩ => ?_
        exact lay_entry (X := X.blk s3 (upd H2 D o0) scope B fp) hu I12 put ry rz fun s12 I13 => goOn I13 nx
      · have q9 : Nx G9 := by
          have q9 := show (if b = true then _ else _) from q9
          rwa [if_neg kept] at q9
        rw [if_neg kept]
        exact goOn I10 q9
  exact codeAny_compStart_dict walk (T.self X.A 0 _ _ _ at4 walk)
end
end EV
/-! Walks over what is a list or a tuple; enumerate of either; comprehensions of dicts over any walk. -/
namespace EV
open PySem PySem.Spec PyProof.Rows L2
open AutoSeq1 (wpAny_loadPart')
/-- a list (b) or a tuple -/
def Sq (K : PySem.W.Frag) (b : Bool) (H : Hp) (a : Addr) (xs : List V) : Prop := if b = true then SqL K H a xs else SqT K H a xs
def IB (K : PySem.W.Frag) (b : Bool) (a : Addr) : It := if b = true then Itl K a else Itt K a
theorem Sq.any {K : PySem.W.Frag} {b : Bool} {H : Hp} {a : Addr} {xs : List V} (h : Sq K b H a xs) : SqL K H a xs ∨ SqT K H a xs := by
  cases b
  · exact .inr h
  · exact .inl h
theorem Sq.lst {K : PySem.W.Frag} {H : Hp} {a : Addr} {xs : List V} (h : H a = some (.lst xs)) : Sq K true H a xs := SqL.of h
theorem Sq.tup {K : PySem.W.Frag} {H : Hp} {a : Addr} {xs : List V} (h : H a = some (.tup xs)) : Sq K false H a xs := SqT.of h
theorem walk_sq {K : PySem.W.Frag} {b : Bool} {a : Addr} {xs : List V} : Walk (IB K b a) xs.length (fun H => Sq K b H a xs) (YAt xs) := by
  cases b
  · exact walk_tup
  · exact walk_list
def iSeq (K : PySem.W.Frag) (tl : TE) : TI := fun σ H R => tl σ H fun x H1 => ∃ b a xs, x = .ref a ∧ Sq K b H1 a xs ∧ R (IB K b a) H1
section
variable {X : Cx} {tg : Expr}
theorem pi_seq {l : Expr} {tl : TE} (hl : PE X l tl) : PI X tg l (iSeq X.K tl) := by
  refine ⟨fun pins s σ H R I h => thn (hl.run pins s σ H _ I h) fun v s1 got => ?_⟩
  obtain ⟨x, H1, I1, rx, b, a, xs, rfl, hs, q⟩ := got
  obtain rfl : v = Value.ref a := rx
  cases b
  · obtain ⟨its, _, p, _⟩ := I1.tuple hs
    exact wpAny_pyIter_tuple (items := its.toArray) p (pi_one (tk := s1.toks) I1 _ (turn_tuple a _) ⟨_, Heap.get?_push_size _ rfl, rfl, rfl⟩ q)
  · obtain ⟨its, _, p, _⟩ := I1.list hs
    exact wpAny_pyIter_list p.isList (pi_one (tk := s1.toks) I1 _ (turn_list a _) ⟨_, Heap.get?_push_size _ rfl, rfl, rfl⟩ q)
end
/-! ### enumerate(tuple) -/
theorem meets_enumerate_newT (t : Addr) (items : Array Value) (n : Nat) (dct : Option Addr) (sl : Array (Option Value)) :
    Meets (Builtin.«enumerate.__new__» ⟨[.type "enumerate", .ref t], []⟩) (fun _ R s => s.heap.get? t = some { cls := .type "tuple", dict := dct, data := .seq items n, slots := sl } ∧
      R (.ok (.ret (.ref (s.heap.objs.size + 1))))
        { s with heap := (s.heap.push { cls := .type "tuple_iterator", data := .fields #[.ref t, .int 0 0] }).push { cls := .type "enumerate", data := .fields #[.none, .bool false, .ref s.heap.objs.size, rawInt 0, .none, .none] } }) :=
  .of_wp fun prog w A R s h => by
    obtain ⟨hp, g, d, tk, os⟩ := s
    obtain ⟨hl, h⟩ := h
    have two : (Heap.push hp { cls := .type "tuple_iterator", data := .fields #[.ref t, .int 0 0] }).objs.size = hp.objs.size + 1 := Heap.size_push ..
    rw [show (Shared.heap ⟨hp, g, d, tk, os⟩).objs.size + 1 = (Heap.push hp { cls := .type "tuple_iterator", data := .fields #[.ref t, .int 0 0] }).objs.size from two.symm] at h
    have hsub := sub_enumerate
    have hT : Heap.IsTuple (Shared.heap ⟨hp, g, d, tk, os⟩) t items := ⟨_, hl, rfl, n, rfl⟩
    wp_walk using wpAny_loadPart' hl
    refine wpAny_stack_any fun st => wpAny_pure ?_
    split
    · rename_i c _ _ _ _ _
      cases (c == Value.type "enumerate") <;> (wp_walk using wpAny_loadPart' hl, wpAny_pyIter_tuple hT; exact ⟨_, rfl, h⟩)
    · wp_walk using wpAny_loadPart' hl, wpAny_pyIter_tuple hT
      exact ⟨_, rfl, h⟩
section
variable {prog : Program} {w : World} {A : Around} {E : Value → Shared → Prop} {s : Shared}
theorem call_enumerate_tuple {t : Addr} {items : Array Value} {Q : Value → Shared → Prop} (hT : s.heap.IsTuple t items)
    (k : ∀ h', IsEnum h' (s.heap.objs.size + 1) s.heap.objs.size 0 .none → h'.IsTupleIter s.heap.objs.size t 0 → (∀ b o, s.heap.get? b = some o → h'.get? b = some o) → Q (.ref (s.heap.objs.size + 1)) { s with heap := h' }) :
    wpAny (model prog w) A (call (.type "enumerate") [.ref t]) Q E s := by
  obtain ⟨⟨c, dct, dt, sl⟩, at0, hc, n, hd⟩ := hT
  obtain rfl : c = .type "tuple" := hc
  obtain rfl : dt = .seq items n := hd
  have e1 := Heap.get?_push_size (s.heap.push { cls := .type "tuple_iterator", data := .fields #[.ref t, .int 0 0] }) (o := { cls := .type "enumerate", data := .fields #[.none, .bool false, .ref s.heap.objs.size, rawInt 0, .none, .none] }) rfl
  rw [Heap.size_push] at e1
  exact callType_new F.called_enumerate (by decide) (F.typeCall_enumerate_1 _) (F.newCall_enumerate_1 _) (fun obj => F.args_object_init_2 obj _) F.entry_enumerate_new (meets_enumerate_newT t items n dct sl)
    ⟨at0, ⟨_, e1, rfl⟩, k _ e1 ⟨_, Heap.get?_push_of_some _ (Heap.get?_push_size _ rfl), rfl, rfl⟩ fun b o q => Heap.get?_push_of_some _ (Heap.get?_push_of_some _ q)⟩
end
theorem enumT_end {prog : Program} {w : World} {A : Around} {E : Value → Shared → Prop} {s : Shared} {e it t : Addr} {i : Nat} {k : Int} {items : Array Value} {old : Value} {Q : Option Value → Shared → Prop} (hh : A.in1.handled = none) (he : IsEnum s.heap e it k old) (hit : s.heap.IsTupleIter it t i) (ht : s.heap.IsTuple t items) (hx : items[i]? = none)
    (hQ : ∀ h', Heap.ExtBut it s.heap h' → Q none { s with heap := h' }) : wpAny (model prog w) A (pyNext (.ref e)) Q E s := by
  have D : Draws prog w A.in1 it [it, t] i (fun _ _ => True) (fun j h => j = i ∧ h.IsTupleIter it t i ∧ h.IsTuple t items) :=
    { live := fun _ _ st => st.2.1.elim fun o q => ⟨o, q.1⟩
      frame := fun _ _ _ st hk => ⟨st.1, st.2.1.at fun o q => hk it (by simp) o q, st.2.2.at fun o q => hk t (by simp) o q⟩
      item := fun j s Q E lt st _ => absurd lt (by rw [st.1]; exact Nat.lt_irrefl _)
      done := fun s Q E st hE => wpAny_nextOf_tuple_end hh st.2.1 st.2.2 hx hE }
  exact wpAny_pyNext_enum_endD D he ⟨rfl, hit, ht⟩ hQ
def IteT (K : PySem.W.Frag) (a : Addr) : It where
  go i H := ∃ xs x, SqT K H a xs ∧ xs[i]? = some x
  yld i H v H' := ∃ T x, v = .ref T ∧ H T = none ∧ H' = upd H T (.tup [.int (i : Nat), x]) ∧ ∀ xs, SqT K H a xs → xs[i]? = some x
  stop i H := ∃ xs, SqT K H a xs ∧ xs.length ≤ i
def IeB (K : PySem.W.Frag) (b : Bool) (a : Addr) : It := if b = true then Ite K a else IteT K a
theorem walk_enumB {K : PySem.W.Frag} {b : Bool} {a : Addr} {xs : List V} : Walk (IeB K b a) xs.length (fun H => Sq K b H a xs) (YPair (fun i => some (.int (i : Nat))) (fun i => xs[i]?)) := by
  cases b
  · refine ⟨fun i H hi q => ⟨xs, xs[i], q, by simp [hi]⟩, fun H q => ⟨xs, q, Nat.le_refl _⟩, fun i H v H' hi q y => ?_⟩
    obtain ⟨T, x, e1, e2, e3, e4⟩ := y
    exact ⟨T, _, x, e1, e2, e3, rfl, e4 xs q⟩
  · exact walk_enum
theorem turn_enumT {P : Program} {w : World} {K : PySem.W.Frag} {elts : List Expr} {kk : Nat} {tpos : Pos} (a e it : Addr) (hai : a ≠ it) (hae : a ≠ e) :
    Turn P w K (.Tuple elts kk tpos) (IteT K a) [e, it] e (fun i h => (∃ old, IsEnum h e it ((i : Nat) : Int) old) ∧ h.IsTupleIter it a i ∧ e ≠ it) where
  mem := List.mem_cons_self
  obj := fun i h st b hb => by
    obtain ⟨⟨old, he⟩, ⟨o, ho, hc, hd⟩, _⟩ := st
    rcases List.mem_cons.mp hb with rfl | hb
    · exact ⟨_, he, fun v q => nomatch q⟩
    · obtain rfl := List.mem_singleton.mp hb
      exact ⟨o, ho, fun v q => nomatch (hd.symm.trans q)⟩
  keep := fun i h h' st k => by
    obtain ⟨⟨old, he⟩, ⟨o, ho, r⟩, ne⟩ := st
    exact ⟨⟨old, k e (by simp) _ he⟩, ⟨o, k it (by simp) _ ho, r⟩, ne⟩
  item := by
    rintro X rfl rfl rfl calm i pins s σ H E I apart st ⟨xs, x, hq, hx⟩
    obtain ⟨⟨old, he⟩, hit, ne⟩ := st
    obtain ⟨its, rv, p, small⟩ := I.tuple hq
    obtain ⟨u, hu, ru⟩ := rv.get hx
    have el : e < s.heap.objs.size := Heap.lt_size he
    have il : it < s.heap.objs.size := hit.elim fun o q => Heap.lt_size q.1
    have hp : s.heap.IsTuple a its.toArray := p
    have len : i < its.toArray.size := by
      have := (List.getElem?_eq_some_iff.mp hu).1
      simpa using this
    have D := Draws.tuple (prog := X.prog) (w := X.w) (A := X.A.in1) (I.ok.hd calm) it a hai its.toArray
    refine wpAny_pyNext_enum_itemD D he ⟨hit, hp⟩ len ne (by simp [ne, hae.symm]) fun v h' tk hv out st' pair sz keep => ⟨_, rfl, wpAny_letOwnedTupleGo_enum (s := { s with heap := h', toks := tk + 1 }) out fun h'' he' but => ?_⟩
    obtain rfl : v = u := Option.some.inj (hv.symm.trans (by simpa using hu))
    have pair' : h''.get? s.heap.objs.size = some { cls := .type "tuple", data := .seq #[.int i tk, v] } := (but.2 _ (Nat.ne_of_gt el)).trans pair
    have off : ∀ b, b ∉ [e, it] → b ≠ e ∧ b ≠ it := fun b hb => ⟨fun q => hb (by simp [q]), fun q => hb (by simp [q])⟩
    have I1 : Inv X pins σ (upd H s.heap.objs.size (.tup [.int (i : Nat), x])) { s with heap := h'', toks := tk + 1 } :=
      I.turnedNew (ch := [e, it]) (fun b ob hb q => (but.2 b (off b hb).1).trans (keep b ob (off b hb).1 (off b hb).2 q)) apart (Nat.le_refl _) ⟨by show 2 ≤ sizeLine; decide, [.int i tk, v], .cons ⟨_, rfl⟩ (.cons ru .nil), ⟨_, pair', rfl, _, rfl⟩⟩
    obtain ⟨⟨oi, hoi, ri⟩, _⟩ := st'
    have nxt : ((i + 1 : Nat) : Int) = (i : Int) + 1 := by omega
    refine ⟨.ref s.heap.objs.size, _, I1, rfl, ⟨_, x, rfl, I.hok.fresh (Nat.le_refl _), rfl, fun ys hy => ?_⟩, ⟨⟨v, by rw [nxt]; exact he'⟩, ⟨oi, (but.2 it ne.symm).trans hoi, ri⟩, ne⟩, fun b hb => ?_⟩
    · obtain rfl := I.tuple_inj hy hq
      exact hx
    · have lt : b < s.heap.objs.size := by
        rcases List.mem_cons.mp hb with rfl | hb
        · exact el
        · exact List.mem_singleton.mp hb ▸ il
      exact (upd_ne (Nat.ne_of_lt lt)).trans (apart b hb).1
  done := by
    rintro X rfl rfl rfl calm i pins s σ H E I apart st ⟨xs, hq, hx⟩
    obtain ⟨⟨old, he⟩, hit, ne⟩ := st
    obtain ⟨its, rv, p, small⟩ := I.tuple hq
    have hp : s.heap.IsTuple a its.toArray := p
    have none : its.toArray[i]? = none := by
      have l := rv.length
      rw [List.getElem?_toArray]
      exact List.getElem?_eq_none (by omega)
    have hd : X.A.in1.handled = .none := I.ok.hd calm
    obtain ⟨f0, f1, f2, f3, f4, f5⟩ := apart it (by simp)
    refine enumT_end hd he hit hp none fun h' eb => ⟨rfl, I.turned (t' := s.toks) (fun b o hb q => eb b o hb q) f0 f1 f3 f4 f5⟩
  self := fun A i s Q E st h => st.1.elim fun _ he => wpAny_pyIter_enum he h
def iEnumB (K : PySem.W.Frag) (ta : TA) : TI := fun σ H R => ta σ H fun vs H1 => ∃ b a xs, vs = [.ref a] ∧ Sq K b H1 a xs ∧ R (IeB K b a) H1
theorem pi_enumB {X : Cx} {e : Expr} {ta : TA} {p pos tpos : Pos} {elts : List Expr} {kk : Nat} (hg : Gl X "enumerate") (hm : X.mg "enumerate" = none) (ha : PA X [e] ta) (one : starEach [e] X.env = [(false, eval e X.env)] := by rfl) :
    PI X (.Tuple elts kk tpos) (.Call (.Name "enumerate" p) [e] [] pos) (iEnumB X.K ta) := by
  refine ⟨fun pins s σ H R I h => Call_ (ld_blt I hg hm boot_enumerate (PyProof.Rows.callWith_type1 (thn (ha.run pos pins s σ H _ I h) fun us s1 got => ?_) one rfl))⟩
  obtain ⟨vs, H1, I1, r1, b, a, xs, rfl, hs, q⟩ := got
  obtain ⟨u, rfl, ru⟩ : ∃ u, us = [u] ∧ RelV (.ref a) u := by
    cases r1 with
    | cons r rr => cases rr; exact ⟨_, rfl, r⟩
  obtain rfl : u = Value.ref a := ru
  have young : ∀ b ∈ [s1.heap.objs.size + 1, s1.heap.objs.size], s1.heap.objs.size ≤ b := fun b hb => by
    rcases List.mem_cons.mp hb with rfl | hb
    · exact Nat.le_add_right _ _
    · exact Nat.le_of_eq (List.mem_singleton.mp hb).symm
  have fp : ∀ b ∈ [s1.heap.objs.size + 1, s1.heap.objs.size], FpOk X pins H1 b := fun b hb => I1.fpOk (young b hb) (I1.hok.fresh (young b hb))
  cases b
  · obtain ⟨its, _, p, _⟩ := I1.tuple hs
    have hp : s1.heap.IsTuple a its.toArray := p
    have la : a < s1.heap.objs.size := hp.elim fun o q => Heap.lt_size q.1
    refine call_enumerate_tuple hp fun h' he hit keep => wpAny_pyIter_enum he ⟨s1.heap.objs.size + 1, _, _, _, H1, rfl, I1.kept (t' := s1.toks) keep, turn_enumT a (s1.heap.objs.size + 1) s1.heap.objs.size (Nat.ne_of_lt la) (Nat.ne_of_lt (Nat.lt_succ_of_lt la)), ⟨⟨.none, he⟩, hit, Nat.succ_ne_self _⟩, fp, q⟩
  · obtain ⟨its, _, p, _⟩ := I1.list hs
    exact call_enumerate_list p.isList fun h' he hit _ keep => wpAny_pyIter_enum he ⟨s1.heap.objs.size + 1, _, _, _, H1, rfl, I1.kept (t' := s1.toks) keep, turn_enum a (s1.heap.objs.size + 1) s1.heap.objs.size, ⟨⟨.none, he⟩, hit, Nat.succ_ne_self _⟩, fp, q⟩
/-- a comprehension of a dict over any walk -/
theorem dc_it {J : It} {n : Nat} {G : Hp → Prop} {Y : Nat → Hp → V → Hp → Prop} (w : Walk J n G Y) {g : TG} {tt : TT} {tk tv : TE} {vs : List Nat} {σ : L2.St} {H1 : Hp} {D : Addr} {o0 : HO} {Qd : Hp → Prop} (Pv : Nat → Hp → Prop) (start : Pv 0 (upd H1 D o0)) (stay : ∀ i H, i ≤ n → Pv i H → G H)
    (turn : ∀ i x H H', i < n → Pv i H → Y i H x H' → turnP D g tt tk tv vs σ (Pv (i + 1)) x H') (fin : ∀ H, Pv n H → Qd H) :
    ∃ W : Nat → Nat → Hp → Prop, (∃ m, W 0 m (upd H1 D o0)) ∧ ∀ i m H2, W i m H2 → (J.stop i H2 ∧ Qd H2) ∨ (J.go i H2 ∧ ∃ Nx : Hp → Prop, (∀ H3, Nx H3 → ∃ m', m' < m ∧ W (i + 1) m' H3) ∧ ∀ x H3, J.yld i H2 x H3 → turnP D g tt tk tv vs σ Nx x H3) := by
  refine ⟨fun i m H => i + m = n ∧ Pv i H, ⟨n, Nat.zero_add n, start⟩, fun i m H st => ?_⟩
  obtain ⟨sum, pv⟩ := st
  have g := stay i H (by omega) pv
  match m, sum with
  | 0, sum =>
    obtain rfl : i = n := sum
    exact .inl ⟨w.stops H g, fin H pv⟩
  | m + 1, sum => exact .inr ⟨w.goes i H (by omega) g, Pv (i + 1), fun H3 p3 => ⟨m, Nat.lt_succ_self m, by omega, p3⟩, fun x H3 y => turn i x H H3 (by omega) pv (w.yields i H x H3 (by omega) g y)⟩
end EV
namespace K6
open PySem PySem.Spec PyProof.Rows L2 LamX NdefX EV
def top (i : Nat) : Stmt := PySem.Challenge.pw_lastopen_k14_drawings_looked_at.main.body.getD i (.Pass ⟨0, 0, 0, 0⟩)
abbrev sDraw : Stmt := top 31
abbrev sPick : Stmt := top 32
abbrev sMixed : Stmt := top 33
abbrev sSame : Stmt := top 34
abbrev sFresh : Stmt := top 35
abbrev sNames : Stmt := top 36
abbrev sNeg : Stmt := top 37
abbrev sUp : Stmt := top 38
abbrev sHalf : Stmt := top 39
abbrev sSided : Stmt := top 40
abbrev sClause : Stmt := top 41
abbrev sCode : Stmt := top 42
abbrev sOnce : Stmt := top 43
abbrev sMade : Stmt := top 44
abbrev sLoose : Stmt := top 45
abbrev sRight : Stmt := top 46
abbrev sWalk : Stmt := top 47
abbrev sBent : Stmt := top 48
abbrev sRefused : Stmt := top 49
abbrev sLaw : Stmt := top 50
abbrev sIsName : Stmt := top 10
abbrev sIsList : Stmt := top 11
abbrev sNameOf : Stmt := top 12
abbrev sOpp : Stmt := top 13
abbrev sChkNames : Stmt := top 14
abbrev sLits : Stmt := top 16
abbrev sPlaces : Stmt := top 17
abbrev sInOrder : Stmt := top 18
abbrev sWrong : Stmt := top 19
abbrev sIsClause : Stmt := top 20
abbrev sChkSetting : Stmt := top 21
abbrev sChkCl : Stmt := top 24
abbrev sSameNames : Stmt := top 26
abbrev sIsIndex : Stmt := top 27
abbrev sAre : Stmt := top 29
/-! ### the stream of draws: at S a list of the cells' list at L, the digits' cell, the number of draws, the mixed number -/
def StreamAt (H : Hp) (S L : Addr) (c : Nat) : Prop := ∃ (ns : List Int) (a m : Int), H S = some (.lst [.ref L, .int a, .int (c : Int), .int m]) ∧ H L = some (.lst (ns.map V.int)) ∧ 0 ≤ a ∧ 0 ≤ m ∧ m < 2147483647 ∧ ns.length ≤ 63
theorem StreamAt.ne {H : Hp} {S L : Addr} {c : Nat} (h : StreamAt H S L c) : S ≠ L := by
  obtain ⟨ns, a, m, h1, h2, _⟩ := h
  refine ne_of h1 h2 fun z => ?_
  cases ns with
  | nil => cases z
  | cons n r => cases z
/-- all but the two objects of the stream stay -/
def Kept (S L : Addr) (H H' : Hp) : Prop := ∀ b o, H b = some o → b ≠ S → b ≠ L → H' b = some o
theorem Kept.refl {S L : Addr} (H : Hp) : Kept S L H H := fun _ _ h _ _ => h
theorem Kept.trans {S L : Addr} {H H1 H2 : Hp} (a : Kept S L H H1) (b : Kept S L H1 H2) : Kept S L H H2 := fun x o h h1 h2 => b x o (a x o h h1 h2) h1 h2
/-- a draw: a number from 0 to many - 1 -/
def spDraw : Sp := fun vs H Q _ => ∃ (S L : Addr) (many : Int) (c : Nat), vs = [.ref S, .int many] ∧ 0 < many ∧ many ≤ 1000 ∧ c ≤ 100000 ∧ StreamAt H S L c ∧
  ∀ (r : Int) (H' : Hp), 0 ≤ r → r < many → StreamAt H' S L (c + 1) → Kept S L H H' → Q (.int r) H'
section
variable {P : Program} {w : World} {K : PySem.W.Frag} {mg : Str → Option Value} {base : Heap}
theorem scDraw : FnScope ["_law_stream", "_law_many", "_law_digit", "_law_mixed_here"] ["_law_stream", "_law_many"] (defScope sDraw) := ⟨rfl, rfl, rfl, by decide +kernel, rfl, by decide +kernel, by decide +kernel⟩
theorem dp_ints {H : Hp} : ∀ ns : List Int, DpAll K H (ns.map V.int) (ns.map PyData.int)
  | [] => .nil
  | n :: r => .cons (.int n) (dp_ints r)
theorem lay_ints : ∀ ns : List Int, PyData.canLayAll0 (ns.map PyData.int) = true ∧ PyData.depthAll (ns.map PyData.int) ≤ 2
  | [] => ⟨rfl, Nat.zero_le _⟩
  | n :: r => by
    obtain ⟨h1, h2⟩ := lay_ints r
    refine ⟨?_, ?_⟩
    · simp only [List.map_cons, PyData.canLayAll0, PyData.canLay0, h1, Bool.and_self]
    · simp only [List.map_cons, PyData.depthAll, PyData.depth]
      omega
theorem shaped_ints (ns : List Int) : SeqAt.shaped (.list (ns.map PyData.int)) = true := by
  obtain ⟨h1, h2⟩ := lay_ints ns
  refine Bool.and_eq_true_iff.mpr ⟨?_, decide_eq_true ?_⟩
  · simp only [PyData.canLay0, h1]
  · simp only [PyData.depth]
    omega
theorem eqv_nil : ∀ ns : List Int, PyData.eqv (.list (ns.map PyData.int)) (.list []) = decide (ns = [])
  | [] => rfl
  | n :: r => by simp [PyData.eqv, PyData.eqvAll]
theorem ok_draw {f : Addr} {fd : FuncData} (F : Fun K "_law_draw" "_law_draw" sDraw f fd) (mi : mg "int" = none) : FnOk P w K mg base CX0 1 f fd ["_law_stream", "_law_many"] spDraw := by
  refine F.ok scDraw (fun vs H Q E h => ?_) (fun cdv A outer s H vs Q E hr h => ?_)
  · obtain ⟨S, L, many, c, rfl, _⟩ := h
    rfl
  · obtain ⟨S, L, many, c, rfl, m0, m1, hc, ⟨ns, a, m, hS, hL, a0, h0, h1, hn⟩, k⟩ := h
    have hu := hu_of hr
    have nSL : S ≠ L := StreamAt.ne ⟨ns, a, m, hS, hL, a0, h0, h1, hn⟩
    -- what stands behind the first if
    obtain ⟨tt, htt, hrest⟩ : ∃ tt, PSs (cxOf CX0 P w K mg base ["_law_stream", "_law_many", "_law_digit", "_law_mixed_here"] "_law_draw" (defScope sDraw) f cdv A outer s H E).nox ((defBody sDraw).drop 2) tt ∧
        ∀ (ns : List Int) (a m : Int) (H1 : Hp), H1 S = some (.lst [.ref L, .int a, .int ((c : Int) + 1), .int m]) → H1 L = some (.lst (ns.map V.int)) → 0 ≤ a → 0 ≤ m → m < 2147483647 → ns.length ≤ 63 → Kept S L H H1 →
          tt { nx := fun _ H' => Q .non H', rt := Q } [some (.ref S), some (.int many), none, none] H1 := by
      refine ⟨_, pss_cons (ps_if (pt_cmpR op_gt (pe_ix ix_list (pv 0) pe_int (fun _ _ => rfl)) pe_int (nomark _))
        (pss_cons (ps_set (i := 2) scDraw.nd rfl (.inl rfl) (pe_op op_modN (pe_callTy call_int1 (by rfl) mi (by decide +kernel) (pa_cons (pe_ix ix_list (pv 0) pe_int (fun _ _ => rfl)) pa_nil)) (pv 1)))
        (pss_cons (ps_asg (pe_op op_fdivN (pe_ix ix_list (pv 0) pe_int (fun _ _ => rfl)) (pv 1)) (pg_sub (pv 0) pe_int set_list))
        (pss_one (ps_ret (pv 2))))) pss_nil)
        (pss_cons (ps_set (i := 3) scDraw.nd rfl (.inl rfl) (pe_op op_mod (pe_op op_pow (pe_op op_add (pe_op op_add (pe_ix ix_list (pv 0) pe_int (fun _ _ => rfl)) (pe_op op_mul pe_int (pe_ix ix_list (pv 0) pe_int (fun _ _ => rfl)))) pe_int) pe_int) pe_int))
        (pss_one (ps_ret (pe_op op_modN (pe_op op_mod (pe_op op_pow (pe_op op_add (pe_op op_add (pe_op op_mul (pv 3) pe_int) (pe_op op_mul (pe_op op_mul pe_int (pe_ix ix_list (pv 0) pe_int (fun _ _ => rfl))) (pe_ix ix_list (pv 0) pe_int (fun _ _ => rfl)))) pe_int) pe_int) pe_int) (pv 1))))), fun ns a m H1 hS hL a0 h0 h1 hn hk => ?_⟩
      refine ⟨_, rfl, S, _, 1, _, rfl, rfl, SqL.of hS, rfl, _, _, rfl, rfl, _, rfl, ?_⟩
      refine ite2 (fun hp => ?_) (fun hp => ?_)
      · have ha : 0 < a := by simpa using hp
        refine ⟨_, rfl, S, _, 1, _, rfl, rfl, SqL.of hS, rfl, .inl ⟨_, rfl, _, rfl, _, _, rfl, rfl, (by omega), ?_⟩⟩
        refine ⟨_, rfl, S, _, 1, _, rfl, rfl, SqL.of hS, rfl, _, rfl, _, _, rfl, rfl, ⟨(by omega), (by omega)⟩, _, rfl, S, _, 1, 1, rfl, rfl, hS, rfl, _, rfl, ?_⟩
        have r0 := Int.fmod_nonneg_of_pos a m0
        have r1 := Int.fmod_lt_of_pos a m0
        refine k _ _ r0 r1 ⟨ns, a.fdiv many, m, upd_same, (upd_ne nSL.symm).trans hL, Int.fdiv_nonneg a0 (by omega), h0, h1, hn⟩ fun b o e n1 n2 => (upd_ne n1).trans (hk b o e n1 n2)
      · refine ⟨_, rfl, S, _, 3, _, rfl, rfl, SqL.of hS, rfl, _, rfl, S, _, 2, _, rfl, rfl, SqL.of hS, rfl, _, _, rfl, rfl, .inl ⟨(by decide), (by decide)⟩, _, _, rfl, rfl, _, _, rfl, rfl, _, _, rfl, rfl, ⟨(by decide), (by decide), ?_⟩, _, _, rfl, rfl, (by show (0 : Int) < 2147483629; decide), ?_⟩
        · show (m + 104729 * ((c : Int) + 1) + 17).natAbs < 2 ^ 64
          omega
        have g0 := Int.emod_nonneg ((m + 104729 * ((c : Int) + 1) + 17) ^ (5 : Int).toNat) (show (2147483629 : Int) ≠ 0 by decide)
        have g1 := Int.emod_lt_of_pos ((m + 104729 * ((c : Int) + 1) + 17) ^ (5 : Int).toNat) (show (0 : Int) < 2147483629 by decide)
        have hcc : ((c : Int) + 1) * ((c : Int) + 1) ≤ 100001 * 100001 := Int.mul_le_mul (by omega) (by omega) (by omega) (by omega)
        have hc0 : 0 ≤ ((c : Int) + 1) * ((c : Int) + 1) := Int.mul_nonneg (by omega) (by omega)
        have hca : 40503 * ((c : Int) + 1) * ((c : Int) + 1) = 40503 * (((c : Int) + 1) * ((c : Int) + 1)) := Int.mul_assoc ..
        refine ⟨_, rfl, _, _, rfl, rfl, .inl ⟨(by omega), (by omega)⟩, _, rfl, S, _, 2, _, rfl, rfl, SqL.of hS, rfl, _, _, rfl, rfl, .inl ⟨(by decide), (by decide)⟩, _, rfl, S, _, 2, _, rfl, rfl, SqL.of hS, rfl, _, _, rfl, rfl, .inl ⟨(by show -(2 ^ 64) < 40503 * ((c : Int) + 1); omega), (by show 40503 * ((c : Int) + 1) < 2 ^ 64; omega)⟩,
          _, _, rfl, rfl, _, _, rfl, rfl, _, _, rfl, rfl, ⟨(by decide), (by decide), ?_⟩, _, _, rfl, rfl, (by show (0 : Int) < 1000000007; decide), _, rfl, _, _, rfl, rfl, (by omega), ?_⟩
        · show ((m + 104729 * ((c : Int) + 1) + 17) ^ (5 : Int).toNat % 2147483629 * 48271 + 40503 * ((c : Int) + 1) * ((c : Int) + 1) + 13).natAbs < 2 ^ 64
          rw [hca]
          generalize ((m + 104729 * ((c : Int) + 1) + 17) ^ (5 : Int).toNat) % 2147483629 = y at g0 g1 ⊢
          omega
        exact k _ _ (Int.fmod_nonneg_of_pos _ m0) (Int.fmod_lt_of_pos _ m0) ⟨ns, a, m, hS, hL, a0, h0, h1, hn⟩ hk
    refine ⟨_, pss_cons (ps_asg (pe_op op_add (pe_ix ix_list (pv 0) pe_int (fun _ _ => rfl)) pe_int) (pg_sub (pv 0) pe_int set_list))
      (pss_cons (ps_if (PW.pt (pw_and (pt_cmpR op_eq (pe_ix ix_list (pv 0) pe_int (fun _ _ => rfl)) pe_int (nomark _)) (pw_and1 (pt_cmpR (op_neD hr.units) (pe_ix ix_list (pv 0) pe_int (fun _ _ => rfl)) (pe_lst pa_nil) (nomark _)))))
        (pss_cons (ps_asg (pe_bm PySem.F.plainAttrs_list PySem.F.slot_list_pop PySem.F.type_list_pop mt_popAt (pe_ix ix_list (pv 0) pe_int (fun _ _ => rfl)) (pa_cons pe_int pa_nil)) (pg_sub (pv 0) pe_int set_list))
        (pss_one (ps_if (pt_cmpR op_lt (pe_ix ix_list (pv 0) pe_int (fun _ _ => rfl)) (pe_op op_pow pe_int pe_int) (nomark _))
          (pss_cons (ps_asg (pe_op op_mod (pe_callTy call_int1 (by rfl) mi (by decide +kernel) (pa_cons (pe_op op_add (pe_op op_add (pe_op op_mul (pe_ix ix_list (pv 0) pe_int (fun _ _ => rfl)) pe_int) (pe_ix ix_list (pv 0) pe_int (fun _ _ => rfl))) pe_int) pa_nil)) pe_int) (pg_sub (pv 0) pe_int set_list))
          (pss_one (ps_asg pe_int (pg_sub (pv 0) pe_int set_list)))) pss_nil))) pss_nil) htt), ?_⟩
    refine ⟨_, rfl, S, _, 2, _, rfl, rfl, SqL.of hS, rfl, _, _, rfl, rfl, _, rfl, S, _, 2, 2, rfl, rfl, hS, rfl, ?_⟩
    have hS1 : upd H S (.lst [.ref L, .int a, .int ((c : Int) + 1), .int m]) S = some (.lst [.ref L, .int a, .int ((c : Int) + 1), .int m]) := upd_same
    have hL1 : upd H S (.lst [.ref L, .int a, .int ((c : Int) + 1), .int m]) L = some (.lst (ns.map V.int)) := (upd_ne nSL.symm).trans hL
    have hK1 : Kept S L H (upd H S (.lst [.ref L, .int a, .int ((c : Int) + 1), .int m])) := fun b o e n1 n2 => (upd_ne n1).trans e
    refine ⟨_, rfl, S, _, 1, _, rfl, rfl, SqL.of hS1, rfl, rfl, _, rfl, ?_⟩
    refine ite2 (fun he => ?_) (fun _ => hrest ns a m _ hS1 hL1 a0 h0 h1 hn hK1)
    -- the second half of the test: is the cells' list empty
    refine ⟨_, rfl, S, _, 0, _, rfl, rfl, SqL.of hS1, rfl, (by show 0 ≤ sizeLine; exact Nat.zero_le _), fun p hp => ?_⟩
    have nSp : S ≠ p := ne_of_none hS1 hp
    have nLp : L ≠ p := ne_of_none hL1 hp
    refine ⟨_, _, .lst (SqL.of ((upd_ne nLp).trans hL1)) (dp_ints ns), .lst (SqL.of upd_same) .nil, shaped_ints ns, rfl, _, rfl, ?_⟩
    have hS2 := (upd_ne (H := upd H S (.lst [.ref L, .int a, .int ((c : Int) + 1), .int m])) (o := HO.lst []) nSp).trans hS1
    have hL2 := (upd_ne (H := upd H S (.lst [.ref L, .int a, .int ((c : Int) + 1), .int m])) (o := HO.lst []) nLp).trans hL1
    have hK2 : Kept S L H (upd (upd H S (.lst [.ref L, .int a, .int ((c : Int) + 1), .int m])) p (.lst [])) := fun b o e n1 n2 => (upd_ne (ne_of_none (hK1 b o e n1 n2) hp)).trans (hK1 b o e n1 n2)
    rw [eqv_nil]
    cases ns with
    | nil => exact iteF (hrest [] a m _ hS2 hL2 a0 h0 h1 hn hK2)
    | cons z zs =>
      refine iteT ?_
      have hz : zs.length ≤ 62 := by rw [List.length_cons] at hn; omega
      -- the first cell is taken out and looked at
      refine ⟨_, rfl, S, _, 0, _, rfl, rfl, SqL.of hS2, rfl, .inl ⟨rfl, _, SqL.of hL2⟩, L, _, 0, 0, _, rfl, rfl, hL2, (by decide), (by decide), (by rw [List.length_map, List.length_cons]; unfold seqIndex?; simp), rfl, _, rfl, S, _, 1, 1, rfl, rfl, (upd_ne nSL).trans hS2, rfl, ?_⟩
      have hS3 : ∀ (H9 : Hp) (o : HO), upd H9 S o S = some o := fun _ _ => upd_same
      have hL3 : ∀ (H9 : Hp) (o o' : HO), upd (upd H9 L o) S o' L = some o := fun _ _ _ => (upd_ne nSL.symm).trans upd_same
      have hK3 : ∀ (o o' : HO), Kept S L H (upd (upd (upd (upd H S (.lst [.ref L, .int a, .int ((c : Int) + 1), .int m])) p (.lst [])) L o) S o') := fun o o' b u e n1 n2 => (upd_ne n1).trans ((upd_ne n2).trans (hK2 b u e n1 n2))
      refine ⟨_, rfl, S, _, 1, _, rfl, rfl, SqL.of (hS3 _ _), rfl, _, _, rfl, rfl, ⟨(by decide), (by decide), (by decide)⟩, _, _, rfl, rfl, _, rfl, ?_⟩
      refine ite2 (fun hlt => ?_) (fun hge => ?_)
      · refine ⟨_, rfl, S, _, 3, _, rfl, rfl, SqL.of (hS3 _ _), rfl, _, _, rfl, rfl, .inl ⟨(by omega), (by omega)⟩, _, rfl, S, _, 1, _, rfl, rfl, SqL.of (hS3 _ _), rfl, _, _, rfl, rfl, _, _, rfl, rfl, .inl ⟨_, rfl, _, _, rfl, rfl, (by show (0 : Int) < 2147483647; decide), _, rfl, S, _, 3, 3, rfl, rfl, hS3 _ _, rfl, _, rfl, S, _, 1, 1, rfl, rfl, hS3 _ _, rfl, ?_⟩⟩
        exact hrest zs 0 ((m * 31 + z + 7) % 2147483647) _ upd_same ((upd_ne nSL.symm).trans ((upd_ne nSL.symm).trans (hL3 _ _ _))) (by decide) (Int.emod_nonneg _ (by decide)) (Int.emod_lt_of_pos _ (by decide)) (by omega) fun b u e n1 n2 => (upd_ne n1).trans ((upd_ne n1).trans (hK3 _ _ b u e n1 n2))
      · have h9 : (10 : Int) ^ (18 : Int).toNat ≤ z := Int.not_lt.mp fun q => hge (decide_eq_true q)
        have e9 : (10 : Int) ^ (18 : Int).toNat = 1000000000000000000 := by decide
        exact hrest zs z m _ upd_same (hL3 _ _ _) (by omega) h0 h1 (by omega) (hK3 _ _)
end
/-! ### picks -/
def spPickL (K : PySem.W.Frag) : Sp := fun vs H Q _ => ∃ (S L T : Addr) (xs : List V) (c : Nat), vs = [.ref S, .ref T] ∧ SqL K H T xs ∧ (∀ H', Kept S L H H' → SqL K H' T xs) ∧ 0 < xs.length ∧ xs.length ≤ 1000 ∧ c ≤ 100000 ∧ StreamAt H S L c ∧
  ∀ (i : Nat) (v : V) (H' : Hp), xs[i]? = some v → StreamAt H' S L (c + 1) → Kept S L H H' → Q v H'
def spPickS : Sp := fun vs H Q _ => ∃ (S L : Addr) (z : Str) (c : Nat), vs = [.ref S, .str z] ∧ 0 < z.length ∧ z.length ≤ 1000 ∧ c ≤ 100000 ∧ StreamAt H S L c ∧
  ∀ (i : Nat) (ch : Nat) (H' : Hp), z.cps.toList[i]? = some ch → StreamAt H' S L (c + 1) → Kept S L H H' → Q (.str ⟨#[ch]⟩) H'
section
variable {P : Program} {w : World} {K : PySem.W.Frag} {mg : Str → Option Value} {base : Heap}
theorem scPick : FnScope ["_law_stream", "_law_things"] ["_law_stream", "_law_things"] (defScope sPick) := ⟨rfl, rfl, rfl, by decide +kernel, rfl, by decide +kernel, by decide +kernel⟩
theorem at_in {α : Type} {xs : List α} {r : Int} (h0 : 0 ≤ r) (h1 : r < xs.length) : ∃ v, xs[r.toNat]? = some v ∧ atI xs r = some v := by
  have hl : r.toNat < xs.length := by omega
  refine ⟨xs[r.toNat], List.getElem?_eq_getElem hl, ?_⟩
  have z := atI_nat (List.getElem?_eq_getElem hl)
  rwa [Int.toNat_of_nonneg h0] at z
variable {f fD : Addr} {fd fdD : FuncData}
theorem ok_pickL (F : Fun K "_law_pick" "_law_pick" sPick f fd) (GD : FnOk P w K mg base CX0 1 fD fdD ["_law_stream", "_law_many"] spDraw) (mD : mg "_law_draw" = some (.ref fD)) (kD : PySem.W.keepIn K (.ref fD) = true) (bD : L2.Binds K fdD ["_law_stream", "_law_many"] []) (ml : mg "len" = none) :
    FnOk P w K mg base CX0 2 f fd ["_law_stream", "_law_things"] (spPickL K) := by
  refine F.ok scPick (fun vs H Q E h => ?_) (fun cdv A outer s H vs Q E hr h => ?_)
  · obtain ⟨S, L, T, xs, c, rfl, _⟩ := h
    rfl
  · obtain ⟨S, L, T, xs, c, rfl, hT, hT', x0, x1, hc, hS, k⟩ := h
    refine ⟨_, pss_one (ps_ret (pe_ix ix_seq (pv 1) (pe_call GD hr (by rfl) mD kD bD .nil pass0 (pa_cons (pv 0) (pa_cons (pe_callB call_len (by rfl) ml PySem.boot_len (pa_cons (pv 1) pa_nil)) pa_nil))) (fun _ _ => rfl))), ?_⟩
    refine ⟨_, rfl, _, rfl, _, rfl, _, xs.length, rfl, .inl ⟨xs, hT, rfl⟩, S, L, _, c, rfl, by omega, by omega, hc, hS, fun r H' r0 r1 hS' hk => ?_⟩
    obtain ⟨v, e1, e2⟩ := at_in r0 r1
    exact .inl ⟨T, xs, r, v, rfl, rfl, hT' H' hk, e2, k _ v H' e1 hS' hk⟩
theorem ok_pickS (F : Fun K "_law_pick" "_law_pick" sPick f fd) (GD : FnOk P w K mg base CX0 1 fD fdD ["_law_stream", "_law_many"] spDraw) (mD : mg "_law_draw" = some (.ref fD)) (kD : PySem.W.keepIn K (.ref fD) = true) (bD : L2.Binds K fdD ["_law_stream", "_law_many"] []) (ml : mg "len" = none) :
    FnOk P w K mg base CX0 2 f fd ["_law_stream", "_law_things"] spPickS := by
  refine F.ok scPick (fun vs H Q E h => ?_) (fun cdv A outer s H vs Q E hr h => ?_)
  · obtain ⟨S, L, z, c, rfl, _⟩ := h
    rfl
  · obtain ⟨S, L, z, c, rfl, x0, x1, hc, hS, k⟩ := h
    refine ⟨_, pss_one (ps_ret (pe_ix ix_seq (pv 1) (pe_call GD hr (by rfl) mD kD bD .nil pass0 (pa_cons (pv 0) (pa_cons (pe_callB call_len (by rfl) ml PySem.boot_len (pa_cons (pv 1) pa_nil)) pa_nil))) (fun _ _ => rfl))), ?_⟩
    have hz : z.length ≤ sizeLine := by rw [sizeLine_eq]; omega
    refine ⟨_, rfl, _, rfl, _, rfl, _, z.length, rfl, ⟨hz, rfl⟩, S, L, _, c, rfl, by omega, by omega, hc, hS, fun r H' r0 r1 hS' hk => ?_⟩
    obtain ⟨ch, e1, e2⟩ := at_in (xs := z.cps.toList) r0 (by rw [Array.length_toList]; exact r1)
    exact .inr (.inr ⟨z, r, ch, rfl, rfl, hz, e2, k _ ch H' e1 hS' hk⟩)
/-! ### the same shown text -/
def spSame (K : PySem.W.Frag) : Sp := fun vs H Q _ => ∃ (x y : V) (d : PyData), vs = [x, y] ∧ Dq K H x d ∧ Dq K H y d ∧ d.showable = true ∧ d.shown.length ≤ sizeLine ∧ d.depth ≤ 60 ∧ Q (.bl true) H
theorem scSame : FnScope ["_law_found", "_law_due"] ["_law_found", "_law_due"] (defScope sSame) := ⟨rfl, rfl, rfl, by decide +kernel, rfl, by decide +kernel, by decide +kernel⟩
theorem ok_same (F : Fun K "_law_same" "_law_same" sSame f fd) (mr : mg "repr" = none) : FnG P w K mg base 1 f fd ["_law_found", "_law_due"] (spSame K) := by
  refine fng_of F scSame (fun vs H Q E h => ?_) (fun cdv A outer s H vs Q E hg hr h => ?_)
  · obtain ⟨x, y, d, rfl, _⟩ := h
    rfl
  · obtain ⟨x, y, d, rfl, hx, hy, h1, h2, h3, k⟩ := h
    refine ⟨_, pss_one (ps_ret (pe_cmpR op_eq (pe_callB (call_reprD hg hr.units) (by rfl) mr (by decide +kernel) (pa_cons (pv 0) pa_nil)) (pe_callB (call_reprD hg hr.units) (by rfl) mr (by decide +kernel) (pa_cons (pv 1) pa_nil)) (nomark _))), ?_⟩
    refine ⟨_, rfl, _, d, rfl, hx, h1, h2, h3, _, rfl, _, d, rfl, hy, h1, h2, h3, rfl, ?_⟩
    show Q (.bl (decide (V.str d.shown = V.str d.shown))) H
    rw [decide_eq_true rfl]
    exact k
end
end K6
namespace K6
open PySem PySem.Spec PyProof.Rows L2 LamX NdefX EV
theorem StreamAt.new {H : Hp} {S L p : Addr} {c : Nat} {o : HO} (h : StreamAt H S L c) (hp : H p = none) : StreamAt (upd H p o) S L c := by
  obtain ⟨ns, a, m, e1, e2, r⟩ := h
  exact ⟨ns, a, m, (upd_ne (ne_of_none e1 hp)).trans e1, (upd_ne (ne_of_none e2 hp)).trans e2, r⟩
theorem StreamAt.off {H : Hp} {S L p : Addr} {c : Nat} (h : StreamAt H S L c) (hp : H p = none) : p ≠ S ∧ p ≠ L := by
  obtain ⟨ns, a, m, e1, e2, r⟩ := h
  exact ⟨(ne_of_none e1 hp).symm, (ne_of_none e2 hp).symm⟩
theorem StreamAt.put {H : Hp} {S L p : Addr} {c : Nat} {o : HO} (h : StreamAt H S L c) (n1 : p ≠ S) (n2 : p ≠ L) : StreamAt (upd H p o) S L c := by
  obtain ⟨ns, a, m, e1, e2, r⟩ := h
  exact ⟨ns, a, m, (upd_ne n1.symm).trans e1, (upd_ne n2.symm).trans e2, r⟩
theorem Kept.new {S L p : Addr} {H H' : Hp} {o : HO} (k : Kept S L H H') (hp : H p = none) : Kept S L H (upd H' p o) := fun b u e n1 n2 => (upd_ne (ne_of_none e hp)).trans (k b u e n1 n2)
theorem Kept.none {S L p : Addr} {H H' : Hp} (k : Kept S L H H') (h : H' p = none) (n1 : p ≠ S) (n2 : p ≠ L) : H p = none := by
  cases e : H p with
  | none => rfl
  | some o =>
    have z := k p o e n1 n2
    rw [h] at z
    exact nomatch z
section
variable {X : Cx} {Kf : PySem.W.Frag} {T name id : String} {o e : Expr} {es : List Expr} {apos cpos : Pos} {to : TE} {t : TA} {r : List V → Hp → VK → Prop}
/-- as the library's rules, the fragment named: so they serve within a comprehension's block -/
theorem len_k (hK : X.K = Kf := by rfl) : CallR X (.builtin "len") (fun xs H Q => ∃ x n, xs = [x] ∧ LenV Kf x H n ∧ Q (.int n) H) := by
  subst hK
  exact call_len
end
theorem seq_at {r : Int} {n : Nat} (h0 : 0 ≤ r) (h1 : r < n) : seqIndex? r n = some r.toNat := by
  unfold seqIndex?
  simp only [show ¬ r < 0 by omega, if_false]
  rw [if_pos (by simp; omega)]
theorem perm_erase {α : Type} : ∀ (xs : List α) (i : Nat) (v : α), xs[i]? = some v → (v :: xs.eraseIdx i).Perm xs
  | [], i, v, h => by simp at h
  | x :: r, 0, v, h => by
    obtain rfl : x = v := by simpa using h
    exact .refl _
  | x :: r, i + 1, v, h => (List.Perm.swap x v _).trans ((perm_erase r i v (by simpa using h)).cons x)
/-! ### a list in another order -/
def spMixed (K : PySem.W.Frag) : Sp := fun vs H Q _ => ∃ (S L T : Addr) (b : Bool) (xs : List V) (c : Nat), vs = [.ref S, .ref T] ∧ Sq K b H T xs ∧ xs.length ≤ 1000 ∧ c + xs.length ≤ 100000 ∧ StreamAt H S L c ∧
  ∀ (ys : List V) (p : Addr) (H' : Hp), ys.Perm xs → H p = none → H' p = some (.lst ys) → StreamAt H' S L (c + xs.length) → Kept S L H H' → Q (.ref p) H'
section
variable {P : Program} {w : World} {K : PySem.W.Frag} {mg : Str → Option Value} {base : Heap} {f fD : Addr} {fd fdD : FuncData}
abbrev nMixed : List Str := ["_law_stream", "_law_things", "_law_left", "_law_k"]
theorem scMixed : FnScope nMixed ["_law_stream", "_law_things"] (defScope sMixed) := ⟨rfl, rfl, rfl, by decide +kernel, rfl, by decide +kernel, by decide +kernel⟩
theorem ok_mixed (F : Fun K "_law_mixed" "_law_mixed" sMixed f fd) (GD : FnOk P w K mg base CX0 1 fD fdD ["_law_stream", "_law_many"] spDraw) (mD : mg "_law_draw" = some (.ref fD)) (kD : PySem.W.keepIn K (.ref fD) = true) (bD : L2.Binds K fdD ["_law_stream", "_law_many"] []) (ml : mg "len" = none) (mr : mg "range" = none) (mli : mg "list" = none) :
    FnOk P w K mg base CX0 2 f fd ["_law_stream", "_law_things"] (spMixed K) := by
  refine F.ok scMixed (fun vs H Q E h => ?_) (fun cdv A outer s H vs Q E hr h => ?_)
  · obtain ⟨S, L, T, b, xs, c, rfl, _⟩ := h
    rfl
  · obtain ⟨S, L, T, b, xs, c, rfl, hT, hx, hc, hS, k⟩ := h
    refine ⟨_, pss_cons (ps_set (i := 2) scMixed.nd rfl (.inr rfl) (pe_callTy call_list_of (by rfl) mli (by decide +kernel) (pa_cons (pv 1) pa_nil)))
      (pss_one (ps_ret (pe_lc (own := [("_law_k", 3)]) (g := gName 3) (tt := tYes) rfl scMixed.nd (pi_range1 (by rfl) mr (pa_cons (pe_callB call_len (by rfl) ml PySem.boot_len (pa_cons (pv 2) pa_nil)) pa_nil)) (blkOk_by (N := nMixed) (sc := defScope sMixed) (by decide +kernel))
          (fun _ _ _ _ _ => pg_name (i := 3) scMixed.nd rfl (.inl rfl)) (fun _ _ _ _ _ => pts_nil)
          (fun _ _ _ _ _ => show PE _ _ (tBM K _ _ _ _) from pe_bm PySem.F.plainAttrs_list PySem.F.slot_list_pop PySem.F.type_list_pop mt_popAt (pv 2) (pa_cons (pe_call GD hr (by rfl) mD kD bD .nil pass0 (pa_cons (pv 0) (pa_cons (pe_callB (len_k (Kf := K)) (by rfl) ml PySem.boot_len (pa_cons (pv 2) pa_nil)) pa_nil))) pa_nil))))), ?_⟩
    refine ⟨_, rfl, T, xs, rfl, hT.any, fun l hl => ?_⟩
    have lS := hS.off hl
    refine ⟨_, rfl, _, xs.length, rfl, .inl ⟨xs, SqL.of upd_same, rfl⟩, _, rfl, by omega, by omega, fun D hD => lc_range (lo := 0) (n := xs.length) (fun i H2 => ∃ acc rest : List V, (acc ++ rest).Perm xs ∧ acc.length = i ∧ H2 l = some (.lst rest) ∧ H2 D = some (.lst acc) ∧ StreamAt H2 S L (c + i) ∧ Kept S L H H2) ?_ ?_ ?_⟩
    · have nD : l ≠ D := ne_of_none upd_same hD
      exact ⟨[], xs, .refl _, rfl, (upd_ne nD).trans upd_same, upd_same, (hS.new hl).new hD, ((Kept.refl H).new hl).new ((Kept.none ((Kept.refl H).new hl) hD ((hS.new hl).off hD).1 ((hS.new hl).off hD).2))⟩
    · rintro i H2 hi ⟨acc, rest, hp, ha, hl2, hD2, hS2, hk2⟩
      have len : acc.length + rest.length = xs.length := by rw [← List.length_append]; exact hp.length_eq
      have nD : D ≠ S ∧ D ≠ L := (hS.new hl).off hD
      refine ⟨rfl, _, rfl, .inl ⟨rfl, _, SqL.of hl2⟩, _, rfl, _, rfl, _, rest.length, rfl, .inl ⟨rest, SqL.of hl2, rfl⟩, S, L, _, _, rfl, by omega, by omega, by omega, hS2, fun r H3 r0 r1 hS3 hk3 => ?_⟩
      have hl3 := hk3 _ _ hl2 lS.1 lS.2
      have hD3 := hk3 _ _ hD2 nD.1 nD.2
      obtain ⟨v, e1, e2⟩ := at_in r0 r1
      have lt : r.toNat < rest.length := (List.getElem?_eq_some_iff.mp e1).1
      have nlD : D ≠ l := (ne_of_none (show upd H l (.lst xs) l = some (.lst xs) from upd_same) hD).symm
      refine ⟨l, rest, r, r.toNat, v, rfl, rfl, hl3, by omega, by omega, ?_, e1, acc, (upd_ne nlD).trans hD3, by rw [sizeLine_eq]; omega, acc ++ [v], rest.eraseIdx r.toNat, ?_, by rw [List.length_append, ha]; rfl, ?_, upd_same, ?_, ?_⟩
      · exact seq_at r0 r1
      · have z := perm_erase rest r.toNat v e1
        rw [List.append_assoc]
        exact ((List.perm_append_left_iff acc).mpr z).trans hp
      · exact (upd_ne nlD.symm).trans upd_same
      · have z := (hS3.put (o := .lst (rest.eraseIdx r.toNat)) lS.1 lS.2).put (o := .lst (acc ++ [v])) nD.1 nD.2
        exact z
      · exact fun b u e n1 n2 => (upd_ne (ne_of_none ((upd_ne (ne_of_none e hl)).trans e) hD)).trans ((upd_ne (ne_of_none e hl)).trans (hk3 b u (hk2 b u e n1 n2) n1 n2))
    · rintro H2 ⟨acc, rest, hp, ha, hl2, hD2, hS2, hk2⟩
      have len : acc.length + rest.length = xs.length := by rw [← List.length_append]; exact hp.length_eq
      obtain rfl : rest = [] := List.eq_nil_of_length_eq_zero (by omega)
      rw [List.append_nil] at hp
      exact k acc D H2 hp (Kept.none ((Kept.refl H).new hl) hD ((hS.new hl).off hD).1 ((hS.new hl).off hD).2) hD2 hS2 hk2
end
end K6
namespace K6
open PySem PySem.Spec PyProof.Rows L2 LamX NdefX EV
/-! ### names -/
/-- one to eight small letters -/
def Name1 (z : Str) : Prop := 1 ≤ z.length ∧ z.length ≤ 8 ∧ ∀ ch ∈ z.cps.toList, 97 ≤ ch ∧ ch ≤ 122
theorem join_nil : ∀ l : List Nat, TL.joinL [] (l.map fun c => [c]) = l
  | [] => rfl
  | [_] => rfl
  | a :: b :: r => by
    have z := join_nil (b :: r)
    show [a] ++ ([] ++ TL.joinL [] ((b :: r).map fun c => [c])) = a :: b :: r
    rw [z]
    rfl
def signs (l : List Nat) : List Str := l.map fun c => ⟨#[c]⟩
theorem len_signs : ∀ l : List Nat, ((signs l).map (·.length)).sum = l.length
  | [] => rfl
  | a :: r => by
    have z := len_signs r
    show 1 + ((signs r).map (·.length)).sum = r.length + 1
    rw [z]
    omega
theorem join_signs (l : List Nat) : (Txt.join (Str.ofString "") (signs l)).cps.toList = l := by
  rw [TL.join_eq]
  have z := TL.tl_join (Str.ofString "") (signs l)
  have e : (signs l).map TL.tl = l.map fun c => [c] := by
    unfold signs
    rw [List.map_map]
    rfl
  rw [e] at z
  exact z.trans (join_nil l)
theorem nodup_le {α : Type} [DecidableEq α] : ∀ (xs ys : List α), xs.Nodup → (∀ x ∈ xs, x ∈ ys) → xs.length ≤ ys.length
  | [], ys, _, _ => Nat.zero_le _
  | x :: r, ys, nd, sub => by
    have nd' := List.nodup_cons.mp nd
    have z := nodup_le r (ys.erase x) nd'.2 fun y hy => (List.mem_erase_of_ne (fun e : y = x => nd'.1 (e ▸ hy))).mpr (sub y (List.mem_cons_of_mem _ hy))
    rw [List.length_erase_of_mem (sub x List.mem_cons_self)] at z
    have pos : 0 < ys.length := List.length_pos_of_mem (sub x List.mem_cons_self)
    show r.length + 1 ≤ _
    omega
theorem inV_str (z : Str) : ∀ ns : List Str, inV (.str z) (ns.map V.str) = decide (z ∈ ns)
  | [] => by simp [inV]
  | n :: r => by
    have h := inV_str z r
    unfold inV at h ⊢
    rw [List.map_cons, List.any_cons, h]
    show ((n == z) || decide (z ∈ r)) = decide (z ∈ n :: r)
    by_cases e : n = z
    · subst e; simp
    · rw [beq_eq_false_iff_ne.mpr e]
      have e2 : z ≠ n := fun q => e q.symm
      simp [e2]
theorem flat_str (ns : List Str) : (ns.map V.str).all flatV = true := by
  rw [List.all_map]
  exact List.all_eq_true.mpr fun _ _ => rfl
def letters : Str := Str.ofString "abcdefghijklmnopqrstuvwxyz"
def words : List Str := ["sign", "helper", "clause", "dead", "forced", "all", "found"]
theorem words_good : ∀ z ∈ words, Name1 z := by
  have all : ∀ z ∈ words, 1 ≤ z.length ∧ z.length ≤ 8 ∧ ∀ ch ∈ z.cps.toList, 97 ≤ ch ∧ ch ≤ 122 := by decide +kernel
  exact all
theorem letter_at : ∀ i < 26, letters.cps.toList[i]? = some (97 + i) := by decide +kernel
def spare (j : Nat) : Str := (Str.ofString "q" ++ ⟨#[97 + j / 26]⟩) ++ ⟨#[97 + j % 26]⟩
theorem spare_list (j : Nat) : (spare j).cps.toList = [113, 97 + j / 26, 97 + j % 26] := rfl
theorem spare_good {j : Nat} (h : j < 676) : Name1 (spare j) := by
  refine ⟨by show 1 ≤ 3; decide, by show 3 ≤ 8; decide, fun ch hc => ?_⟩
  rw [spare_list] at hc
  have h2 : j / 26 < 26 := by omega
  have h3 : j % 26 < 26 := by omega
  simp only [List.mem_cons, List.not_mem_nil, or_false] at hc
  omega
theorem spare_inj {i j : Nat} (h : spare i = spare j) : i = j := by
  have z := congrArg (fun s : Str => s.cps.toList) h
  replace z : [113, 97 + i / 26, 97 + i % 26] = [113, 97 + j / 26, 97 + j % 26] := z
  injection z with _ z
  injection z with z1 z
  injection z with z2 _
  omega
theorem spare_free {ns : List Str} (small : ns.length ≤ 600) (all : ∀ j < 676, spare j ∈ ns) : False := by
  have nd : ((List.range 676).map spare).Nodup := List.nodup_range.map spare fun i j ne e => ne (spare_inj e)
  have z := nodup_le _ ns nd fun x hx => by
    obtain ⟨j, hj, rfl⟩ := List.mem_map.mp hx
    exact all j (List.mem_range.mp hj)
  rw [List.length_map, List.length_range] at z
  omega
def spFresh (K : PySem.W.Frag) : Sp := fun vs H Q _ => ∃ (S L T : Addr) (ns : List Str) (c : Nat), vs = [.ref S, .ref T] ∧ SqL K H T (ns.map V.str) ∧ (∀ H', Kept S L H H' → SqL K H' T (ns.map V.str)) ∧ ns.length ≤ 600 ∧ c ≤ 90000 ∧ StreamAt H S L c ∧
  ∀ (z : Str) (c' : Nat) (H' : Hp), c' ≤ c + 11 → Name1 z → z ∉ ns → StreamAt H' S L c' → Kept S L H H' → Q (.str z) H'
section
variable {P : Program} {w : World} {K : PySem.W.Frag} {mg : Str → Option Value} {base : Heap} {f fD fP : Addr} {fd fdD fdP : FuncData}
abbrev nFresh : List Str := ["_law_stream", "_law_taken", "_law_letters", "_law_words", "_law_k", "_law_name", "_law_spare"]
theorem scFresh : FnScope nFresh ["_law_stream", "_law_taken"] (defScope sFresh) := ⟨rfl, rfl, rfl, by decide +kernel, rfl, by decide +kernel, by decide +kernel⟩
theorem ok_fresh (F : Fun K "_law_fresh" "_law_fresh" sFresh f fd) (GD : FnOk P w K mg base CX0 1 fD fdD ["_law_stream", "_law_many"] spDraw) (mD : mg "_law_draw" = some (.ref fD)) (kD : PySem.W.keepIn K (.ref fD) = true) (bD : L2.Binds K fdD ["_law_stream", "_law_many"] [])
    (GL : FnOk P w K mg base CX0 2 fP fdP ["_law_stream", "_law_things"] (spPickL K)) (mP : mg "_law_pick" = some (.ref fP)) (kP : PySem.W.keepIn K (.ref fP) = true) (bP : L2.Binds K fdP ["_law_stream", "_law_things"] []) (mr : mg "range" = none) (mi : mg "int" = none) :
    FnOk P w K mg base CX0 3 f fd ["_law_stream", "_law_taken"] (spFresh K) := by
  refine F.ok scFresh (fun vs H Q E h => ?_) (fun cdv A outer s H vs Q E hr h => ?_)
  · obtain ⟨S, L, T, ns, c, rfl, _⟩ := h
    rfl
  · obtain ⟨S, L, T, ns, c, rfl, hT, hT', hn, hc, hS, k⟩ := h
    have hr1 : Room 1 _ := hr.mono (by decide)
    have rest : ∃ tt, PSs (cxOf CX0 P w K mg base nFresh "_law_fresh" (defScope sFresh) f cdv A outer s H E).nox ((defBody sFresh).drop 3) tt ∧
        ∀ (z : Str) (c' : Nat) (H1 : Hp) (W : Addr) (o4 : Option V), c' ≤ c + 11 → Name1 z → StreamAt H1 S L c' → Kept S L H H1 → tt { nx := fun _ H' => Q .non H', rt := Q } [some (.ref S), some (.ref T), some (.str letters), some (.ref W), o4, some (.str z), none] H1 := by
      refine ⟨_, pss_cons (ps_for PassesOwn.never rfl (pi_range1 (by rfl) mr (pa_cons (pe_op op_mul pe_int (pe_callTy call_int1 (by rfl) mi (by decide +kernel) (pa_cons (pe_cmpR op_in_seq (pv 5) (pv 1) rfl) pa_nil))) pa_nil)) (pg_name (i := 4) scFresh.nd rfl (.inl rfl))
        (pss_cons (ps_set (i := 6) scFresh.nd rfl (.inl rfl) (pe_op op_add_str (pe_op op_add_str pe_str (pe_ix ix_seq (pv 2) (pe_op op_fdiv (pv 4) pe_int) (fun _ _ => rfl))) (pe_ix ix_seq (pv 2) (pe_op op_mod (pv 4) pe_int) (fun _ _ => rfl))))
        (pss_one (ps_if (pt_cmpR op_notIn_seq (pv 6) (pv 1) rfl) (pss_one (ps_ret (pv 6))) pss_nil))))
        (pss_one (ps_ret (pv 5))), fun z c' H1 W o4 hc' good hS1 hk1 => ?_⟩
      have hT1 := hT' H1 hk1
      refine ⟨_, rfl, _, rfl, T, _, rfl, .inl hT1, rfl, flat_str ns, .inr ⟨_, rfl, ?_⟩⟩
      rw [inV_str]
      by_cases hz : z ∈ ns
      · rw [decide_eq_true hz]
        refine ⟨_, _, rfl, rfl, .inl ⟨by decide, by decide⟩, _, rfl, by decide, by decide, ?_⟩
        refine for_range (lo := 0) (n := 676) (fun i σ H2 => H2 = H1 ∧ (∀ j < i, spare j ∈ ns) ∧ ∃ o4 o6, σ = [some (.ref S), some (.ref T), some (.str letters), some (.ref W), o4, some (.str z), o6]) ⟨rfl, fun j hj => absurd hj (Nat.not_lt_zero j), _, _, rfl⟩ ?_ ?_
        · rintro i σ H2 hi ⟨rfl, hj, _, _, rfl⟩
          have h26 : (26 : Int) ≠ 0 := by decide
          have a1 : (0 + (i : Int)) / 26 = ((i / 26 : Nat) : Int) := by omega
          have a2 : (0 + (i : Int)) % 26 = ((i % 26 : Nat) : Int) := by omega
          have b1 : i / 26 < 26 := by omega
          have b2 : i % 26 < 26 := by omega
          have len : letters.length ≤ sizeLine := by show 26 ≤ sizeLine; decide
          refine ⟨_, rfl, _, rfl, _, _, rfl, rfl, ⟨by decide, by decide⟩, ?_⟩
          refine .inr (.inr ⟨letters, _, 97 + i / 26, rfl, rfl, len, by rw [a1]; exact atI_nat (letter_at _ b1), ?_⟩)
          refine ⟨_, _, rfl, rfl, by show 1 + 1 ≤ sizeLine; decide, _, rfl, _, rfl, _, _, rfl, rfl, by show (0 : Int) < 26; decide, ?_⟩
          refine .inr (.inr ⟨letters, _, 97 + i % 26, rfl, rfl, len, by rw [a2]; exact atI_nat (letter_at _ b2), ?_⟩)
          refine ⟨_, _, rfl, rfl, by show 2 + 1 ≤ sizeLine; decide, _, rfl, _, rfl, T, _, rfl, .inl hT1, rfl, flat_str ns, _, rfl, ?_⟩
          rw [if_pos rfl, inV_str]
          by_cases hs : spare i ∈ ns
          · have e : decide ((Str.ofString "q" ++ (⟨#[97 + i / 26]⟩ : Str)) ++ (⟨#[97 + i % 26]⟩ : Str) ∈ ns) = true := decide_eq_true hs
            rw [e]
            refine iteF ⟨rfl, fun j hj' => ?_, _, _, rfl⟩
            rcases Nat.lt_succ_iff_lt_or_eq.mp hj' with q | q
            · exact hj j q
            · exact q ▸ hs
          · have e : decide ((Str.ofString "q" ++ (⟨#[97 + i / 26]⟩ : Str)) ++ (⟨#[97 + i % 26]⟩ : Str) ∈ ns) = false := decide_eq_false hs
            rw [e]
            exact iteT ⟨_, rfl, k (spare i) c' _ hc' (spare_good hi) hs hS1 hk1⟩
        · rintro σ H2 ⟨rfl, hj, _⟩
          exact (spare_free hn hj).elim
      · rw [decide_eq_false hz]
        refine ⟨_, _, rfl, rfl, .inl ⟨by decide, by decide⟩, _, rfl, by decide, by decide, ?_⟩
        refine for_range (lo := 0) (n := 0) (fun i σ H2 => H2 = H1 ∧ ∃ o4 o6, σ = [some (.ref S), some (.ref T), some (.str letters), some (.ref W), o4, some (.str z), o6]) ⟨rfl, _, _, rfl⟩ (fun i _ _ hi _ => absurd hi (Nat.not_lt_zero i)) ?_
        rintro σ H2 ⟨rfl, _, _, rfl⟩
        exact ⟨_, rfl, k z c' _ hc' good hz hS1 hk1⟩
    obtain ⟨tt, htt, hrest⟩ := rest
    refine ⟨_, pss_cons (ps_asg (pe_tup (pa_cons pe_str (pa_cons (pe_lst (pa_cons pe_str (pa_cons pe_str (pa_cons pe_str (pa_cons pe_str (pa_cons pe_str (pa_cons pe_str (pa_cons pe_str pa_nil)))))))) pa_nil))) (pg_tup rfl (pgs_cons (pg_name (i := 2) scFresh.nd rfl (.inr rfl)) (pgs_cons (pg_name (i := 3) scFresh.nd rfl (.inl rfl)) pgs_nil))))
      (pss_cons (ps_set (i := 5) scFresh.nd rfl (.inl rfl) (pe_join pe_str (pe_lc (own := [("_law_k", 4)]) (g := gName 4) (tt := tYes) rfl scFresh.nd (pi_range1 (by rfl) mr (pa_cons (pe_ix ix_list (pe_lst (pa_cons pe_int (pa_cons pe_int (pa_cons pe_int (pa_cons pe_int (pa_cons pe_int (pa_cons pe_int pa_nil))))))) (pe_call GD hr1 (by rfl) mD kD bD .nil pass0 (pa_cons (pv 0) (pa_cons pe_int pa_nil))) (fun _ _ => rfl)) pa_nil)) (blkOk_by (N := nFresh) (sc := defScope sFresh) (by decide +kernel))
          (fun _ _ _ _ _ => pg_name (i := 4) scFresh.nd rfl (.inl rfl)) (fun _ _ _ _ _ => pts_nil) (fun _ _ _ _ _ => show PE _ _ (tOp (rIx K) _ _) from pe_ix ix_seq (pv 2) (pe_call GD hr1 (by rfl) mD kD bD .nil pass0 (pa_cons (pv 0) (pa_cons pe_int pa_nil))) (fun _ _ => rfl)))))
      (pss_cons (ps_set (i := 5) scFresh.nd rfl (.inl rfl) (pe_ifExp (pt_cmpR op_eq (pe_call GD hr1 (by rfl) mD kD bD .nil pass0 (pa_cons (pv 0) (pa_cons pe_int pa_nil))) pe_int (nomark _)) (pe_call GL hr (by rfl) mP kP bP .nil pass0 (pa_cons (pv 0) (pa_cons (pv 3) pa_nil))) (pv 5)))
      htt)), ?_⟩
    refine ⟨(by show 7 ≤ sizeLine; decide), fun W hW => ⟨(by show 2 ≤ sizeLine; decide), fun t ht => ⟨t, _, rfl, SqT.of upd_same, rfl, _, _, rfl, _, _, rfl, rfl, ?_⟩⟩⟩
    have offW := hS.off hW
    have hS1 := hS.new (o := .lst (words.map V.str)) hW
    have offt := hS1.off ht
    have hS2 := hS1.new (o := .tup [.str letters, .ref W]) ht
    refine ⟨⟨_, rfl⟩, (by show 6 ≤ sizeLine; decide), fun l hl => ⟨_, rfl, S, L, 6, c, rfl, by decide, by decide, by omega, hS2.new hl, fun r H1 r0 r1 hS3 hk1 => ?_⟩⟩
    have offl := hS2.off hl
    have six : ∃ n : Nat, atI [V.int 1, V.int 1, V.int 1, V.int 2, V.int 3, V.int 8] r = some (.int (n : Int)) ∧ 1 ≤ n ∧ n ≤ 8 := by
      have hh : r = 0 ∨ r = 1 ∨ r = 2 ∨ r = 3 ∨ r = 4 ∨ r = 5 := by omega
      rcases hh with rfl | rfl | rfl | rfl | rfl | rfl
      · exact ⟨1, rfl, by decide, by decide⟩
      · exact ⟨1, rfl, by decide, by decide⟩
      · exact ⟨1, rfl, by decide, by decide⟩
      · exact ⟨2, rfl, by decide, by decide⟩
      · exact ⟨3, rfl, by decide, by decide⟩
      · exact ⟨8, rfl, by decide, by decide⟩
    obtain ⟨n, hn6, n0, n8⟩ := six
    have hl1 := hk1 _ _ upd_same offl.1 offl.2
    refine ⟨l, _, r, _, rfl, rfl, SqL.of hl1, hn6, _, rfl, by omega, by omega, fun D hD => lc_range (lo := 0) (n := n) (fun i H2 => ∃ cs : List Nat, cs.length = i ∧ (∀ ch ∈ cs, 97 ≤ ch ∧ ch ≤ 122) ∧ H2 D = some (.lst ((K6.signs cs).map V.str)) ∧ StreamAt H2 S L (c + 1 + i) ∧ Kept S L H1 H2)
      ⟨[], rfl, fun _ h => (nomatch h), upd_same, hS3.new hD, (Kept.refl H1).new hD⟩ ?_ ?_⟩
    · rintro i H2 hi ⟨cs, hcs, hch, hD2, hS4, hk2⟩
      have offD := hS3.off hD
      refine ⟨rfl, _, rfl, _, rfl, S, L, 26, _, rfl, by decide, by decide, by omega, hS4, fun q H3 q0 q1 hS5 hk3 => .inr (.inr ⟨letters, q, 97 + q.toNat, rfl, rfl, by show 26 ≤ sizeLine; decide, ?_, _, hk3 _ _ hD2 offD.1 offD.2, ?_, cs ++ [97 + q.toNat], ?_, ?_, ?_, hS5.put offD.1 offD.2, ?_⟩)⟩
      · have z := atI_nat (letter_at q.toNat (by omega))
        rwa [Int.toNat_of_nonneg q0] at z
      · rw [List.length_map]
        unfold K6.signs
        rw [List.length_map, sizeLine_eq]
        omega
      · rw [List.length_append, hcs]
        rfl
      · intro x hx
        rcases List.mem_append.mp hx with z | z
        · exact hch x z
        · rw [List.mem_singleton.mp z]
          omega
      · rw [upd_same]
        unfold K6.signs
        rw [List.map_append, List.map_append]
        rfl
      · exact fun b o e n1 n2 => (upd_ne (ne_of_none e hD)).trans (hk3 b o (hk2 b o e n1 n2) n1 n2)
    · rintro H2 ⟨cs, hcs, hch, hD2, hS4, hk2⟩
      refine ⟨_, D, K6.signs cs, rfl, rfl, .inl (SqL.of hD2), ?_, ?_⟩
      · rw [len_signs, hcs]
        show n + (K6.signs cs).length * 0 ≤ 16777216
        omega
      have good : Name1 (Txt.join (Str.ofString "") (K6.signs cs)) := by
        have e := join_signs cs
        have el : (Txt.join (Str.ofString "") (K6.signs cs)).length = n := by
          show (Txt.join (Str.ofString "") (K6.signs cs)).cps.size = n
          rw [← Array.length_toList, e, hcs]
        exact ⟨by omega, by omega, fun ch h => hch ch (e ▸ h)⟩
      have same3 : Kept S L H H2 := ((((Kept.refl H).new hW).trans ((Kept.refl _).new ht)).trans ((Kept.refl _).new hl)).trans (hk1.trans hk2)
      have hWs : ∀ H', Kept S L H2 H' → H' W = some (.lst (words.map V.str)) := fun H' hk' => hk' _ _ (hk2 _ _ (hk1 _ _ ((upd_ne (ne_of_none (show upd (upd H W (.lst (words.map V.str))) t _ W = some (.lst (words.map V.str)) from (upd_ne (ne_of_none upd_same ht)).trans upd_same) hl)).trans ((upd_ne (ne_of_none upd_same ht)).trans upd_same)) offW.1 offW.2) offW.1 offW.2) offW.1 offW.2
      refine ⟨_, rfl, S, L, 9, _, rfl, by decide, by decide, by omega, hS4, fun q H3 q0 q1 hS5 hk3 => ⟨rfl, _, rfl, ?_⟩⟩
      refine ite2 (fun _ => ?_) (fun _ => ?_)
      · refine ⟨_, rfl, _, rfl, S, L, W, words.map V.str, _, rfl, SqL.of (hWs H3 hk3), fun H' hk' => SqL.of (hWs H' (hk3.trans hk')), by decide, by decide, by omega, hS5, fun i v H4 hi hS6 hk4 => ?_⟩
        obtain ⟨z, hz, rfl⟩ : ∃ z ∈ words, v = .str z := by
          obtain ⟨z, h1, h2⟩ := List.mem_map.mp (List.mem_of_getElem? hi)
          exact ⟨z, h1, h2.symm⟩
        exact hrest z _ H4 W _ (by omega) (words_good z hz) hS6 ((same3.trans hk3).trans hk4)
      · exact ⟨_, rfl, hrest _ _ H3 W _ (by omega) good hS5 (same3.trans hk3)⟩
end
end K6
namespace K6
open PySem PySem.Spec PyProof.Rows L2 LamX NdefX EV
def spNames : Sp := fun vs H Q _ => ∃ (S L : Addr) (m c : Nat), vs = [.ref S, .int (m : Int)] ∧ m ≤ 60 ∧ c ≤ 80000 ∧ StreamAt H S L c ∧
  ∀ (ns : List Str) (p : Addr) (c' : Nat) (H' : Hp), ns.length = m → ns.Nodup → (∀ z ∈ ns, Name1 z) → H p = none → H' p = some (.lst (ns.map V.str)) → c' ≤ c + 11 * m → StreamAt H' S L c' → Kept S L H H' → Q (.ref p) H'
section
variable {P : Program} {w : World} {K : PySem.W.Frag} {mg : Str → Option Value} {base : Heap} {f fD fF : Addr} {fd fdD fdF : FuncData}
abbrev nNames : List Str := ["_law_stream", "_law_many", "_law_found", "_law_k"]
theorem scNames : FnScope nNames ["_law_stream", "_law_many"] (defScope sNames) := ⟨rfl, rfl, rfl, by decide +kernel, rfl, by decide +kernel, by decide +kernel⟩
theorem ok_names (F : Fun K "_law_names" "_law_names" sNames f fd) (GF : FnOk P w K mg base CX0 3 fF fdF ["_law_stream", "_law_taken"] (spFresh K)) (mF : mg "_law_fresh" = some (.ref fF)) (kF : PySem.W.keepIn K (.ref fF) = true) (bF : L2.Binds K fdF ["_law_stream", "_law_taken"] []) (mr : mg "range" = none) :
    FnOk P w K mg base CX0 4 f fd ["_law_stream", "_law_many"] spNames := by
  refine F.ok scNames (fun vs H Q E h => ?_) (fun cdv A outer s H vs Q E hr h => ?_)
  · obtain ⟨S, L, m, c, rfl, _⟩ := h
    rfl
  · obtain ⟨S, L, m, c, rfl, hm, hc, hS, k⟩ := h
    refine ⟨_, pss_cons (ps_set (i := 2) scNames.nd rfl (.inl rfl) (pe_lst pa_nil))
      (pss_cons (ps_for PassesOwn.never rfl (pi_range1 (by rfl) mr (pa_cons (pv 1) pa_nil)) (pg_name (i := 3) scNames.nd rfl (.inl rfl))
        (pss_one (ps_expr (pe_bm PySem.F.plainAttrs_list PySem.F.slot_list_append PySem.F.type_list_append mt_append (pv 2) (pa_cons (pe_call GF hr (by rfl) mF kF bF .nil pass0 (pa_cons (pv 0) (pa_cons (pv 2) pa_nil))) pa_nil)))))
      (pss_one (ps_ret (pv 2)))), ?_⟩
    refine ⟨by show 0 ≤ sizeLine; exact Nat.zero_le _, fun p hp => ⟨_, rfl, _, rfl, by omega, by omega, for_range (lo := 0) (n := m) (fun i σ H2 => ∃ (ns : List Str) (c' : Nat) (o3 : Option V), σ = [some (.ref S), some (.int (m : Int)), some (.ref p), o3] ∧ ns.length = i ∧ ns.Nodup ∧ (∀ z ∈ ns, Name1 z) ∧ H2 p = some (.lst (ns.map V.str)) ∧ c' ≤ c + 11 * i ∧ StreamAt H2 S L c' ∧ Kept S L H H2)
      ⟨[], c, _, rfl, rfl, List.nodup_nil, (fun _ h => nomatch h), upd_same, by omega, hS.new hp, (Kept.refl H).new hp⟩ ?_ ?_⟩⟩
    · rintro i σ H2 hi ⟨ns, c', o3, rfl, hl, nd, good, hp2, hc', hS2, hk2⟩
      have off := hS.off hp
      refine ⟨_, rfl, .inl ⟨rfl, _, SqL.of hp2⟩, _, rfl, _, rfl, S, L, p, ns, c', rfl, SqL.of hp2, fun H' hk' => SqL.of (hk' _ _ hp2 off.1 off.2), by omega, by omega, hS2, fun z c2 H3 hc2 hz hn hS3 hk3 => ?_⟩
      have hp3 := hk3 _ _ hp2 off.1 off.2
      refine ⟨p, _, _, rfl, rfl, hp3, by rw [List.length_map, sizeLine_eq]; omega, ns ++ [z], c2, _, rfl, by rw [List.length_append, hl]; rfl, ?_, ?_, ?_, by omega, hS3.put off.1 off.2, ?_⟩
      · exact List.nodup_append.mpr ⟨nd, List.nodup_cons.mpr ⟨fun h => (nomatch h), List.nodup_nil⟩, fun a ha b hb e => hn (by rw [← List.mem_singleton.mp hb, ← e]; exact ha)⟩
      · intro y hy
        rcases List.mem_append.mp hy with q | q
        · exact good y q
        · exact List.mem_singleton.mp q ▸ hz
      · rw [upd_same, List.map_append]
        rfl
      · exact fun b o e n1 n2 => (upd_ne (ne_of_none e hp)).trans (hk3 b o (hk2 b o e n1 n2) n1 n2)
    · rintro σ H2 ⟨ns, c', o3, rfl, hl, nd, good, hp2, hc', hS2, hk2⟩
      exact ⟨_, rfl, k ns p c' H2 hl nd good hp hp2 hc' hS2 hk2⟩
end
theorem same_new {H : Hp} {p : Addr} {o : HO} (h : H p = none) : Same H (upd H p o) := fun _ _ e => (upd_ne (ne_of_none e h)).trans e
/-! ### literals, ascending -/
def neg (n : Str) : Str := Str.ofString "-" ++ n
def lits (ns : List Str) : List Str := ns.flatMap fun n => [n, neg n]
def asc (ns some : List Str) : List Str := (lits ns).filter fun l => decide (l ∈ some)
theorem neg_list (n : Str) : (neg n).cps.toList = 45 :: n.cps.toList := by
  show (#[45] ++ n.cps).toList = _
  rw [Array.toList_append]
  rfl
theorem neg_len (n : Str) : (neg n).length = n.length + 1 := by
  show (neg n).cps.size = n.cps.size + 1
  rw [← Array.length_toList, neg_list, List.length_cons, Array.length_toList]
theorem lits_len (ns : List Str) : (lits ns).length = 2 * ns.length := by
  unfold lits
  induction ns with
  | nil => rfl
  | cons n r ih => rw [List.flatMap_cons, List.length_append, ih]; show 2 + 2 * r.length = 2 * (r.length + 1); omega
theorem asc_len (ns some : List Str) : (asc ns some).length ≤ 2 * ns.length := Nat.le_trans (List.length_filter_le ..) (Nat.le_of_eq (lits_len ns))
def spUp (K : PySem.W.Frag) : Sp := fun vs H Q _ => ∃ (A B : Addr) (b : Bool) (ss ns : List Str), vs = [.ref A, .ref B] ∧ Sq K b H A (ss.map V.str) ∧ (∀ H', Same H H' → Sq K b H' A (ss.map V.str)) ∧ SqL K H B (ns.map V.str) ∧ (∀ H', Same H H' → SqL K H' B (ns.map V.str)) ∧ ns.length ≤ 60 ∧ (∀ z ∈ ns, z.length ≤ 8) ∧
  ∀ (p : Addr) (H' : Hp), H p = none → H' p = some (.tup ((asc ns ss).map V.str)) → Same H H' → Q (.ref p) H'
section
variable {P : Program} {w : World} {K : PySem.W.Frag} {mg : Str → Option Value} {base : Heap} {f : Addr} {fd : FuncData}
abbrev nUp : List Str := ["_law_some", "_law_names_here", "_law_found", "_law_name", "_law_one"]
theorem scUp : FnScope nUp ["_law_some", "_law_names_here"] (defScope sUp) := ⟨rfl, rfl, rfl, by decide +kernel, rfl, by decide +kernel, by decide +kernel⟩
theorem ok_up (F : Fun K "_law_up" "_law_up" sUp f fd) (mt : mg "tuple" = none) : FnOk P w K mg base CX0 1 f fd ["_law_some", "_law_names_here"] (spUp K) := by
  refine F.ok scUp (fun vs H Q E h => ?_) (fun cdv A outer s H vs Q E hr h => ?_)
  · obtain ⟨A, B, b, ss, ns, rfl, _⟩ := h
    rfl
  · obtain ⟨A, B, b, ss, ns, rfl, hA, hA', hB, hB', hn, h8, k⟩ := h
    refine ⟨_, pss_cons (ps_set (i := 2) scUp.nd rfl (.inl rfl) (pe_lst pa_nil))
      (pss_cons (ps_for PassesOwn.never rfl (pi_list (pv 1)) (pg_name (i := 3) scUp.nd rfl (.inl rfl))
        (pss_one (ps_expr (pe_bm PySem.F.plainAttrs_list PySem.F.slot_list_extend PySem.F.type_list_extend mt_extend (pv 2) (pa_cons (pe_lc (own := [("_law_one", 4)]) (g := gName 4) rfl scUp.nd (pi_tup (pe_tup (pa_cons (pv 3) (pa_cons (pe_op op_add_str pe_str (pv 3)) pa_nil)))) (blkOk_by (N := nUp) (sc := defScope sUp) (by decide +kernel))
          (fun _ _ _ _ _ => pg_name (i := 4) scUp.nd rfl (.inl rfl)) (fun _ _ _ _ _ => pts_one (show PT _ _ (tTest (tOp (rIn K false) _ _)) from pt_cmpR op_in_seq (pv 4) (pv 0) rfl)) (fun _ _ _ _ _ => pv 4)) pa_nil)))))
      (pss_one (ps_ret (pe_tupleOf (by rfl) mt (pv 2))))), ?_⟩
    refine ⟨by show 0 ≤ sizeLine; exact Nat.zero_le _, fun p hp => ⟨_, rfl, B, rfl, ⟨_, hB' _ (same_new hp)⟩, for_list (K := K) (a := B) (xs := ns.map V.str) (fun i σ H2 => ∃ (o3 o4 : Option V), σ = [some (.ref A), some (.ref B), some (.ref p), o3, o4] ∧ Same H H2 ∧ H2 p = some (.lst ((asc (ns.take i) ss).map V.str)))
      ⟨_, _, rfl, same_new hp, upd_same⟩ (fun i σ H2 hi ⟨_, _, _, sm, _⟩ => hB' _ sm) ?_ ?_⟩⟩
    · rintro i x σ H2 hx ⟨o3, o4, rfl, sm, hp2⟩
      obtain ⟨n, hn', rfl⟩ : ∃ n, ns[i]? = some n ∧ x = .str n := by
        rw [List.getElem?_map] at hx
        cases e : ns[i]? with
        | none => rw [e] at hx; cases hx
        | some n => rw [e] at hx; exact ⟨n, rfl, (Option.some.inj hx).symm⟩
      have n8 := h8 n (List.mem_of_getElem? hn')
      have ilt : i < ns.length := (List.getElem?_eq_some_iff.mp hn').1
      refine ⟨_, rfl, .inl ⟨rfl, _, SqL.of hp2⟩, _, rfl, _, rfl, _, _, rfl, rfl, ?_, by show 2 ≤ sizeLine; decide, fun t ht => ⟨t, rfl, ⟨_, SqT.of upd_same⟩, fun D hD => lc_tup (K := K) (a := t) (xs := [.str n, .str (neg n)]) (fun j H3 => Same (upd H2 t (.tup [.str n, .str (neg n)])) H3 ∧ H3 D = some (.lst (([n, neg n].take j).filter (fun l => decide (l ∈ ss)) |>.map V.str)))
        ⟨same_new hD, upd_same⟩ (fun j H3 _ hh => SqT.of (hh.1 _ _ upd_same)) ?_ ?_⟩⟩
      · show 1 + n.length ≤ sizeLine
        rw [sizeLine_eq]; omega
      · rintro j y H3 hy ⟨sm3, hD3⟩
        obtain ⟨l, hl, rfl⟩ : ∃ l, [n, neg n][j]? = some l ∧ y = .str l := by
          match j, hy with
          | 0, hy => exact ⟨n, rfl, (Option.some.inj hy).symm⟩
          | 1, hy => exact ⟨neg n, rfl, (Option.some.inj hy).symm⟩
          | j + 2, hy => simp at hy
        have sm2 : Same H H3 := (sm.trans (same_new ht)).trans sm3
        have e : [n, neg n].take (j + 1) = [n, neg n].take j ++ [l] := by rw [List.take_succ, hl]; rfl
        refine ⟨rfl, _, rfl, _, rfl, A, _, rfl, (hA' _ sm2).any, rfl, flat_str ss, _, rfl, ?_⟩
        rw [if_neg (by decide), inV_str]
        by_cases q : l ∈ ss
        · rw [decide_eq_true q]
          refine iteT ⟨_, rfl, _, hD3, ?_, fun b o h => (upd_ne (ne_of_none h hD)).trans (sm3 b o h), ?_⟩
          · rw [List.length_map, sizeLine_eq]
            have l3 : (([n, neg n].take j).filter fun l => decide (l ∈ ss)).length ≤ ([n, neg n].take j).length := List.length_filter_le _ _
            have l4 := List.length_take_le' j [n, neg n]
            have l5 : [n, neg n].length = 2 := rfl
            omega
          · rw [upd_same, e, List.filter_append, List.map_append]
            simp [q]
        · rw [decide_eq_false q]
          refine iteF ⟨sm3, ?_⟩
          rw [hD3, e, List.filter_append, List.map_append]
          simp [q]
      · rintro H3 ⟨sm3, hD3⟩
        have sm2 : Same H H3 := (sm.trans (same_new ht)).trans sm3
        have np : p ≠ D := ne_of_none (show upd H2 t (.tup [.str n, .str (neg n)]) p = some _ from (upd_ne (ne_of_none hp2 ht)).trans hp2) hD
        refine ⟨p, D, _, _, rfl, rfl, sm3 _ _ ((upd_ne (ne_of_none hp2 ht)).trans hp2), hD3, ?_, _, _, rfl, fun b o e => (upd_ne (ne_of_none e hp)).trans (sm2 b o e), ?_⟩
        · rw [List.length_map, List.length_map, sizeLine_eq]
          have l1 := asc_len (ns.take i) ss
          have l2 := List.length_take_le i ns
          have l3 : ((([n, neg n].take 2).filter fun l => decide (l ∈ ss))).length ≤ 2 := List.length_filter_le _ _
          have l4 : (List.map V.str [n, neg n]).length = 2 := rfl
          show _ + ((([n, neg n].take 2).filter fun l => decide (l ∈ ss))).length ≤ _
          omega
        · rw [upd_same]
          have e : ns.take (i + 1) = ns.take i ++ [n] := by rw [List.take_succ, hn']; rfl
          unfold asc lits
          rw [e, List.flatMap_append, List.filter_append, List.map_append]
          simp
    · rintro σ H2 ⟨o3, o4, rfl, sm, hp2⟩
      refine ⟨_, rfl, .inl ⟨p, _, rfl, SqL.of hp2, fun q hq => ?_⟩⟩
      rw [List.length_map, List.take_length]
      exact k q _ (sm.free hq) upd_same (sm.trans (same_new hq))
end
end K6
namespace K6
open PySem PySem.Spec PyProof.Rows L2 LamX NdefX EV
/-- a literal: a name, or its other side -/
def lit (q : Bool × Str) : Str := if q.1 = true then neg q.2 else q.2
/-- literals of distinct names of these -/
structure Lits (ns : List Str) (qs : List (Bool × Str)) : Prop where
  nd : (qs.map Prod.snd).Nodup
  sub : ∀ q ∈ qs, q.2 ∈ ns
theorem Kept.add {S L p : Addr} {H H' : Hp} {o : HO} (k : Kept S L H H') (h : H' p = Option.none) (off : p ≠ S ∧ p ≠ L) : Kept S L H (upd H' p o) := k.new (k.none h off.1 off.2)
theorem empty_add (n : Str) : Str.ofString "" ++ n = n := by
  obtain ⟨c⟩ := n
  show Str.mk (#[] ++ c) = _
  rw [Array.empty_append]
theorem unmap_str : ∀ (ys : List V) (xs : List Str), ys.Perm (xs.map V.str) → ∃ ms : List Str, ys = ms.map V.str ∧ ms.Perm xs := by
  intro ys xs h
  let un : V → Str := fun v => match v with | .str z => z | _ => Str.ofString ""
  have all : ∀ y ∈ ys, V.str (un y) = y := fun y hy => by
    obtain ⟨z, _, rfl⟩ := List.mem_map.mp (h.mem_iff.mp hy)
    rfl
  refine ⟨ys.map un, ?_, ?_⟩
  · rw [List.map_map]
    exact ((List.map_congr_left (f := V.str ∘ un) (g := id) all).trans (List.map_id ys)).symm
  · have z := h.map un
    rw [List.map_map] at z
    have e : xs.map (un ∘ V.str) = xs := (List.map_congr_left (g := id) fun _ _ => rfl).trans (List.map_id xs)
    rwa [e] at z
theorem dp_strs {K : PySem.W.Frag} {H : Hp} : ∀ ns : List Str, DpAll K H (ns.map V.str) (ns.map PyData.str)
  | [] => .nil
  | n :: r => .cons (.str n) (dp_strs r)
/-- a text of code points that are few enough -/
def Fit (z : Str) : Prop := ∀ ch ∈ z.cps.toList, ch < 128
theorem Fit.ok {z : Str} (h : Fit z) : PyData.strOk z = true := by
  show z.cps.all (fun c => decide (c < 0x110000)) = true
  rw [← Array.all_toList]
  exact List.all_eq_true.mpr fun c hc => decide_eq_true (Nat.lt_trans (h c hc) (by decide))
theorem Name1.fit {z : Str} (h : Name1 z) : Fit z := fun ch hc => Nat.lt_of_le_of_lt (h.2.2 ch hc).2 (by decide)
theorem Fit.neg {z : Str} (h : Fit z) : Fit (neg z) := fun ch hc => by
  rw [neg_list] at hc
  rcases List.mem_cons.mp hc with rfl | q
  · decide
  · exact h ch q
theorem Fit.lit {q : Bool × Str} (h : Fit q.2) : Fit (lit q) := by
  unfold K6.lit
  split
  · exact h.neg
  · exact h
theorem lay_strs : ∀ ns : List Str, (∀ z ∈ ns, Fit z) → PyData.canLayAll0 (ns.map PyData.str) = true ∧ PyData.depthAll (ns.map PyData.str) ≤ 2
  | [], _ => ⟨rfl, Nat.zero_le _⟩
  | n :: r, f => by
    obtain ⟨h1, h2⟩ := lay_strs r fun z h => f z (List.mem_cons_of_mem _ h)
    have h0 := (f n List.mem_cons_self).ok
    refine ⟨?_, ?_⟩
    · simp only [List.map_cons, PyData.canLayAll0, PyData.canLay0, h1, h0, Bool.and_self]
    · simp only [List.map_cons, PyData.depthAll, PyData.depth]
      omega
theorem shaped_strs (ns : List Str) (f : ∀ z ∈ ns, Fit z) : SeqAt.shaped (.list (ns.map PyData.str)) = true := by
  obtain ⟨h1, h2⟩ := lay_strs ns f
  refine Bool.and_eq_true_iff.mpr ⟨?_, decide_eq_true ?_⟩
  · simp only [PyData.canLay0, h1]
  · simp only [PyData.depth]
    omega
theorem eqv_nilS : ∀ ns : List Str, PyData.eqv (.list (ns.map PyData.str)) (.list []) = decide (ns = [])
  | [] => rfl
  | n :: r => by simp [PyData.eqv, PyData.eqvAll]
theorem cutV_take (xs : List V) (k : Nat) : cutV xs none (some (k : Int)) = xs.take k := by
  unfold cutV
  rw [HT.sIx_none, HT.sIx_nat, List.drop_zero, Nat.sub_zero]
  by_cases h : k ≤ xs.length
  · rw [Nat.min_eq_left h]
  · rw [Nat.min_eq_right (by omega), List.take_of_length_le (Nat.le_refl _), List.take_of_length_le (by omega)]
theorem cutV_drop (xs : List V) (k : Nat) : cutV xs (some (k : Int)) none = xs.drop k := by
  unfold cutV
  rw [HT.sIx_none, HT.sIx_nat]
  by_cases h : k ≤ xs.length
  · rw [Nat.min_eq_left h, List.take_of_length_le (by rw [List.length_drop]; exact Nat.le_refl _)]
  · rw [Nat.min_eq_right (by omega), Nat.sub_self, List.take_zero, List.drop_eq_nil_of_le (by omega)]
def spSided (K : PySem.W.Frag) : Sp := fun vs H Q _ => ∃ (S L T : Addr) (ns : List Str) (c : Nat), vs = [.ref S, .ref T] ∧ SqL K H T (ns.map V.str) ∧ ns.length ≤ 60 ∧ (∀ z ∈ ns, z.length ≤ 8) ∧ c ≤ 80000 ∧ StreamAt H S L c ∧
  ∀ (qs : List (Bool × Str)) (p : Addr) (c' : Nat) (H' : Hp), (qs.map Prod.snd).Perm ns → H p = none → H' p = some (.lst ((qs.map lit).map V.str)) → c' ≤ c + 120 → StreamAt H' S L c' → Kept S L H H' → Q (.ref p) H'
def spClause (K : PySem.W.Frag) : Sp := fun vs H Q _ => ∃ (S L T : Addr) (ns : List Str) (m c : Nat), vs = [.ref S, .ref T, .int (m : Int)] ∧ SqL K H T (ns.map V.str) ∧ (∀ H', Kept S L H H' → SqL K H' T (ns.map V.str)) ∧ ns.length ≤ 60 ∧ ns.Nodup ∧ (∀ z ∈ ns, Name1 z) ∧ 0 < m ∧ m ≤ 60 ∧ c ≤ 79000 ∧ StreamAt H S L c ∧
  ∀ (qs : List (Bool × Str)) (p : Addr) (c' : Nat) (H' : Hp), Lits ns qs → H p = none → H' p = some (.lst ((qs.map lit).map V.str)) → c' ≤ c + 122 → StreamAt H' S L c' → Kept S L H H' → Q (.ref p) H'
section
variable {P : Program} {w : World} {K : PySem.W.Frag} {mg : Str → Option Value} {base : Heap} {f fD fM fS : Addr} {fd fdD fdM fdS : FuncData}
abbrev nSided : List Str := ["_law_stream", "_law_names_here", "_law_name"]
theorem scSided : FnScope nSided ["_law_stream", "_law_names_here"] (defScope sSided) := ⟨rfl, rfl, rfl, by decide +kernel, rfl, by decide +kernel, by decide +kernel⟩
theorem ok_sided (F : Fun K "_law_sided" "_law_sided" sSided f fd) (GD : FnOk P w K mg base CX0 1 fD fdD ["_law_stream", "_law_many"] spDraw) (mD : mg "_law_draw" = some (.ref fD)) (kD : PySem.W.keepIn K (.ref fD) = true) (bD : L2.Binds K fdD ["_law_stream", "_law_many"] [])
    (GM : FnOk P w K mg base CX0 2 fM fdM ["_law_stream", "_law_things"] (spMixed K)) (mM : mg "_law_mixed" = some (.ref fM)) (kM : PySem.W.keepIn K (.ref fM) = true) (bM : L2.Binds K fdM ["_law_stream", "_law_things"] []) :
    FnOk P w K mg base CX0 3 f fd ["_law_stream", "_law_names_here"] (spSided K) := by
  refine F.ok scSided (fun vs H Q E h => ?_) (fun cdv A outer s H vs Q E hr h => ?_)
  · obtain ⟨S, L, T, ns, c, rfl, _⟩ := h
    rfl
  · obtain ⟨S, L, T, ns, c, rfl, hT, hn, h8, hc, hS, k⟩ := h
    have hr1 : Room 1 _ := hr.mono (by decide)
    refine ⟨_, pss_one (ps_ret (pe_lc (own := [("_law_name", 2)]) (g := gName 2) (tt := tYes) rfl scSided.nd (pi_list (pe_call GM hr (by rfl) mM kM bM .nil pass0 (pa_cons (pv 0) (pa_cons (pv 1) pa_nil)))) (blkOk_by (N := nSided) (sc := defScope sSided) (by decide +kernel))
          (fun _ _ _ _ _ => pg_name (i := 2) scSided.nd rfl (.inl rfl)) (fun _ _ _ _ _ => pts_nil)
          (fun _ _ _ _ _ => pe_op op_add_str (pe_ifExp (pt_cmpR op_eq (pe_call GD hr1 (by rfl) mD kD bD .nil pass0 (pa_cons (pv 0) (pa_cons pe_int pa_nil))) pe_int (nomark _)) pe_str pe_str) (pv 2)))), ?_⟩
    refine ⟨_, rfl, _, rfl, S, L, T, true, _, c, rfl, hT, by rw [List.length_map]; omega, by rw [List.length_map]; omega, hS, fun ys p0 H1 hp hnew hp1 hS1 hk1 => ?_⟩
    obtain ⟨ms, rfl, hpm⟩ := unmap_str ys ns hp
    have lm : ms.length = ns.length := hpm.length_eq
    have off0 := hS.off hnew
    rw [List.length_map] at hS1
    refine ⟨p0, rfl, ⟨_, SqL.of hp1⟩, fun D hD => lc_list (K := K) (a := p0) (xs := ms.map V.str) (fun i H2 => ∃ qs : List (Bool × Str), qs.map Prod.snd = ms.take i ∧ H2 D = some (.lst ((qs.map lit).map V.str)) ∧ StreamAt H2 S L (c + ns.length + i) ∧ Kept S L H1 H2)
      ⟨[], rfl, upd_same, hS1.new hD, (Kept.refl H1).new hD⟩ (fun i H2 hi ⟨_, _, _, _, hk2⟩ => SqL.of (hk2 _ _ hp1 off0.1 off0.2)) ?_ ?_⟩
    · rintro i x H2 hx ⟨qs, hq, hD2, hS2, hk2⟩
      obtain ⟨n, hn', rfl⟩ : ∃ n, ms[i]? = some n ∧ x = .str n := by
        rw [List.getElem?_map] at hx
        cases e : ms[i]? with
        | none => rw [e] at hx; cases hx
        | some n => rw [e] at hx; exact ⟨n, rfl, (Option.some.inj hx).symm⟩
      have n8 := h8 n (hpm.mem_iff.mp (List.mem_of_getElem? hn'))
      have offD := hS1.off hD
      have ilt : i < ms.length := (List.getElem?_eq_some_iff.mp hn').1
      have lq : qs.length ≤ i := by
        have z := congrArg List.length hq
        rw [List.length_map, List.length_take] at z
        omega
      have fin : ∀ (b : Bool) (H3 : Hp), StreamAt H3 S L (c + ns.length + i + 1) → Kept S L H2 H3 → ∃ acc, H3 D = some (.lst acc) ∧ acc.length < sizeLine ∧ ∃ qs' : List (Bool × Str), qs'.map Prod.snd = ms.take (i + 1) ∧ upd H3 D (.lst (acc ++ [V.str (lit (b, n))])) D = some (.lst ((qs'.map lit).map V.str)) ∧ StreamAt (upd H3 D (.lst (acc ++ [V.str (lit (b, n))]))) S L (c + ns.length + (i + 1)) ∧ Kept S L H1 (upd H3 D (.lst (acc ++ [V.str (lit (b, n))]))) := fun b H3 hS3 hk3 => by
        refine ⟨_, hk3 _ _ hD2 offD.1 offD.2, by rw [List.length_map, List.length_map, sizeLine_eq]; omega, qs ++ [(b, n)], ?_, ?_, hS3.put offD.1 offD.2, fun b' o e n1 n2 => (upd_ne (ne_of_none e hD)).trans (hk3 b' o (hk2 b' o e n1 n2) n1 n2)⟩
        · rw [List.map_append, hq, List.take_succ, hn']
          rfl
        · rw [upd_same, List.map_append, List.map_append]
          rfl
      refine ⟨rfl, _, rfl, S, L, 2, _, rfl, by decide, by decide, by omega, hS2, fun r H3 r0 r1 hS3 hk3 => ⟨rfl, _, rfl, ?_⟩⟩
      refine ite2 (fun _ => ?_) (fun _ => ?_)
      · refine ⟨_, rfl, _, _, rfl, rfl, by show 0 + n.length ≤ sizeLine; rw [sizeLine_eq]; omega, ?_⟩
        rw [empty_add]
        exact fin false H3 hS3 hk3
      · exact ⟨_, rfl, _, _, rfl, rfl, by show 1 + n.length ≤ sizeLine; rw [sizeLine_eq]; omega, fin true H3 hS3 hk3⟩
    · rintro H2 ⟨qs, hq, hD2, hS2, hk2⟩
      rw [List.length_map, List.take_length] at hq
      rw [List.length_map] at hS2
      exact k qs D _ H2 (hq ▸ hpm) (Kept.none hk1 hD (hS1.off hD).1 (hS1.off hD).2) hD2 (by omega) hS2 (hk1.trans hk2)
abbrev nClause : List Str := ["_law_stream", "_law_names_here", "_law_most"]
theorem scClause : FnScope nClause ["_law_stream", "_law_names_here", "_law_most"] (defScope sClause) := ⟨rfl, rfl, rfl, by decide +kernel, rfl, by decide +kernel, by decide +kernel⟩
theorem ok_clause (F : Fun K "_law_clause" "_law_clause" sClause f fd) (GD : FnOk P w K mg base CX0 1 fD fdD ["_law_stream", "_law_many"] spDraw) (mD : mg "_law_draw" = some (.ref fD)) (kD : PySem.W.keepIn K (.ref fD) = true) (bD : L2.Binds K fdD ["_law_stream", "_law_many"] [])
    (GS : FnOk P w K mg base CX0 3 fS fdS ["_law_stream", "_law_names_here"] (spSided K)) (mS : mg "_law_sided" = some (.ref fS)) (kS : PySem.W.keepIn K (.ref fS) = true) (bS : L2.Binds K fdS ["_law_stream", "_law_names_here"] []) :
    FnOk P w K mg base CX0 4 f fd ["_law_stream", "_law_names_here", "_law_most"] (spClause K) := by
  refine F.ok scClause (fun vs H Q E h => ?_) (fun cdv A outer s H vs Q E hr h => ?_)
  · obtain ⟨S, L, T, ns, m, c, rfl, _⟩ := h
    rfl
  · obtain ⟨S, L, T, ns, m, c, rfl, hT, hT', hn, nd, h8, m0, hm, hc, hS, k⟩ := h
    have hr1 : Room 1 _ := hr.mono (by decide)
    refine ⟨_, pss_cons (ps_if (PW.pt (pw_or (pt_cmpR (op_eqD hr.units) (pv 1) (pe_lst pa_nil) (nomark _)) (pw_or1 (pt_cmpR op_eq (pe_call GD hr1 (by rfl) mD kD bD .nil pass0 (pa_cons (pv 0) (pa_cons pe_int pa_nil))) pe_int (nomark _))))) (pss_one (ps_ret (pe_lst pa_nil))) pss_nil)
      (pss_one (ps_ret (pe_slice sl_list (pe_call GS hr (by rfl) mS kS bS .nil pass0 (pa_cons (pv 0) (pa_cons (pv 1) pa_nil))) po_none (po_some (pe_op op_add pe_int (pe_call GD hr1 (by rfl) mD kD bD .nil pass0 (pa_cons (pv 0) (pa_cons (pv 2) pa_nil)))))))), ?_⟩
    refine ⟨_, rfl, by show 0 ≤ sizeLine; exact Nat.zero_le _, fun p hp => ⟨_, _, .lst (hT' _ ((Kept.refl H).new hp)) (dp_strs ns), .lst (SqL.of upd_same) .nil, shaped_strs ns fun z hz => (h8 z hz).fit, rfl, _, rfl, ?_⟩⟩
    rw [eqv_nilS]
    have none_ : ∀ (H1 : Hp) (c' : Nat), c' ≤ c + 1 → StreamAt H1 S L c' → Kept S L H H1 → ∀ q, H1 q = none → Q (.ref q) (upd H1 q (.lst [])) := fun H1 c' hc' hS1 hk1 q hq =>
      k [] q c' _ ⟨List.nodup_nil, fun _ h => (nomatch h)⟩ (hk1.none hq (hS1.off hq).1 (hS1.off hq).2) upd_same (by omega) (hS1.new hq) (hk1.add hq (hS1.off hq))
    by_cases e : ns = []
    · rw [decide_eq_true e]
      exact iteT (iteT ⟨by show 0 ≤ sizeLine; exact Nat.zero_le _, none_ _ c (by omega) (hS.new hp) ((Kept.refl H).new hp)⟩)
    · rw [decide_eq_false e]
      refine iteF ⟨_, rfl, S, L, 40, c, rfl, by decide, by decide, by omega, hS.new hp, fun r H1 r0 r1 hS1 hk1 => ⟨rfl, _, rfl, ?_⟩⟩
      have hk1' := ((Kept.refl H).new hp).trans hk1
      refine ite2 (fun _ => ?_) (fun _ => ?_)
      · exact ⟨by show 0 ≤ sizeLine; exact Nat.zero_le _, none_ _ _ (Nat.le_refl _) hS1 hk1'⟩
      · refine ⟨_, rfl, _, rfl, S, L, T, ns, _, rfl, hT' _ hk1', hn, (fun z hz => (h8 z hz).2.1), by omega, hS1, fun qs p2 c2 H2 hq hn2 hp2 hc2 hS2 hk2 => ⟨_, rfl, _, rfl, S, L, m, c2, rfl, by omega, by omega, by omega, hS2, fun r2 H3 r3 r4 hS3 hk3 => ?_⟩⟩
        have off2 := hS1.off hn2
        refine ⟨_, _, rfl, rfl, _, rfl, p2, _, rfl, SqL.of (hk3 _ _ hp2 off2.1 off2.2), fun p3 hp3 => ?_⟩
        have hkk := (hk1'.trans hk2).trans hk3
        obtain ⟨j, hj⟩ : ∃ j : Nat, (1 : Int) + r2 = (j : Int) := ⟨(1 + r2).toNat, (Int.toNat_of_nonneg (by omega)).symm⟩
        rw [hj, cutV_take, ← List.map_take, ← List.map_take]
        have lq : (qs.map Prod.snd).Nodup := hq.nodup_iff.mpr nd
        refine k (qs.take j) p3 _ _ ⟨?_, fun q hq' => hq.mem_iff.mp (List.mem_map.mpr ⟨q, List.mem_of_mem_take hq', rfl⟩)⟩ (hkk.none hp3 (hS3.off hp3).1 (hS3.off hp3).2) upd_same (by omega) (hS3.new hp3) (hkk.add hp3 (hS3.off hp3))
        rw [List.map_take]
        exact lq.sublist (List.take_sublist ..)
end
end K6
namespace K6
open PySem PySem.Spec PyProof.Rows L2 LamX NdefX EV
theorem hu65 {A : Around} {k : Nat} (hr : Room k A) : A.units + 65 < cLine := by
  have := hr.un
  omega
/-! ### rows: tuples of texts that stand in the heap -/
def TupAt (H : Hp) (t : Addr) (r : List Str) : Prop := H t = some (.tup (r.map V.str))
abbrev RowsAt (H : Hp) : List Addr → List (List Str) → Prop := Paired (TupAt H)
theorem RowsAt.same {H H' : Hp} (sm : Same H H') {ts : List Addr} {rs : List (List Str)} (h : RowsAt H ts rs) : RowsAt H' ts rs := by
  induction h with
  | nil => exact .nil
  | cons a _ ih => exact .cons (sm _ _ a) ih
theorem RowsAt.get {H : Hp} : ∀ {ts : List Addr} {rs : List (List Str)}, RowsAt H ts rs → ∀ (i : Nat) (t : Addr), ts[i]? = some t → ∃ r, rs[i]? = some r ∧ TupAt H t r
  | _, _, .nil, i, t, h => by simp at h
  | _, _, .cons a _, 0, t, h => ⟨_, rfl, by simp at h; exact h ▸ a⟩
  | _, _, .cons _ q, i + 1, t, h => by simpa using RowsAt.get q i t (by simpa using h)
theorem RowsAt.put {H : Hp} {p : Addr} {xs : List V} {o : HO} (hp : H p = some (.lst xs)) {ts : List Addr} {rs : List (List Str)} (h : RowsAt H ts rs) : RowsAt (upd H p o) ts rs := by
  induction h with
  | nil => exact .nil
  | cons a _ ih => exact .cons ((upd_ne (ne_of a hp fun z => nomatch z)).trans a) ih
theorem RowsAt.lift {K : PySem.W.Frag} {H : Hp} : ∀ {ts : List Addr} {rs : List (List Str)}, RowsAt H ts rs → DpAll K H (ts.map V.ref) (rs.map fun r => PyData.tuple (r.map PyData.str))
  | _, _, .nil => .nil
  | _, _, .cons a q => .cons (.tup (SqT.of a) (dp_strs _)) (RowsAt.lift q)
theorem lay_rows : ∀ rs : List (List Str), (∀ r ∈ rs, ∀ z ∈ r, Fit z) → PyData.canLayAll0 (rs.map fun r => PyData.tuple (r.map PyData.str)) = true ∧ PyData.depthAll (rs.map fun r => PyData.tuple (r.map PyData.str)) ≤ 5
  | [], _ => ⟨rfl, Nat.zero_le _⟩
  | r :: rs, f => by
    obtain ⟨h1, h2⟩ := lay_rows rs fun r h => f r (List.mem_cons_of_mem _ h)
    obtain ⟨h3, h4⟩ := lay_strs r (f r List.mem_cons_self)
    refine ⟨?_, ?_⟩
    · simp only [List.map_cons, PyData.canLayAll0, PyData.canLay0, h1, h3, Bool.and_self]
    · simp only [List.map_cons, PyData.depthAll, PyData.depth]
      omega
theorem shaped_row (r : List Str) (f : ∀ z ∈ r, Fit z) : SeqAt.shaped (.tuple (r.map PyData.str)) = true := by
  obtain ⟨h1, h2⟩ := lay_strs r f
  refine Bool.and_eq_true_iff.mpr ⟨?_, decide_eq_true ?_⟩
  · simp only [PyData.canLay0, h1]
  · simp only [PyData.depth]
    omega
theorem shaped_rows (rs : List (List Str)) (f : ∀ r ∈ rs, ∀ z ∈ r, Fit z) : SeqAt.shaped (.list (rs.map fun r => PyData.tuple (r.map PyData.str))) = true := by
  obtain ⟨h1, h2⟩ := lay_rows rs f
  refine Bool.and_eq_true_iff.mpr ⟨?_, decide_eq_true ?_⟩
  · simp only [PyData.canLay0, h1]
  · simp only [PyData.depth]
    omega
theorem eqvAll_strs : ∀ a b : List Str, PyData.eqvAll (a.map PyData.str) (b.map PyData.str) = decide (a = b)
  | [], [] => rfl
  | [], _ :: _ => by simp [PyData.eqvAll]
  | _ :: _, [] => by simp [PyData.eqvAll]
  | x :: a, y :: b => by
    have h := eqvAll_strs a b
    simp only [List.map_cons, PyData.eqvAll, PyData.eqv, h]
    by_cases e : x = y
    · subst e; simp
    · simp [e]
theorem eqv_row (a b : List Str) : PyData.eqv (.tuple (a.map PyData.str)) (.tuple (b.map PyData.str)) = decide (a = b) := by
  rw [PyData.eqv]
  exact eqvAll_strs a b
theorem any_rows (r : List Str) : ∀ rs : List (List Str), ((rs.map fun r => PyData.tuple (r.map PyData.str)).any fun z => PyData.eqv z (.tuple (r.map PyData.str))) = decide (r ∈ rs)
  | [] => by simp
  | x :: rs => by
    rw [List.map_cons, List.any_cons, any_rows r rs, eqv_row]
    by_cases e : x = r
    · subst e; simp
    · have e2 : r ≠ x := fun q => e q.symm
      simp [e, e2]
theorem lits_fit {ns : List Str} (f : ∀ z ∈ ns, Fit z) : ∀ l ∈ lits ns, Fit l := fun l h => by
  obtain ⟨n, hn, hl⟩ := List.mem_flatMap.mp h
  rcases List.mem_cons.mp hl with rfl | hl
  · exact f _ hn
  · exact List.mem_singleton.mp hl ▸ (f n hn).neg
theorem asc_fit {ns ls : List Str} (f : ∀ z ∈ ns, Fit z) : ∀ l ∈ asc ns ls, Fit l := fun l h => lits_fit f l ((List.mem_filter.mp h).1)
def spOnce (K : PySem.W.Frag) : Sp := fun vs H Q _ => ∃ (A B : Addr) (cs : List Addr) (ls : List (List Str)) (ns : List Str), vs = [.ref A, .ref B] ∧ H A = some (.lst (cs.map V.ref)) ∧ Paired (fun c l => H c = some (.lst (l.map V.str))) cs ls ∧ H B = some (.lst (ns.map V.str)) ∧ ns.length ≤ 60 ∧ (∀ z ∈ ns, Name1 z) ∧ ls.length ≤ 1000 ∧
  ∀ (ts : List Addr) (rs : List (List Str)) (p : Addr) (H' : Hp), RowsAt H' ts rs → rs.Nodup → rs.length ≤ ls.length → (∀ r ∈ rs, ∃ l ∈ ls, r = asc ns l) → H p = none → H' p = some (.lst (ts.map V.ref)) → Same H H' → Q (.ref p) H'
section
variable {P : Program} {w : World} {K : PySem.W.Frag} {mg : Str → Option Value} {base : Heap} {f fU : Addr} {fd fdU : FuncData}
abbrev nOnce : List Str := ["_law_clauses", "_law_names_here", "_law_found", "_law_clause_here"]
theorem scOnce : FnScope nOnce ["_law_clauses", "_law_names_here"] (defScope sOnce) := ⟨rfl, rfl, rfl, by decide +kernel, rfl, by decide +kernel, by decide +kernel⟩
theorem get_map {α β : Type} {g : α → β} {xs : List α} {i : Nat} {y : β} (h : (xs.map g)[i]? = some y) : ∃ x, xs[i]? = some x ∧ y = g x := by
  rw [List.getElem?_map] at h
  cases e : xs[i]? with
  | none => rw [e] at h; cases h
  | some x => rw [e] at h; exact ⟨x, rfl, (Option.some.inj h).symm⟩
theorem paired_get {α β : Type} {R : α → β → Prop} : ∀ {xs : List α} {ys : List β}, Paired R xs ys → ∀ (i : Nat) (x : α), xs[i]? = some x → ∃ y, ys[i]? = some y ∧ R x y
  | _, _, .nil, i, x, h => by simp at h
  | _, _, .cons a _, 0, x, h => ⟨_, rfl, by simp at h; exact h ▸ a⟩
  | _, _, .cons _ q, i + 1, x, h => by simpa using paired_get q i x (by simpa using h)
theorem ok_once (F : Fun K "_law_once" "_law_once" sOnce f fd) (GU : FnOk P w K mg base CX0 1 fU fdU ["_law_some", "_law_names_here"] (spUp K)) (mU : mg "_law_up" = some (.ref fU)) (kU : PySem.W.keepIn K (.ref fU) = true) (bU : L2.Binds K fdU ["_law_some", "_law_names_here"] []) :
    FnOk P w K mg base CX0 2 f fd ["_law_clauses", "_law_names_here"] (spOnce K) := by
  refine F.ok scOnce (fun vs H Q E h => ?_) (fun cdv A outer s H vs Q E hr h => ?_)
  · obtain ⟨A, B, cs, ls, ns, rfl, _⟩ := h
    rfl
  · obtain ⟨A, B, cs, ls, ns, rfl, hA, hcs, hB, hn, good, hl, k⟩ := h
    have fit : ∀ z ∈ ns, Fit z := fun z hz => (good z hz).fit
    refine ⟨_, pss_cons (ps_set (i := 2) scOnce.nd rfl (.inl rfl) (pe_lst pa_nil))
      (pss_cons (ps_for PassesOwn.never rfl (pi_list (pv 0)) (pg_name (i := 3) scOnce.nd rfl (.inl rfl))
        (pss_one (ps_if (pt_cmpR (op_notInD (hu65 hr)) (pe_call GU hr (by rfl) mU kU bU .nil pass0 (pa_cons (pv 3) (pa_cons (pv 1) pa_nil))) (pv 2) rfl)
          (pss_one (ps_expr (pe_bm PySem.F.plainAttrs_list PySem.F.slot_list_append PySem.F.type_list_append mt_append (pv 2) (pa_cons (pe_call GU hr (by rfl) mU kU bU .nil pass0 (pa_cons (pv 3) (pa_cons (pv 1) pa_nil))) pa_nil)))) pss_nil)))
      (pss_one (ps_ret (pv 2)))), ?_⟩
    refine ⟨by show 0 ≤ sizeLine; exact Nat.zero_le _, fun p hp => ⟨_, rfl, A, rfl, ⟨_, SqL.of ((same_new hp) _ _ hA)⟩, for_list (K := K) (a := A) (xs := cs.map V.ref) (fun i σ H2 => ∃ (o3 : Option V) (ts : List Addr) (rs : List (List Str)), σ = [some (.ref A), some (.ref B), some (.ref p), o3] ∧ Same H H2 ∧ H2 p = some (.lst (ts.map V.ref)) ∧ RowsAt H2 ts rs ∧ rs.Nodup ∧ rs.length ≤ i ∧ ∀ r ∈ rs, ∃ l ∈ ls, r = asc ns l)
      ⟨_, [], [], rfl, same_new hp, upd_same, .nil, List.nodup_nil, Nat.zero_le _, (fun _ h => (nomatch h))⟩ (fun i σ H2 hi ⟨_, _, _, _, sm, _⟩ => SqL.of (sm _ _ hA)) ?_ ?_⟩⟩
    · rintro i x σ H2 hx ⟨o3, ts, rs, rfl, sm, hp2, hrs, nd, hlen, from_⟩
      obtain ⟨cl, hcl, rfl⟩ := get_map hx
      obtain ⟨l, hl', hcl'⟩ := paired_get hcs i cl hcl
      have memL := List.mem_of_getElem? hl'
      have up : ∀ (H3 : Hp), Same H2 H3 → SqL K H3 cl (l.map V.str) := fun H3 s3 => SqL.of (s3 _ _ (sm _ _ hcl'))
      have nm : ∀ (H3 : Hp), Same H2 H3 → SqL K H3 B (ns.map V.str) := fun H3 s3 => SqL.of (s3 _ _ (sm _ _ hB))
      refine ⟨_, rfl, _, rfl, cl, B, true, l, ns, rfl, up H2 (Same.refl _), up, nm H2 (Same.refl _), nm, hn, (fun z hz => (good z hz).2.1), fun t H3 ht ht3 sm3 => ⟨_, rfl, _, _, .tup (SqT.of ht3) (dp_strs _), .lst (SqL.of (sm3 _ _ hp2)) (RowsAt.same sm3 hrs).lift, shaped_row _ (asc_fit fit), shaped_rows rs (fun r hr => ?_), _, rfl, ?_⟩⟩
      · obtain ⟨l2, _, rfl⟩ := from_ r hr
        exact asc_fit fit
      rw [any_rows]
      by_cases q : asc ns l ∈ rs
      · rw [decide_eq_true q]
        exact iteF ⟨_, ts, rs, rfl, sm.trans sm3, sm3 _ _ hp2, RowsAt.same sm3 hrs, nd, by omega, from_⟩
      · rw [decide_eq_false q]
        refine iteT ⟨_, rfl, .inl ⟨rfl, _, SqL.of (sm3 _ _ hp2)⟩, _, rfl, _, rfl, cl, B, true, l, ns, rfl, up H3 sm3, (fun H4 s4 => up H4 (sm3.trans s4)), nm H3 sm3, (fun H4 s4 => nm H4 (sm3.trans s4)), hn, (fun z hz => (good z hz).2.1), fun t2 H4 ht2 ht4 sm4 => ?_⟩
        have sm24 := sm3.trans sm4
        have nt : t2 ≠ p := (ne_of_none (sm3 _ _ hp2) ht2).symm
        have keep : ∀ (o : HO), Same H (upd H4 p o) := fun o b u e => (upd_ne (ne_of_none e hp)).trans (sm24 b u (sm b u e))
        refine ⟨p, _, _, rfl, rfl, sm24 _ _ hp2, ?_, _, ts ++ [t2], rs ++ [asc ns l], rfl, keep _, ?_, ?_, ?_, ?_, ?_⟩
        · rw [List.length_map, Paired.length hrs, sizeLine_eq]
          have z := hlen
          have zi : i < cs.length := (List.getElem?_eq_some_iff.mp hcl).1
          have zc := Paired.length hcs
          omega
        · rw [upd_same, List.map_append]
          rfl
        · refine Paired.snoc ?_ ((upd_ne nt).trans ht4)
          exact (RowsAt.same sm24 hrs).put (sm24 _ _ hp2)
        · exact List.nodup_append.mpr ⟨nd, List.nodup_cons.mpr ⟨fun h => (nomatch h), List.nodup_nil⟩, fun a ha b hb e => q (by rw [← List.mem_singleton.mp hb, ← e]; exact ha)⟩
        · rw [List.length_append]
          show rs.length + 1 ≤ i + 1
          omega
        · intro r hr
          rcases List.mem_append.mp hr with z | z
          · exact from_ r z
          · exact ⟨l, memL, List.mem_singleton.mp z⟩
    · rintro σ H2 ⟨o3, ts, rs, rfl, sm, hp2, hrs, nd, hlen, from_⟩
      rw [List.length_map, Paired.length hcs] at hlen
      exact ⟨_, rfl, k ts rs p H2 hrs nd hlen from_ hp hp2 sm⟩
end
end K6
namespace K6
open PySem PySem.Spec PyProof.Rows L2 LamX NdefX EV
/-- a row of a code: the ascending literals of a clause over these names -/
def RowOf (ns r : List Str) : Prop := ∃ qs, Lits ns qs ∧ r = asc ns (qs.map lit)
/-- what the law draws: signs, helpers, rows -/
structure Draw1 (sg hp : List Str) (rs : List (List Str)) : Prop where
  nd : (sg ++ hp).Nodup
  good : ∀ z ∈ sg ++ hp, Name1 z
  one : 1 ≤ sg.length
  sg4 : sg.length ≤ 5
  hp3 : hp.length ≤ 3
  rnd : rs.Nodup
  r7 : rs.length ≤ 9
  row : ∀ r ∈ rs, RowOf (sg ++ hp) r
def kSigns : Key := Sum.inr (Str.ofString "signs")
def kHelpers : Key := Sum.inr (Str.ofString "helpers")
def kClauses : Key := Sum.inr (Str.ofString "clauses")
/-- the dict in which the law holds a code -/
structure CAt (H : Hp) (d ps ph pc : Addr) (sg hp : List Str) (ts : List Addr) (rs : List (List Str)) : Prop where
  d : H d = some (.dK [(kSigns, .ref ps), (kHelpers, .ref ph), (kClauses, .ref pc)])
  s : H ps = some (.lst (sg.map V.str))
  h : H ph = some (.lst (hp.map V.str))
  c : H pc = some (.lst (ts.map V.ref))
  r : RowsAt H ts rs
def spCode : Sp := fun vs H Q _ => ∃ (S L : Addr) (c : Nat), vs = [.ref S, .int 5, .int 3, .int 9] ∧ c ≤ 70000 ∧ StreamAt H S L c ∧
  ∀ (d ps ph pc : Addr) (sg hp : List Str) (ts : List Addr) (rs : List (List Str)) (c' : Nat) (H' : Hp), Draw1 sg hp rs → CAt H' d ps ph pc sg hp ts rs → (∀ p ∈ [ps, ph, pc], p ≠ S ∧ p ≠ L) → c' ≤ c + 1300 → StreamAt H' S L c' → Kept S L H H' → Q (.ref d) H'
section
variable {P : Program} {w : World} {K : PySem.W.Frag} {mg : Str → Option Value} {base : Heap} {f fD fN fC fO : Addr} {fd fdD fdN fdC fdO : FuncData}
abbrev nCode : List Str := ["_law_stream", "_law_signs", "_law_helpers", "_law_many", "_law_count", "_law_more", "_law_names_here", "_law_clauses", "_law_k"]
theorem scCode : FnScope nCode ["_law_stream", "_law_signs", "_law_helpers", "_law_many"] (defScope sCode) := ⟨rfl, rfl, rfl, by decide +kernel, rfl, by decide +kernel, by decide +kernel⟩
theorem ok_code (F : Fun K "_law_code" "_law_code" sCode f fd) (GD : FnOk P w K mg base CX0 1 fD fdD ["_law_stream", "_law_many"] spDraw) (mD : mg "_law_draw" = some (.ref fD)) (kD : PySem.W.keepIn K (.ref fD) = true) (bD : L2.Binds K fdD ["_law_stream", "_law_many"] [])
    (GN : FnOk P w K mg base CX0 4 fN fdN ["_law_stream", "_law_many"] spNames) (mN : mg "_law_names" = some (.ref fN)) (kN : PySem.W.keepIn K (.ref fN) = true) (bN : L2.Binds K fdN ["_law_stream", "_law_many"] [])
    (GC : FnOk P w K mg base CX0 4 fC fdC ["_law_stream", "_law_names_here", "_law_most"] (spClause K)) (mC : mg "_law_clause" = some (.ref fC)) (kC : PySem.W.keepIn K (.ref fC) = true) (bC : L2.Binds K fdC ["_law_stream", "_law_names_here", "_law_most"] [])
    (GO : FnOk P w K mg base CX0 2 fO fdO ["_law_clauses", "_law_names_here"] (spOnce K)) (mO : mg "_law_once" = some (.ref fO)) (kO : PySem.W.keepIn K (.ref fO) = true) (bO : L2.Binds K fdO ["_law_clauses", "_law_names_here"] []) (mr : mg "range" = none) :
    FnOk P w K mg base CX0 5 f fd ["_law_stream", "_law_signs", "_law_helpers", "_law_many"] spCode := by
  refine F.ok scCode (fun vs H Q E h => ?_) (fun cdv A outer s H vs Q E hr h => ?_)
  · obtain ⟨S, L, c, rfl, _⟩ := h
    rfl
  · obtain ⟨S, L, c, rfl, hc, hS, k⟩ := h
    have hr1 : Room 1 _ := hr.mono (by decide)
    have hr2 : Room 2 _ := hr.mono (by decide)
    refine ⟨_, pss_cons (ps_par (i := 4) (j := 5) rfl scCode.nd rfl rfl (by decide) (by rfl) (by rfl) (pa_cons (pe_op op_add pe_int (pe_call GD hr1 (by rfl) mD kD bD .nil pass0 (pa_cons (pv 0) (pa_cons (pv 1) pa_nil)))) (pa_cons (pe_call GD hr1 (by rfl) mD kD bD .nil pass0 (pa_cons (pv 0) (pa_cons (pe_op op_add (pv 2) pe_int) pa_nil))) pa_nil)) rfl)
      (pss_cons (ps_set (i := 6) scCode.nd rfl (.inr rfl) (pe_call GN hr (by rfl) mN kN bN .nil pass0 (pa_cons (pv 0) (pa_cons (pe_op op_add (pv 4) (pv 5)) pa_nil))))
      (pss_cons (ps_setLc (i := 7) (own := [("_law_k", 8)]) (g := gName 8) (tt := tYes) (by rfl) scCode.nd rfl rfl (sw_true rfl rfl rfl (by decide +kernel)) (pi_range1 (by rfl) mr (pa_cons (pe_call GD hr1 (by rfl) mD kD bD .nil pass0 (pa_cons (pv 0) (pa_cons (pe_op op_add (pv 3) pe_int) pa_nil))) pa_nil)) (blkOk_by (N := nCode) (sc := defScope sCode) (by decide +kernel))
          (fun _ _ _ _ _ => pg_name (i := 8) scCode.nd rfl (.inl rfl)) (fun _ _ _ _ _ => pts_nil) (fun _ _ _ _ _ => pe_call GC hr (by rfl) mC kC bC .nil pass0 (pa_cons (pv 0) (pa_cons (pv 6) (pa_cons pe_int pa_nil)))))
      (pss_one (ps_ret (pe_disp (pps_cons pe_str (pe_slice sl_list (pv 6) po_none (po_some (pv 4))) (pps_cons pe_str (pe_slice sl_list (pv 6) (po_some (pv 4)) po_none) (pps_cons pe_str (pe_call GO hr2 (by rfl) mO kO bO .nil pass0 (pa_cons (pv 7) (pa_cons (pv 6) pa_nil))) pps_nil))) (by rfl) (by rfl) (fun z => by cases z) (by decide)))))), ?_⟩
    refine ⟨_, rfl, _, rfl, S, L, 5, c, rfl, by decide, by decide, by omega, hS, fun r H1 r0 r1 hS1 hk1 => ⟨_, _, rfl, rfl, _, rfl, _, rfl, _, _, rfl, rfl, S, L, 4, _, rfl, by decide, by decide, by omega, hS1, fun q H2 q0 q1 hS2 hk2 => ⟨_, _, rfl, ?_⟩⟩⟩
    obtain ⟨a, rfl⟩ : ∃ a : Nat, r = (a : Int) := ⟨r.toNat, (Int.toNat_of_nonneg r0).symm⟩
    obtain ⟨b, rfl⟩ : ∃ b : Nat, q = (b : Int) := ⟨q.toNat, (Int.toNat_of_nonneg q0).symm⟩
    have hk02 := hk1.trans hk2
    refine ⟨_, rfl, _, rfl, _, rfl, _, _, rfl, rfl, S, L, 1 + a + b, _, ?_, by omega, by omega, hS2, fun ns p c3 H3 hl nd good hp hp3 hc3 hS3 hk3 => ?_⟩
    · show [V.ref S, V.int (1 + (a : Int) + b)] = [V.ref S, V.int ((1 + a + b : Nat) : Int)]
      rw [show (1 + (a : Int) + b) = ((1 + a + b : Nat) : Int) by omega]
    have offp := hS2.off hp
    refine ⟨_, rfl, _, rfl, _, _, rfl, rfl, S, L, 10, _, rfl, by decide, by decide, by omega, hS3, fun m H4 m0 m1 hS4 hk4 => ?_⟩
    obtain ⟨n, rfl⟩ : ∃ n : Nat, m = (n : Int) := ⟨m.toNat, (Int.toNat_of_nonneg m0).symm⟩
    have hp4 := hk4 _ _ hp3 offp.1 offp.2
    refine ⟨_, rfl, by omega, by omega, fun D hD => lc_range (lo := 0) (n := n) (fun i H5 => ∃ (cs : List Addr) (ls : List (List Str)) (c5 : Nat), cs.length = i ∧ Paired (fun c l => H5 c = some (.lst (l.map V.str)) ∧ (c ≠ S ∧ c ≠ L) ∧ c ≠ D) cs ls ∧ (∀ l ∈ ls, ∃ qs, Lits ns qs ∧ l = qs.map lit) ∧ H5 D = some (.lst (cs.map V.ref)) ∧ c5 ≤ c3 + 1 + 122 * i ∧ StreamAt H5 S L c5 ∧ Kept S L H4 H5)
      ⟨[], [], _, rfl, .nil, (fun _ h => (nomatch h)), upd_same, Nat.le_refl _, hS4.new hD, (Kept.refl H4).new hD⟩ ?_ ?_⟩
    · rintro i H5 hi ⟨cs, ls, c5, hcl, hcs, hls, hD5, hc5, hS5, hk5⟩
      have offD := hS4.off hD
      have hp5 := hk5 _ _ hp4 offp.1 offp.2
      refine ⟨rfl, _, rfl, _, rfl, S, L, p, ns, 3, c5, rfl, SqL.of hp5, (fun H' hk' => SqL.of (hk' _ _ hp5 offp.1 offp.2)), by omega, nd, good, by decide, by decide, by omega, hS5, fun qs q c6 H6 hq hq0 hq6 hc6 hS6 hk6 => ?_⟩
      have hD6 := hk6 _ _ hD5 offD.1 offD.2
      have nqD : q ≠ D := (ne_of_none hD5 hq0).symm
      refine ⟨_, hD6, by rw [List.length_map, sizeLine_eq]; omega, cs ++ [q], ls ++ [qs.map lit], c6, by rw [List.length_append, hcl]; rfl, Paired.snoc (Paired.mapP hcs fun c l z => ⟨(upd_ne z.2.2).trans (hk6 _ _ z.1 z.2.1.1 z.2.1.2), z.2⟩) ⟨(upd_ne nqD).trans hq6, hS5.off hq0, nqD⟩, ?_, ?_, by omega, hS6.put offD.1 offD.2, fun b o e n1 n2 => (upd_ne (ne_of_none e hD)).trans (hk6 b o (hk5 b o e n1 n2) n1 n2)⟩
      · intro l hl
        rcases List.mem_append.mp hl with z | z
        · exact hls l z
        · exact ⟨qs, hq, List.mem_singleton.mp z⟩
      · rw [upd_same, List.map_append]
        rfl
    · rintro H5 ⟨cs, ls, c5, hcl, hcs, hls, hD5, hc5, hS5, hk5⟩
      have hp5 := hk5 _ _ hp4 offp.1 offp.2
      intro d hd
      have offd := hS5.off hd
      have npd : p ≠ d := ne_of_none hp5 hd
      have hp6 : upd H5 d (.dK []) p = some (.lst (ns.map V.str)) := (upd_ne npd).trans hp5
      refine ⟨_, rfl, _, rfl, _, rfl, p, _, rfl, SqL.of hp6, fun ps hps => ?_⟩
      have hp7 := (upd_ne (o := .lst (cutV (ns.map V.str) none (some (1 + (a : Int))))) (ne_of_none hp6 hps)).trans hp6
      refine ⟨_, rfl, _, rfl, _, rfl, p, _, rfl, SqL.of hp7, fun ph hph => ?_⟩
      have hp8 := (upd_ne (o := .lst (cutV (ns.map V.str) (some (1 + (a : Int))) none)) (ne_of_none hp7 hph)).trans hp7
      have sm8 : Same H5 _ := ((same_new (o := .dK []) hd).trans (same_new (o := .lst (cutV (ns.map V.str) none (some (1 + (a : Int))))) hps)).trans (same_new (o := .lst (cutV (ns.map V.str) (some (1 + (a : Int))) none)) hph)
      refine ⟨_, rfl, _, rfl, D, p, cs, ls, ns, rfl, sm8 _ _ hD5, Paired.mapP hcs fun c l z => sm8 _ _ z.1, hp8, by omega, good, ?_, fun ts rs pc H9 hrs rnd rlen rfrom hpc hpc9 sm9 => ?_⟩
      · have z := Paired.length hcs
        omega
      have e1 : (1 + (a : Int)) = ((1 + a : Nat) : Int) := by omega
      have hd9 : H9 d = some (.dK []) := sm9 _ _ ((upd_ne (ne_of_none ((upd_ne (ne_of_none (show upd H5 d (.dK []) d = some (.dK []) from upd_same) hps)).trans upd_same) hph)).trans ((upd_ne (ne_of_none (show upd H5 d (.dK []) d = some (.dK []) from upd_same) hps)).trans upd_same))
      refine ⟨hd9, [(kSigns, .ref ps), (kHelpers, .ref ph), (kClauses, .ref pc)], rfl, (by show 3 ≤ 15; decide), ?_⟩
      have hps9 : H9 ps = some (.lst (cutV (ns.map V.str) none (some (1 + (a : Int))))) := sm9 _ _ ((upd_ne (ne_of_none (show upd (upd H5 d (.dK [])) ps _ ps = some (.lst (cutV (ns.map V.str) none (some (1 + (a : Int))))) from upd_same) hph)).trans upd_same)
      have hph9 : H9 ph = some (.lst (cutV (ns.map V.str) (some (1 + (a : Int))) none)) := sm9 _ _ upd_same
      rw [e1, cutV_take, ← List.map_take] at hps9
      rw [e1, cutV_drop, ← List.map_drop] at hph9
      have cut : ns.take (1 + a) ++ ns.drop (1 + a) = ns := List.take_append_drop ..
      have hk : Kept S L H H9 := (((hk02.trans hk3).trans hk4).trans hk5).trans fun b o e _ _ => sm9 _ _ (sm8 _ _ e)
      obtain ⟨zs, za, zm, z1, z2, z3⟩ := id hS5
      have nd1 : ∀ {x : Addr} {xs : List V}, H9 x = some (.lst xs) → x ≠ d := fun h => ne_of h hd9 fun z => nomatch z
      refine k d ps ph pc (ns.take (1 + a)) (ns.drop (1 + a)) ts rs c5 _ ⟨by rw [cut]; exact nd, by rw [cut]; exact good, ?_, ?_, ?_, rnd, ?_, ?_⟩ ⟨upd_same, (upd_ne (nd1 hps9)).trans hps9, (upd_ne (nd1 hph9)).trans hph9, (upd_ne (nd1 hpc9)).trans hpc9, ?_⟩ ?_ (by omega) ⟨zs, za, zm, (upd_ne (nd1 (sm9 _ _ (sm8 _ _ z1)))).trans (sm9 _ _ (sm8 _ _ z1)), (upd_ne (nd1 (sm9 _ _ (sm8 _ _ z2)))).trans (sm9 _ _ (sm8 _ _ z2)), z3⟩ ?_
      · rw [List.length_take]
        omega
      · rw [List.length_take]
        omega
      · rw [List.length_drop]
        omega
      · have z := Paired.length hcs
        omega
      · intro r hr
        obtain ⟨l, hl', rfl⟩ := rfrom r hr
        obtain ⟨qs, hq, rfl⟩ := hls l hl'
        rw [cut]
        exact ⟨qs, hq, rfl⟩
      · refine Paired.mapP hrs fun t r z => (upd_ne (ne_of z hd9 fun q => nomatch q)).trans z
      · intro p hp
        rcases List.mem_cons.mp hp with rfl | hp
        · exact (hS5.new (o := .dK []) hd).off hps
        · rcases List.mem_cons.mp hp with rfl | hp
          · exact ((hS5.new (o := .dK []) hd).new (o := .lst (cutV (ns.map V.str) none (some (1 + (a : Int))))) hps).off hph
          · rw [List.mem_singleton.mp hp]
            exact (((hS5.new (o := .dK []) hd).new (o := .lst (cutV (ns.map V.str) none (some (1 + (a : Int))))) hps).new (o := .lst (cutV (ns.map V.str) (some (1 + (a : Int))) none)) hph).off hpc
      · have dn : H d = none := (((hk02.trans hk3).trans hk4).trans hk5).none hd offd.1 offd.2
        exact fun b o e n1 n2 => (upd_ne (ne_of_none e dn)).trans (hk b o e n1 n2)
end
end K6
namespace K6
open PySem PySem.Spec PyProof.Rows L2 LamX NdefX EV
/-! ### the program: names and literals -/
theorem in_letters {ch : Nat} (h : 97 ≤ ch ∧ ch ≤ 122) : ch ∈ letters.cps.toList := by
  have z := letter_at (ch - 97) (by omega)
  have e : 97 + (ch - 97) = ch := by omega
  rw [e] at z
  exact List.mem_of_getElem? z
def spIsName : Sp := fun vs H Q _ => ∃ z : Str, vs = [.str z] ∧ Name1 z ∧ ∀ H', Same H H' → Q (.bl true) H'
section
variable {P : Program} {w : World} {K : PySem.W.Frag} {mg : Str → Option Value} {base : Heap} {f fI : Addr} {fd fdI : FuncData}
abbrev nIsName : List Str := ["thing", "letter"]
theorem scIsName : FnScope nIsName ["thing"] (defScope sIsName) := ⟨rfl, rfl, rfl, by decide +kernel, rfl, by decide +kernel, by decide +kernel⟩
theorem ok_isName (F : Fun K "is_name" "is_name" sIsName f fd) (mi : mg "isinstance" = none) (ms : mg "str" = none) (ml : mg "len" = none) (ma : mg "all" = none) (mL : ∃ t, mg "LETTERS" = some (.str letters t)) (mM : ∃ t, mg "MOST_LETTERS" = some (.int 8 t)) :
    FnOk P w K mg base CX0 1 f fd ["thing"] spIsName := by
  obtain ⟨tL, mL⟩ := mL
  obtain ⟨tM, mM⟩ := mM
  refine F.ok scIsName (fun vs H Q E h => ?_) (fun cdv A outer s H vs Q E hr h => ?_)
  · obtain ⟨z, rfl, _⟩ := h
    rfl
  · obtain ⟨z, rfl, good, k⟩ := h
    refine ⟨_, pss_cons (ps_if (PW.pt (pw_or (pt_not (pt_val (pe_callB call_isi (by rfl) mi (by decide +kernel) (pa_cons (pv 0) (pa_cons (pe_bltn (v := .ty "str") (by rfl) ms (by decide +kernel) rfl) pa_nil))))) (pw_or1 (pt_not (pt_chain op_le op_le pe_int (pe_callB call_len (by rfl) ml PySem.boot_len (pa_cons (pv 0) pa_nil)) (pe_glob (v := .int 8) (by rfl) mM ⟨_, rfl⟩))))))
        (pss_one (ps_ret pe_bl)) pss_nil)
      (pss_one (ps_ret (pe_callB (cr_all rfl) (by rfl) ma (by decide +kernel) (pa_cons (pe_lc (own := [("letter", 1)]) (g := gName 1) (tt := tYes) rfl scIsName.nd (pi_str (pv 0)) (blkOk_by (N := nIsName) (sc := defScope sIsName) (by decide +kernel))
          (fun _ _ _ _ _ => pg_name (i := 1) scIsName.nd rfl (.inl rfl)) (fun _ _ _ _ _ => pts_nil) (fun _ _ _ _ _ => pe_cmpR op_in_sign (pv 1) (pe_glob (v := .str letters) (by rfl) mL ⟨_, rfl⟩) rfl)) pa_nil)))), ?_⟩
    have g1 := good.1
    have g2 := good.2.1
    have lz : z.length ≤ sizeLine := by rw [sizeLine_eq]; omega
    refine ⟨_, rfl, _, _, _, _, true, rfl, .ty "str", .base (.str z), kit_ty (by decide +kernel), _, rfl, ?_⟩
    refine iteF ⟨_, rfl, _, z.length, rfl, ⟨lz, rfl⟩, ?_⟩
    refine ⟨_, _, rfl, rfl, _, rfl, ?_⟩
    have d1 : decide ((1 : Int) ≤ ((z.length : Nat) : Int)) = true := decide_eq_true (by omega)
    have d2 : decide (((z.length : Nat) : Int) ≤ 8) = true := decide_eq_true (by omega)
    rw [d1]
    refine iteT ⟨_, _, rfl, rfl, _, rfl, ?_⟩
    rw [d2]
    refine iteF ⟨_, rfl, z, rfl, fun D hD => lc_it walk_str (fun i H2 => Same H H2 ∧ H2 D = some (.lst ((List.replicate i true).map V.bl))) ⟨same_new hD, upd_same⟩ (fun _ _ _ _ => trivial) ?_ ?_⟩
    · rintro i x H2 H3 hi ⟨sm, hD2⟩ ⟨rfl, ch, hch, rfl⟩
      have mem : ch ∈ z.cps.toList := List.mem_of_getElem? (by rw [Array.getElem?_toList]; exact hch)
      have zl : z.cps.size = z.length := rfl
      refine ⟨rfl, _, rfl, ch, letters, rfl, rfl, _, hD2, by rw [List.length_map, List.length_replicate, sizeLine_eq]; omega, fun b o e => (upd_ne (ne_of_none e hD)).trans (sm b o e), ?_⟩
      rw [upd_same, decide_eq_true (in_letters (good.2.2 ch mem)), List.replicate_succ', List.map_append]
      rfl
    · rintro H2 ⟨sm, hD2⟩
      refine ⟨D, _, rfl, SqL.of hD2, ?_⟩
      have e : (List.replicate z.cps.size true).all id = true := List.all_eq_true.mpr fun x hx => (List.mem_replicate.mp hx).2
      rw [e]
      exact k H2 sm
end
end K6
namespace K6
open PySem PySem.Spec PyProof.Rows L2 LamX NdefX EV
/-- a comprehension of two fors over any walks: the outer one, and the inner one within a turn of it -/
theorem lc2_it {J : It} {n : Nat} {G : Hp → Prop} {Y : Nat → Hp → V → Hp → Prop} (w : Walk J n G Y) {D : Addr} {H1 : Hp} {Qd : Hp → Prop} {T : (Hp → Prop) → V → Hp → Prop} (Pv : Nat → Hp → Prop) (start : Pv 0 (upd H1 D (.lst []))) (stay : ∀ i H, i ≤ n → Pv i H → G H)
    (turn : ∀ i x H H', i < n → Pv i H → Y i H x H' → T (Pv (i + 1)) x H') (fin : ∀ H, Pv n H → Qd H) :
    ∃ W : Nat → Nat → Hp → Prop, (∃ m, W 0 m (upd H1 D (.lst []))) ∧ ∀ i m H, W i m H → (J.stop i H ∧ Qd H) ∨ (J.go i H ∧ ∃ Nx : Hp → Prop, (∀ H', Nx H' → ∃ m', m' < m ∧ W (i + 1) m' H') ∧ ∀ x H', J.yld i H x H' → T Nx x H') := by
  refine ⟨fun i m H => i + m = n ∧ Pv i H, ⟨n, Nat.zero_add n, start⟩, fun i m H st => ?_⟩
  obtain ⟨sum, pv⟩ := st
  have g := stay i H (by omega) pv
  match m, sum with
  | 0, sum =>
    obtain rfl : i = n := sum
    exact .inl ⟨w.stops H g, fin H pv⟩
  | m + 1, sum => exact .inr ⟨w.goes i H (by omega) g, Pv (i + 1), fun H3 p3 => ⟨m, Nat.lt_succ_self m, by omega, p3⟩, fun x H3 y => turn i x H H3 (by omega) pv (w.yields i H x H3 (by omega) g y)⟩
theorem in_it {J : It} {n : Nat} {G : Hp → Prop} {Y : Nat → Hp → V → Hp → Prop} (w : Walk J n G Y) {H1 : Hp} {Nx : Hp → Prop} {T : (Hp → Prop) → V → Hp → Prop} (Pv : Nat → Hp → Prop) (start : Pv 0 H1) (stay : ∀ i H, i ≤ n → Pv i H → G H)
    (turn : ∀ i x H H', i < n → Pv i H → Y i H x H' → T (Pv (i + 1)) x H') (fin : ∀ H, Pv n H → Nx H) :
    ∃ W : Nat → Nat → Hp → Prop, (∃ m, W 0 m H1) ∧ ∀ i m H, W i m H → (J.stop i H ∧ Nx H) ∨ (J.go i H ∧ ∃ Nx1 : Hp → Prop, (∀ H', Nx1 H' → ∃ m', m' < m ∧ W (i + 1) m' H') ∧ ∀ x H', J.yld i H x H' → T Nx1 x H') := by
  refine ⟨fun i m H => i + m = n ∧ Pv i H, ⟨n, Nat.zero_add n, start⟩, fun i m H st => ?_⟩
  obtain ⟨sum, pv⟩ := st
  have g := stay i H (by omega) pv
  match m, sum with
  | 0, sum =>
    obtain rfl : i = n := sum
    exact .inl ⟨w.stops H g, fin H pv⟩
  | m + 1, sum => exact .inr ⟨w.goes i H (by omega) g, Pv (i + 1), fun H3 p3 => ⟨m, Nat.lt_succ_self m, by omega, p3⟩, fun x H3 y => turn i x H H3 (by omega) pv (w.yields i H x H3 (by omega) g y)⟩
/-! ### a literal's name -/
theorem starts_iff (x y : Str) : Txt.startswith x y = true ↔ StrLaws.At x y x.length 0 := by
  unfold Txt.startswith StrLaws.At
  simp
theorem starts_neg (n : Str) : Txt.startswith (neg n) (Str.ofString "-") = true := by
  refine (starts_iff _ _).mpr ((TL.at_iff (y := Str.ofString "-") (fun h => nomatch h) 0).mpr ?_)
  show TL.pre [45] ((neg n).cps.toList.drop 0) = true
  rw [neg_list]
  rfl
theorem starts_name {n : Str} (h : Name1 n) : Txt.startswith n (Str.ofString "-") = false := by
  cases e : Txt.startswith n (Str.ofString "-") with
  | false => rfl
  | true =>
    have z := (TL.at_iff (y := Str.ofString "-") (fun h => nomatch h) 0).mp ((starts_iff _ _).mp e)
    replace z : TL.pre [45] (n.cps.toList.drop 0) = true := z
    rw [List.drop_zero] at z
    cases q : n.cps.toList with
    | nil => rw [q] at z; cases z
    | cons c r =>
      rw [q] at z
      have hc := h.2.2 c (by rw [q]; exact List.mem_cons_self)
      have e45 : c = 45 := by simpa [TL.pre] using z
      omega
theorem cut_neg (n : Str) : cutS (neg n) (some 1) none = n := by
  obtain ⟨cs⟩ := n
  unfold cutS
  rw [HT.sIx_none, show HT.sIx (neg ⟨cs⟩).length 0 (some 1) = min 1 (neg ⟨cs⟩).length from HT.sIx_nat _ _ 1, neg_list, neg_len, Nat.min_eq_left (by omega)]
  show Str.mk ((cs.toList.take _).toArray) = _
  rw [List.take_of_length_le (by rw [Array.length_toList]; exact Nat.le_of_eq rfl), Array.toArray_toList]
def spNameOf : Sp := fun vs H Q _ => ∃ q : Bool × Str, vs = [.str (lit q)] ∧ Name1 q.2 ∧ Q (.str q.2) H
def spLits (K : PySem.W.Frag) : Sp := fun vs H Q _ => ∃ (T : Addr) (b : Bool) (ns : List Str), vs = [.ref T] ∧ Sq K b H T (ns.map V.str) ∧ (∀ H', Same H H' → Sq K b H' T (ns.map V.str)) ∧ ns.length ≤ 60 ∧ (∀ z ∈ ns, z.length ≤ 8) ∧
  ∀ (p : Addr) (H' : Hp), H p = none → H' p = some (.lst ((lits ns).map V.str)) → Same H H' → Q (.ref p) H'
section
variable {P : Program} {w : World} {K : PySem.W.Frag} {mg : Str → Option Value} {base : Heap} {f fI : Addr} {fd fdI : FuncData}
theorem scNameOf : FnScope ["literal"] ["literal"] (defScope sNameOf) := ⟨rfl, rfl, rfl, by decide +kernel, rfl, by decide +kernel, by decide +kernel⟩
theorem ok_nameOf (F : Fun K "name_of" "name_of" sNameOf f fd) : FnOk P w K mg base CX0 1 f fd ["literal"] spNameOf := by
  refine F.ok scNameOf (fun vs H Q E h => ?_) (fun cdv A outer s H vs Q E hr h => ?_)
  · obtain ⟨q, rfl, _⟩ := h
    rfl
  · obtain ⟨⟨b, n⟩, rfl, good, k⟩ := h
    have n8 := good.2.1
    replace n8 : n.length ≤ 8 := n8
    refine ⟨_, pss_cons (ps_if (pt_val (pe_m1 PySem.F.slot_str_startswith PySem.F.type_str_startswith mt_startswith (pv 0) pe_str)) (pss_one (ps_ret (pe_slice sl_str (pv 0) (po_some pe_int) po_none))) pss_nil) (pss_one (ps_ret (pv 0))), ?_⟩
    refine ⟨_, rfl, ⟨_, rfl⟩, _, _, rfl, rfl, _, rfl, ?_⟩
    cases b
    · rw [show Txt.startswith (lit (false, n)) (Str.ofString "-") = false from starts_name good]
      exact iteF ⟨_, rfl, k⟩
    · rw [show Txt.startswith (lit (true, n)) (Str.ofString "-") = true from starts_neg n]
      refine iteT ⟨_, rfl, _, rfl, lit (true, n), rfl, ?_, ?_⟩
      · show (neg n).length ≤ sizeLine
        rw [neg_len, sizeLine_eq]
        omega
      · rw [show cutS (lit (true, n)) (some 1) none = n from cut_neg n]
        exact k
abbrev nLits : List Str := ["names", "name", "literal"]
theorem scLits : FnScope nLits ["names"] (defScope sLits) := ⟨rfl, rfl, rfl, by decide +kernel, rfl, by decide +kernel, by decide +kernel⟩
theorem ok_lits (F : Fun K "literals_of" "literals_of" sLits f fd) : FnOk P w K mg base CX0 1 f fd ["names"] (spLits K) := by
  refine F.ok scLits (fun vs H Q E h => ?_) (fun cdv A outer s H vs Q E hr h => ?_)
  · obtain ⟨T, b, ns, rfl, _⟩ := h
    rfl
  · obtain ⟨T, b, ns, rfl, hT, hT', hn, h8, k⟩ := h
    refine ⟨_, pss_one (ps_ret (pe_lc2 (own := [("name", 1), ("literal", 2)]) (vs1 := [2]) (g := gName 1) (tt := tYes) (g1 := gName 2) (tt1 := tYes) rfl scLits.nd (pi_seq (pv 0)) (blkOk_by (N := nLits) (sc := defScope sLits) (by decide +kernel)) (by decide)
          (fun _ _ _ _ _ => pg_name (i := 1) scLits.nd rfl (.inl rfl)) (fun _ _ _ _ _ => pts_nil) (fun _ _ _ _ _ => show PI _ _ _ (iTup K _) from pi_tup (pe_tup (pa_cons (pv 1) (pa_cons (pe_op op_add_str pe_str (pv 1)) pa_nil)))) (fun _ _ _ _ _ => pg_name (i := 2) scLits.nd rfl (.inl rfl)) (fun _ _ _ _ _ => pts_nil) (fun _ _ _ _ _ => pv 2))), ?_⟩
    refine ⟨_, rfl, b, T, _, rfl, hT, fun D hD => lc2_it walk_sq (fun i H2 => Same H H2 ∧ H2 D = some (.lst ((lits (ns.take i)).map V.str))) ⟨same_new hD, upd_same⟩ (fun i H2 _ hh => hT' _ hh.1) ?_ ?_⟩
    · rintro i x H2 H3 hi ⟨sm, hD2⟩ ⟨rfl, hx⟩
      obtain ⟨n, hn', rfl⟩ := get_map hx
      have n8 := h8 n (List.mem_of_getElem? hn')
      have e : ns.take (i + 1) = ns.take i ++ [n] := by rw [List.take_succ, hn']; rfl
      have lt : (lits (ns.take i)).length ≤ 120 := by
        rw [lits_len]
        have := List.length_take_le i ns
        have := List.length_take_le' i ns
        omega
      refine ⟨rfl, _, rfl, _, rfl, _, _, rfl, rfl, by show 1 + n.length ≤ sizeLine; rw [sizeLine_eq]; omega, by show 2 ≤ sizeLine; decide, fun t ht => ⟨t, rfl, ⟨_, SqT.of upd_same⟩, in_it (walk_tup (xs := [V.str n, V.str (neg n)])) (fun j H4 => Same H H4 ∧ H4 t = some (.tup [.str n, .str (neg n)]) ∧ H4 D = some (.lst ((lits (ns.take i) ++ [n, neg n].take j).map V.str))) ?_ (fun j H4 _ hh => ?_) ?_ ?_⟩⟩
      · refine ⟨sm.trans (same_new ht), upd_same, ?_⟩
        rw [List.take_zero, List.append_nil]
        exact (upd_ne (ne_of_none hD2 ht)).trans hD2
      · exact SqT.of hh.2.1
      · rintro j y H4 H5 hj ⟨sm4, ht4, hD4⟩ ⟨rfl, hy⟩
        obtain ⟨l, hl, rfl⟩ := get_map (g := V.str) (xs := [n, neg n]) hy
        have e2 : [n, neg n].take (j + 1) = [n, neg n].take j ++ [l] := by rw [List.take_succ, hl]; rfl
        refine ⟨rfl, _, rfl, _, hD4, ?_, fun b o h => (upd_ne (ne_of_none h hD)).trans (sm4 b o h), (upd_ne (ne_of ht4 hD4 fun z => nomatch z)).trans ht4, ?_⟩
        · rw [List.length_map, List.length_append, sizeLine_eq]
          have := List.length_take_le' j [n, neg n]
          have l5 : [n, neg n].length = 2 := rfl
          omega
        · rw [upd_same, e2, ← List.append_assoc, List.map_append (l₁ := _ ++ _)]
          rfl
      · rintro H4 ⟨sm4, _, hD4⟩
        refine ⟨sm4, ?_⟩
        rw [hD4, e]
        unfold lits
        rw [List.flatMap_append]
        rfl
    · rintro H2 ⟨sm, hD2⟩
      rw [List.length_map, List.take_length] at hD2
      exact k D H2 hD hD2 sm
end
end K6
namespace K6
open PySem PySem.Spec PyProof.Rows L2 LamX NdefX EV
/-! ### places -/
theorem neg_inj {m n : Str} (h : neg m = neg n) : m = n := by
  have z := congrArg (fun s : Str => s.cps.toList) h
  replace z : (neg m).cps.toList = (neg n).cps.toList := z
  rw [neg_list, neg_list] at z
  injection z with _ z
  obtain ⟨a⟩ := m
  obtain ⟨b⟩ := n
  rw [show a = b from Array.toList_inj.mp z]
theorem name_neg {m n : Str} (h : Name1 m) (e : m = neg n) : False := by
  have z := h.2.2 45 (by rw [e, neg_list]; exact List.mem_cons_self)
  omega
theorem lits_nodup : ∀ ns : List Str, ns.Nodup → (∀ z ∈ ns, Name1 z) → (lits ns).Nodup
  | [], _, _ => List.nodup_nil
  | n :: r, nd, good => by
    have nd' := List.nodup_cons.mp nd
    have gn := good n List.mem_cons_self
    have gr : ∀ z ∈ r, Name1 z := fun z h => good z (List.mem_cons_of_mem _ h)
    have ih := lits_nodup r nd'.2 gr
    have h1 : n ∉ lits r := fun h => by
      obtain ⟨m, hm, hl⟩ := List.mem_flatMap.mp h
      rcases List.mem_cons.mp hl with q | q
      · exact nd'.1 (q ▸ hm)
      · exact name_neg gn (List.mem_singleton.mp q)
    have h2 : neg n ∉ lits r := fun h => by
      obtain ⟨m, hm, hl⟩ := List.mem_flatMap.mp h
      rcases List.mem_cons.mp hl with q | q
      · exact name_neg (gr m hm) q.symm
      · exact nd'.1 (neg_inj (List.mem_singleton.mp q) ▸ hm)
    show (n :: neg n :: lits r).Nodup
    refine List.nodup_cons.mpr ⟨fun h => ?_, List.nodup_cons.mpr ⟨h2, ih⟩⟩
    rcases List.mem_cons.mp h with q | q
    · exact name_neg gn q
    · exact h1 q
/-- each text with its place, from k on -/
def plcF : Nat → List Str → List (Key × V)
  | _, [] => []
  | k, l :: r => (Sum.inr l, .int (k : Int)) :: plcF (k + 1) r
theorem plcF_snoc (l : Str) : ∀ (xs : List Str) (k : Nat), plcF k (xs ++ [l]) = plcF k xs ++ [(Sum.inr l, .int ((k + xs.length : Nat) : Int))]
  | [], k => rfl
  | x :: r, k => by
    show (Sum.inr x, V.int k) :: plcF (k + 1) (r ++ [l]) = _
    rw [plcF_snoc l r (k + 1), show k + 1 + r.length = k + (x :: r).length by rw [List.length_cons]; omega]
    rfl
theorem plcF_len : ∀ (xs : List Str) (k : Nat), (plcF k xs).length = xs.length
  | [], _ => rfl
  | x :: r, k => congrArg (· + 1) (plcF_len r (k + 1))
theorem plcF_at {l : Str} : ∀ (xs : List Str) (k i : Nat), xs.Nodup → xs[i]? = some l → valV (plcF k xs) (Sum.inr l) = some (.int ((k + i : Nat) : Int))
  | [], _, i, _, h => by simp at h
  | x :: r, k, 0, _, h => by
    obtain rfl : x = l := by simpa using h
    exact valV_pos rfl
  | x :: r, k, i + 1, nd, h => by
    have nd' := List.nodup_cons.mp nd
    have h' : r[i]? = some l := by simpa using h
    have ne : ¬ (Sum.inr x : Key) = Sum.inr l := fun e => by
      injection e with e
      exact nd'.1 (e ▸ List.mem_of_getElem? h')
    show valV ((Sum.inr x, V.int k) :: plcF (k + 1) r) _ = _
    rw [valV_neg ne, plcF_at r (k + 1) i nd'.2 h', show k + 1 + i = k + (i + 1) by omega]
theorem plcF_none {l : Str} : ∀ (xs : List Str) (k : Nat), l ∉ xs → valV (plcF k xs) (Sum.inr l) = none
  | [], _, _ => rfl
  | x :: r, k, h => by
    have ne : ¬ (Sum.inr x : Key) = Sum.inr l := fun e => by
      injection e with e
      exact h (e ▸ List.mem_cons_self)
    show valV ((Sum.inr x, V.int k) :: plcF (k + 1) r) _ = _
    rw [valV_neg ne]
    exact plcF_none r (k + 1) fun q => h (List.mem_cons_of_mem _ q)
theorem putK_new {κ : Type} [DecidableEq κ] {kvs : List (κ × V)} {k : κ} {v : V} (h : valV kvs k = none) : putK kvs k v = kvs ++ [(k, v)] := by
  unfold putK
  rw [valV_any, h]
  rfl
abbrev plc (ns : List Str) : List (Key × V) := plcF 0 (lits ns)
def spPlaces (K : PySem.W.Frag) : Sp := fun vs H Q _ => ∃ (T : Addr) (b : Bool) (ns : List Str), vs = [.ref T] ∧ Sq K b H T (ns.map V.str) ∧ (∀ H', Same H H' → Sq K b H' T (ns.map V.str)) ∧ ns.length ≤ 60 ∧ ns.Nodup ∧ (∀ z ∈ ns, Name1 z) ∧
  ∀ (p : Addr) (H' : Hp), H p = none → H' p = some (.dK (plc ns)) → Same H H' → Q (.ref p) H'
section
variable {P : Program} {w : World} {K : PySem.W.Frag} {mg : Str → Option Value} {base : Heap} {f fL : Addr} {fd fdL : FuncData}
abbrev nPlaces : List Str := ["names", "place", "literal"]
theorem scPlaces : FnScope nPlaces ["names"] (defScope sPlaces) := ⟨rfl, rfl, rfl, by decide +kernel, rfl, by decide +kernel, by decide +kernel⟩
theorem ok_places (F : Fun K "places_of" "places_of" sPlaces f fd) (GL : FnOk P w K mg base CX0 1 fL fdL ["names"] (spLits K)) (mL : mg "literals_of" = some (.ref fL)) (kL : PySem.W.keepIn K (.ref fL) = true) (bL : L2.Binds K fdL ["names"] []) (me : mg "enumerate" = none) :
    FnOk P w K mg base CX0 2 f fd ["names"] (spPlaces K) := by
  refine F.ok scPlaces (fun vs H Q E h => ?_) (fun cdv A outer s H vs Q E hr h => ?_)
  · obtain ⟨T, b, ns, rfl, _⟩ := h
    rfl
  · obtain ⟨T, b, ns, rfl, hT, hT', hn, nd, good, k⟩ := h
    have hu := hu_of hr
    refine ⟨_, pss_one (ps_ret (pe_dcP (own := [("place", 1), ("literal", 2)]) .k rfl hu scPlaces.nd (pi_enumB (by rfl) me (pa_cons (pe_call GL hr (by rfl) mL kL bL .nil pass0 (pa_cons (pv 0) pa_nil)) pa_nil)) (blkOk_by (N := nPlaces) (sc := defScope sPlaces) (by decide +kernel))
          (fun _ _ _ _ _ => show PG _ _ (gTup K 2 _) from pg_tup rfl (pgs_cons (pg_name (i := 1) scPlaces.nd rfl (.inl rfl)) (pgs_cons (pg_name (i := 2) scPlaces.nd rfl (.inl rfl)) pgs_nil))) (fun _ _ _ _ _ => pts_nil) (fun _ _ _ _ _ => pv 2) (fun _ _ _ _ _ => pv 1))), ?_⟩
    refine ⟨_, rfl, T, b, ns, rfl, hT, hT', hn, (fun z hz => (good z hz).2.1), fun p H1 hp hp1 sm1 => ⟨true, p, _, rfl, Sq.lst hp1, fun D hD => dc_it walk_enumB (fun i H2 => Same H1 H2 ∧ H2 D = some (.dK (plcF 0 ((lits ns).take i)))) ⟨same_new hD, upd_same⟩ (fun i H2 _ hh => Sq.lst (hh.1 _ _ hp1)) ?_ ?_⟩⟩
    · rintro i x H2 H3 hi ⟨sm, hD2⟩ ⟨t, v1, v2, rfl, ht, rfl, hv1, hv2⟩
      obtain ⟨l, hl, rfl⟩ := get_map hv2
      obtain rfl := Option.some.inj hv1
      have ilt : i < (lits ns).length := (List.getElem?_eq_some_iff.mp hl).1
      have l120 := lits_len ns
      have fresh : l ∉ (lits ns).take i := fun h => by
        obtain ⟨j, hj, hj2⟩ := List.getElem_of_mem h
        have jlt : j < i := by rw [List.length_take] at hj; omega
        have z : (lits ns)[j]? = some l := by
          rw [List.getElem_take] at hj2
          rw [← hj2]
          exact List.getElem?_eq_getElem _
        exact absurd ((List.getElem?_inj (by omega) (lits_nodup ns nd good)).mp (z.trans hl.symm)) (by omega)
      have hD3 := (upd_ne (o := .tup [.int (i : Nat), .str l]) (ne_of_none hD2 ht)).trans hD2
      refine ⟨t, _, rfl, SqT.of upd_same, rfl, _, _, rfl, _, _, rfl, rfl, rfl, _, rfl, _, rfl, _, DPut.k (k := Sum.inr l) hD3 (by rw [plcF_len, List.length_take, sizeLine_eq]; omega), fun b o h => (upd_ne (ne_of_none h hD)).trans ((same_new ht) _ _ (sm b o h)), ?_⟩
      rw [upd_same, putK_new (plcF_none _ 0 fresh), List.take_succ, hl]
      show _ = some (HO.dK (plcF 0 ((lits ns).take i ++ [l])))
      rw [plcF_snoc, List.length_take, Nat.min_eq_left (Nat.le_of_lt ilt), Nat.zero_add]
    · rintro H2 ⟨sm, hD2⟩
      rw [List.length_map, List.take_length] at hD2
      exact k D H2 (sm1.free hD) hD2 (sm1.trans sm)
end
end K6
namespace K6
open PySem PySem.Spec PyProof.Rows L2 LamX NdefX EV
/-! ### rising lists -/
theorem rise_eq : ∀ (a b : List Int), a.Pairwise (· < ·) → b.Pairwise (· < ·) → (∀ x, x ∈ a ↔ x ∈ b) → a = b
  | [], [], _, _, _ => rfl
  | [], y :: b, _, _, h => absurd ((h y).mpr List.mem_cons_self) (fun z => nomatch z)
  | x :: a, [], _, _, h => absurd ((h x).mp List.mem_cons_self) (fun z => nomatch z)
  | x :: a, y :: b, pa, pb, h => by
    have pa' := List.pairwise_cons.mp pa
    have pb' := List.pairwise_cons.mp pb
    have exy : x = y := by
      rcases List.mem_cons.mp ((h x).mp List.mem_cons_self) with q | q
      · exact q
      · rcases List.mem_cons.mp ((h y).mpr List.mem_cons_self) with q' | q'
        · exact q'.symm
        · have z1 := pb'.1 x q
          have z2 := pa'.1 y q'
          omega
    subst exy
    rw [rise_eq a b pa'.2 pb'.2 fun z => ?_]
    constructor
    · intro hz
      rcases List.mem_cons.mp ((h z).mp (List.mem_cons_of_mem _ hz)) with q | q
      · have := pa'.1 z hz
        omega
      · exact q
    · intro hz
      rcases List.mem_cons.mp ((h z).mpr (List.mem_cons_of_mem _ hz)) with q | q
      · have := pb'.1 z hz
        omega
      · exact q
theorem rise_strict : ∀ {a : List Int}, a.Pairwise (· ≤ ·) → a.Nodup → a.Pairwise (· < ·)
  | [], _, _ => .nil
  | x :: r, h, nd => by
    have h' := List.pairwise_cons.mp h
    have nd' := List.nodup_cons.mp nd
    exact List.pairwise_cons.mpr ⟨fun y hy => by
      have z := h'.1 y hy
      have ne : x ≠ y := fun e => nd'.1 (e ▸ hy)
      omega, rise_strict h'.2 nd'.2⟩
def txt (xs : List Str) (j : Nat) : Str := xs.getD j (Str.ofString "")
theorem txt_at {xs : List Str} {j : Nat} {l : Str} (h : xs[j]? = some l) : txt xs j = l := by
  unfold txt
  rw [List.getD_eq_getElem?_getD, h]
  rfl
theorem map_txt (xs : List Str) : (List.range xs.length).map (txt xs) = xs := by
  refine List.ext_getElem (by rw [List.length_map, List.length_range]) fun i h1 h2 => ?_
  rw [List.getElem_map, List.getElem_range]
  exact txt_at (List.getElem?_eq_getElem h2)
/-- the places of what is wanted, rising: their texts are the wanted ones of all, in order -/
theorem rise_filter {xs ls : List Str} {js : List Int} {is : List Nat} (hp : js.Perm (is.map fun j : Nat => (j : Int))) (hs : js.Pairwise (· ≤ ·)) (nd : is.Nodup) (mem : ∀ j, j ∈ is ↔ j < xs.length ∧ txt xs j ∈ ls) :
    js.map (fun j => txt xs j.toNat) = xs.filter fun l => decide (l ∈ ls) := by
  have inj : ∀ a b : Nat, a ≠ b → (a : Int) ≠ (b : Int) := fun a b h e => h (by omega)
  have ndj : js.Nodup := hp.nodup_iff.mpr (List.Pairwise.map _ (fun a b h => inj a b h) nd)
  have e : js = ((List.range xs.length).filter fun j => decide (txt xs j ∈ ls)).map fun j : Nat => (j : Int) := by
    refine rise_eq _ _ (rise_strict hs ndj) (List.Pairwise.map _ (fun a b h => by omega) (List.Pairwise.filter _ List.pairwise_lt_range)) fun x => ?_
    rw [hp.mem_iff, List.mem_map, List.mem_map]
    constructor
    · rintro ⟨j, hj, rfl⟩
      have z := (mem j).mp hj
      exact ⟨j, List.mem_filter.mpr ⟨List.mem_range.mpr z.1, decide_eq_true z.2⟩, rfl⟩
    · rintro ⟨j, hj, rfl⟩
      have z := List.mem_filter.mp hj
      exact ⟨j, (mem j).mpr ⟨List.mem_range.mp z.1, of_decide_eq_true z.2⟩, rfl⟩
  rw [e, List.map_map]
  have e2 : ((fun j : Int => txt xs j.toNat) ∘ fun j : Nat => (j : Int)) = txt xs := by
    funext j
    show txt xs (j : Int).toNat = _
    rw [Int.toNat_natCast]
  rw [e2]
  have z := List.filter_map (f := txt xs) (p := fun l => decide (l ∈ ls)) (l := List.range xs.length)
  rw [map_txt] at z
  exact z.symm
def entry (xs : List Str) (j : Nat) : Key × V := (Sum.inl (j : Int), .str (txt xs j))
theorem entry_val {xs : List Str} {j : Nat} : ∀ is : List Nat, j ∈ is → valV (is.map (entry xs)) (Sum.inl (j : Int)) = some (.str (txt xs j))
  | [], h => nomatch h
  | i :: r, h => by
    by_cases e : i = j
    · subst e
      exact valV_pos rfl
    · have ne : ¬ (entry xs i).1 = Sum.inl (j : Int) := fun q => by
        have q : (Sum.inl (i : Int) : Key) = Sum.inl (j : Int) := q
        injection q with q
        omega
      rw [List.map_cons, valV_neg ne]
      exact entry_val r ((List.mem_cons.mp h).resolve_left fun q => e q.symm)
theorem entry_none {xs : List Str} {j : Nat} : ∀ is : List Nat, j ∉ is → valV (is.map (entry xs)) (Sum.inl (j : Int)) = none
  | [], _ => rfl
  | i :: r, h => by
    have ne : ¬ (entry xs i).1 = Sum.inl (j : Int) := fun q => by
      have q : (Sum.inl (i : Int) : Key) = Sum.inl (j : Int) := q
      injection q with q
      exact h (by rw [show j = i by omega]; exact List.mem_cons_self)
    rw [List.map_cons, valV_neg ne]
    exact entry_none r fun q => h (List.mem_cons_of_mem _ q)
theorem entry_put {xs : List Str} {is : List Nat} {j : Nat} : putK (is.map (entry xs)) (Sum.inl (j : Int)) (.str (txt xs j)) = (if j ∈ is then is else is ++ [j]).map (entry xs) := by
  by_cases h : j ∈ is
  · rw [if_pos h]
    unfold putK
    rw [valV_any, entry_val is h]
    show List.map (fun kv => if kv.1 = Sum.inl (j : Int) then (kv.1, V.str (txt xs j)) else kv) (List.map (entry xs) is) = _
    rw [List.map_map]
    refine List.map_congr_left fun i _ => ?_
    show (if (entry xs i).1 = _ then _ else _) = _
    by_cases e : i = j
    · subst e
      exact (if_pos rfl).trans rfl
    · refine if_neg fun q => ?_
      have q : (Sum.inl (i : Int) : Key) = Sum.inl (j : Int) := q
      injection q with q
      omega
  · rw [if_neg h, putK_new (entry_none is h), List.map_append]
    rfl
def spInOrder (K : PySem.W.Frag) : Sp := fun vs H Q _ => ∃ (PL A : Addr) (b : Bool) (ns ls : List Str), vs = [.ref PL, .ref A] ∧ H PL = some (.dK (plc ns)) ∧ Sq K b H A (ls.map V.str) ∧ (∀ H', Same H H' → Sq K b H' A (ls.map V.str)) ∧ ns.length ≤ 60 ∧ ns.Nodup ∧ (∀ z ∈ ns, Name1 z) ∧ (∀ l ∈ ls, l ∈ lits ns) ∧
  ∀ (p : Addr) (H' : Hp), H p = none → H' p = some (.tup ((asc ns ls).map V.str)) → Same H H' → Q (.ref p) H'
section
variable {P : Program} {w : World} {K : PySem.W.Frag} {mg : Str → Option Value} {base : Heap} {f : Addr} {fd : FuncData}
abbrev nInOrder : List Str := ["places", "literals", "by_place", "literal", "place"]
theorem scInOrder : FnScope nInOrder ["places", "literals"] (defScope sInOrder) := ⟨rfl, rfl, rfl, by decide +kernel, rfl, by decide +kernel, by decide +kernel⟩
theorem ok_inOrder (F : Fun K "in_order" "in_order" sInOrder f fd) (mt : mg "tuple" = none) (ms : mg "sorted" = none) (mi : mg "int" = none) : FnOk P w K mg base CX0 1 f fd ["places", "literals"] (spInOrder K) := by
  refine F.ok scInOrder (fun vs H Q E h => ?_) (fun cdv A outer s H vs Q E hr h => ?_)
  · obtain ⟨PL, A, b, ns, ls, rfl, _⟩ := h
    rfl
  · obtain ⟨PL, A, b, ns, ls, rfl, hPL, hA, hA', hn, nd, good, sub, k⟩ := h
    have hu := hu_of hr
    refine ⟨_, pss_cons (ps_set (i := 2) scInOrder.nd rfl (.inr rfl) (pe_dcP (own := [("literal", 3)]) .k rfl hu scInOrder.nd (pi_seq (pv 1)) (blkOk_by (N := nInOrder) (sc := defScope sInOrder) (by decide +kernel))
          (fun _ _ _ _ _ => pg_name (i := 3) scInOrder.nd rfl (.inl rfl)) (fun _ _ _ _ _ => pts_nil) (fun _ _ _ _ _ => pe_dget hu (pv 0) (pv 3) (fun _ _ => rfl)) (fun _ _ _ _ _ => pv 3)))
      (pss_one (ps_ret (pe_tupleOf (by rfl) mt (pe_lc (own := [("place", 4)]) (g := gName 4) (tt := tYes) rfl scInOrder.nd
          (pi_list (pe_callB cr_sortedI (by rfl) ms (by decide +kernel) (pa_cons (pe_lock (pe_lc (own := [("place", 4)]) (g := gName 4) (tt := tYes) rfl scInOrder.nd (pi_keys (pv 2)) (blkOk_by (N := nInOrder) (sc := defScope sInOrder) (by decide +kernel))
            (fun _ _ _ _ _ => pg_name (i := 4) scInOrder.nd rfl (.inl rfl)) (fun _ _ _ _ _ => pts_nil) (fun _ _ _ _ _ => pe_callTy call_int1 (by rfl) mi (by decide +kernel) (pa_cons (pv 4) pa_nil)))) pa_nil)))
          (blkOk_by (N := nInOrder) (sc := defScope sInOrder) (by decide +kernel))
          (fun _ _ _ _ _ => pg_name (i := 4) scInOrder.nd rfl (.inl rfl)) (fun _ _ _ _ _ => pts_nil) (fun _ _ _ _ _ => pe_dget hu (pv 2) (pv 4) (fun _ _ => rfl)))))), ?_⟩
    have ndl := lits_nodup ns nd good
    have l120 := lits_len ns
    refine ⟨_, rfl, b, A, _, rfl, hA, fun D hD => dc_it walk_sq (fun i H2 => Same H H2 ∧ ∃ is : List Nat, H2 D = some (.dK (is.map (entry (lits ns)))) ∧ is.Nodup ∧ ∀ j, j ∈ is ↔ j < (lits ns).length ∧ txt (lits ns) j ∈ ls.take i) ⟨same_new hD, [], upd_same, List.nodup_nil, fun j => ⟨fun h => (nomatch h), fun h => by simp at h⟩⟩ (fun i H2 _ hh => hA' _ hh.1) ?_ ?_⟩
    · rintro i x H2 H3 hi ⟨sm, is, hD2, ndi, mem⟩ ⟨rfl, hx⟩
      obtain ⟨l, hl, rfl⟩ := get_map hx
      obtain ⟨j, hj, ej⟩ := List.getElem_of_mem (sub l (List.mem_of_getElem? hl))
      have hj' : (lits ns)[j]? = some l := by rw [← ej]; exact List.getElem?_eq_getElem hj
      have tj := txt_at hj'
      have g : DGet H3 PL (.str l) (some (.int (j : Int))) := by
        have z := DGet.k (k := Sum.inr l) (sm _ _ hPL)
        rw [plcF_at _ 0 j ndl hj', Nat.zero_add] at z
        exact z
      have few : is.length ≤ (lits ns).length := by
        have z := nodup_le is (List.range (lits ns).length) ndi fun a ha => List.mem_range.mpr ((mem a).mp ha).1
        rwa [List.length_range] at z
      refine ⟨rfl, _, rfl, _, rfl, PL, _, rfl, g, _, rfl, _, DPut.k (k := Sum.inl (j : Int)) hD2 (by rw [List.length_map, sizeLine_eq]; omega), fun c o h => (upd_ne (ne_of_none h hD)).trans (sm c o h), if j ∈ is then is else is ++ [j], ?_, ?_, ?_⟩
      · rw [upd_same, ← tj, entry_put]
      · split
        · exact ndi
        · rename_i q
          exact List.nodup_append.mpr ⟨ndi, List.nodup_cons.mpr ⟨fun h => (nomatch h), List.nodup_nil⟩, fun a ha c hc e => q (by rw [← List.mem_singleton.mp hc, ← e]; exact ha)⟩
      · intro m
        rw [List.take_succ, hl]
        have uniq : ∀ m, m < (lits ns).length → (txt (lits ns) m = l ↔ m = j) := fun m hm => by
          constructor
          · intro e
            have z : (lits ns)[m]? = some l := by rw [← e]; exact (List.getElem?_eq_getElem hm).trans (congrArg some (txt_at (List.getElem?_eq_getElem hm)).symm)
            exact (List.getElem?_inj hm ndl).mp (z.trans hj'.symm)
          · rintro rfl
            exact tj
        have old := mem m
        by_cases q : j ∈ is
        · rw [if_pos q, old]
          constructor
          · exact fun h => ⟨h.1, List.mem_append.mpr (.inl h.2)⟩
          · rintro ⟨h1, h2⟩
            rcases List.mem_append.mp h2 with z | z
            · exact ⟨h1, z⟩
            · obtain rfl := (uniq m h1).mp (List.mem_singleton.mp z)
              exact old.mp q
        · rw [if_neg q, List.mem_append, old]
          constructor
          · rintro (h | h)
            · exact ⟨h.1, List.mem_append.mpr (.inl h.2)⟩
            · obtain rfl := List.mem_singleton.mp h
              exact ⟨hj, List.mem_append.mpr (.inr (List.mem_singleton.mpr tj))⟩
          · rintro ⟨h1, h2⟩
            rcases List.mem_append.mp h2 with z | z
            · exact .inl ⟨h1, z⟩
            · exact .inr (List.mem_singleton.mpr ((uniq m h1).mp (List.mem_singleton.mp z)))
    · rintro H2 ⟨sm, is, hD2, ndi, mem⟩
      rw [List.length_map, List.take_length] at mem
      have few : is.length ≤ (lits ns).length := by
        have z := nodup_le is (List.range (lits ns).length) ndi fun a ha => List.mem_range.mpr ((mem a).mp ha).1
        rwa [List.length_range] at z
      refine ⟨D, _, hD2, trivial, fun od => ⟨_, rfl, D, od, rfl, .inl ⟨_, upd_same, fun L hL => lc_it walk_keys (fun i H3 => H3 D = some (.frz od (.dK (is.map (entry (lits ns))))) ∧ H3 L = some (.lst ((is.take i).map fun j : Nat => V.int (j : Int))) ∧ ∀ c o, c ≠ D → H2 c = some o → H3 c = some o) ?_ (fun i H3 _ hh => hh.1) ?_ ?_⟩⟩⟩
      · have nDL : D ≠ L := ne_of_none (show upd H2 D (.frz od _) D = some _ from upd_same) hL
        exact ⟨(upd_ne nDL).trans upd_same, upd_same, fun c o nc h => (upd_ne (ne_of_none ((upd_ne nc).trans h) hL)).trans ((upd_ne nc).trans h)⟩
      · rintro i x H3 H4 hi ⟨hD3, hL3, keep⟩ ⟨rfl, kk, vv, hkv, rfl⟩
        obtain ⟨j, hj, ej⟩ := get_map hkv
        injection ej with e1 e2
        subst e1
        have ilt : i < is.length := (List.getElem?_eq_some_iff.mp hj).1
        have nDL : D ≠ L := ne_of_none (show upd H2 D (.frz od (.dK (is.map (entry (lits ns))))) D = some _ from upd_same) hL
        refine ⟨rfl, _, rfl, .inl ⟨_, rfl, _, hL3, by rw [List.length_map, List.length_take, sizeLine_eq]; omega, (upd_ne nDL).trans hD3, ?_, fun c o nc h => (upd_ne (ne_of_none ((upd_ne nc).trans h) hL)).trans (keep c o nc h)⟩⟩
        rw [upd_same, List.take_succ, hj, List.map_append]
        rfl
      · rintro H3 ⟨hD3, hL3, keep⟩
        rw [List.length_map, List.take_length] at hL3
        refine ⟨hD3, ?_⟩
        have nDL : L ≠ D := (ne_of_none (show upd H2 D (.frz od (.dK (is.map (entry (lits ns))))) D = some _ from upd_same) hL).symm
        have hL2 : H2 L = none := by
          have z := hL
          rwa [upd_ne nDL] at z
        generalize eH : upd H3 D (.dK (is.map (entry (lits ns)))) = H4
        have hD4 : H4 D = some (.dK (is.map (entry (lits ns)))) := eH ▸ upd_same
        have hL4 : H4 L = some (.lst (is.map fun j : Nat => V.int (j : Int))) := eH ▸ (upd_ne nDL).trans hL3
        have sm4 : Same H2 H4 := fun c o h => by
          by_cases e : c = D
          · subst e
            rw [hD2] at h
            rw [hD4, ← h]
          · rw [← eH]
            exact (upd_ne e).trans (keep c o e h)
        have eL : (is.map fun j : Nat => V.int (j : Int)) = (is.map fun j : Nat => (j : Int)).map V.int := by rw [List.map_map]; rfl
        refine ⟨L, is.map fun j : Nat => (j : Int), rfl, SqL.of (eL ▸ hL4), fun js p perm rise hp => ⟨p, rfl, ⟨_, SqL.of upd_same⟩, fun D2 hD2' => lc_list (K := K) (a := p) (xs := js.map V.int) (fun i H5 => Same (upd H4 p (.lst (js.map V.int))) H5 ∧ H5 D2 = some (.lst ((js.take i).map fun j => V.str (txt (lits ns) j.toNat)))) ⟨same_new hD2', upd_same⟩ (fun i H5 _ hh => SqL.of (hh.1 _ _ upd_same)) ?_ ?_⟩⟩
        · rintro i x H5 hx ⟨sm5, hD5⟩
          obtain ⟨jz, hjz, rfl⟩ := get_map hx
          obtain ⟨j, hj, rfl⟩ := List.mem_map.mp (perm.mem_iff.mp (List.mem_of_getElem? hjz))
          have lj : js.length = is.length := by
            have z := perm.length_eq
            rwa [List.length_map] at z
          have hDD : H5 D = some (.dK (is.map (entry (lits ns)))) := sm5 _ _ ((same_new hp) _ _ hD4)
          have g : DGet H5 D (.int (j : Int)) (some (.str (txt (lits ns) j))) := by
            have z := DGet.k (k := Sum.inl (j : Int)) hDD
            rw [entry_val is hj] at z
            exact z
          refine ⟨rfl, _, rfl, _, rfl, D, _, rfl, g, _, hD5, by rw [List.length_map, List.length_take, sizeLine_eq]; omega, fun c o h => (upd_ne (ne_of_none h hD2')).trans (sm5 c o h), ?_⟩
          rw [upd_same, List.take_succ, hjz, List.map_append]
          show _ = some (HO.lst (_ ++ [V.str (txt (lits ns) ((j : Int)).toNat)]))
          rw [Int.toNat_natCast]
        · rintro H5 ⟨sm5, hD5⟩
          rw [List.length_map, List.take_length] at hD5
          have e6 := rise_filter (xs := lits ns) (ls := ls) perm rise ndi mem
          have smF : Same H H5 := (sm.trans sm4).trans ((same_new hp).trans sm5)
          refine .inl ⟨D2, _, rfl, SqL.of hD5, fun q hq => k q _ (smF.free hq) ?_ (smF.trans (same_new hq))⟩
          rw [upd_same]
          have e7 : (js.map fun j => V.str (txt (lits ns) j.toNat)) = (js.map fun j => txt (lits ns) j.toNat).map V.str := by rw [List.map_map]; rfl
          rw [e7, e6]
          rfl
end
end K6
/-! A def whose one default is an empty tuple. -/
namespace EV
open PySem PySem.Spec PyProof.Rows L2
/-- the empty tuple at A0, in the part that stays -/
def NilT (K : PySem.W.Frag) (A0 : Addr) : Prop := ∃ (o : Obj) (n : Nat), K.lookup A0 = some o ∧ o.cls = .type "tuple" ∧ o.data = .seq #[] n
theorem NilT.sq {K : PySem.W.Frag} {A0 : Addr} (h : NilT K A0) (H : Hp) : SqT K H A0 [] := by
  obtain ⟨o, n, h1, h2, h3⟩ := h
  exact .inr ⟨o, #[], n, h1, h2, h3, Nat.zero_le _, .nil⟩
structure FunE (K : PySem.W.Frag) (x qual : Str) (st : Stmt) (f : Addr) (fd : FuncData) (A0 : Addr) : Prop where
  fn : FunD K x qual (defArgs st) (defBody st) (defScope st) [.ref A0] [] f fd
  e0 : NilT K A0
section
variable {P : Program} {w : World} {K : PySem.W.Frag} {mg : Str → Option Value} {base : Heap} {x qual : Str} {st : Stmt} {f A0 : Addr} {fd : FuncData}
theorem FunE.ok {N ps : List Str} {k : Nat} {sp : Sp} (F : FunE K x qual st f fd A0) (S : FnScope N ps (defScope st)) (len : ∀ vs H Q E, sp vs H Q E → vs.length = ps.length)
    (body : ∀ (cdv : Value) (A : Around) (outer : List Env) (s : Shared) (H : Hp) (vs : List V) (Q : VK) (E : XK), Room k (A.deeper (envOfC qual (defScope st) s.heap.objs.size f cdv)) → sp vs H Q E →
      ∃ t, PSs (cxOf CX0 P w K mg base N qual (defScope st) f cdv A outer s H E).nox (defBody st) t ∧ t { nx := fun _ H' => Q .non H', rt := Q } (start N vs) H) : FnOk P w K mg base CX0 (k + 1) f fd ps sp :=
  F.fn.ok S len fun cdv A outer s H vs Q E hr h => by
    obtain ⟨t, p, q⟩ := body cdv A outer s H vs Q E hr h
    exact ⟨t, p.nox, q⟩
theorem funE_mk {oc : Value} {od an : Option Addr} {osl : Array (Option Value)} {kV doc pm cdv ct : Value} {T : Addr} {o o2 : Obj} {n n2 : Nat}
    (l : K.lookup f = some ⟨oc, od, .func (PySem.W.fnOf x qual (defArgs st) (defBody st) (defScope st) (.ref T) kV doc pm an cdv ct), osl⟩) (c : PySem.W.codeIn K cdv qual = true) (k : PySem.W.keepIn K (.ref f) = true)
    (lT : K.lookup T = some o) (dT : o.data = .seq #[.ref A0] n) (lA : K.lookup A0 = some o2) (cA : o2.cls = .type "tuple") (dA : o2.data = .seq #[] n2) :
    FunE K x qual st f (PySem.W.fnOf x qual (defArgs st) (defBody st) (defScope st) (.ref T) kV doc pm an cdv ct) A0 :=
  ⟨⟨⟨oc, od, .ref T, kV, doc, pm, an, cdv, ct, osl, rfl, l, c, .inr ⟨by simp, T, o, [.ref A0], n, rfl, lT, dT, .cons rfl .nil⟩, .inl rfl⟩, k⟩, ⟨o2, n2, lA, cA, dA⟩⟩
/-- the default fills up -/
theorem FunE.short {ps : List Str} (F : FunE K x qual st f fd A0) (n : Nat) (hn : n + 1 = ps.length)
    (h : ∀ (T : Addr) (kV doc pm : Value) (an : Option Addr) (cdv ct : Value) (us its : List Value), us.length = n → its.length = 1 →
      ∃ k, bindArgs (PySem.W.fnOf x qual (defArgs st) (defBody st) (defScope st) (.ref T) kV doc pm an cdv ct) ⟨us, []⟩ = seqItems? (.ref T) >>= k ∧ k (some its.toArray) = pure (ps.zip (us ++ its))) : ∃ ds, Vals [.ref A0] ds ∧ Binds K fd ps ds :=
  F.fn.binds1 n 0 (by simp) hn fun T kV doc pm an cdv ct us its h1 h2 => h T kV doc pm an cdv ct us its h1 h2
/-- all is given -/
theorem FunE.full {ps : List Str} (F : FunE K x qual st f fd A0)
    (h : ∀ (T : Addr) (kV doc pm : Value) (an : Option Addr) (cdv ct : Value) (us its : List Value), us.length = ps.length → its.length = 1 →
      ∃ k, bindArgs (PySem.W.fnOf x qual (defArgs st) (defBody st) (defScope st) (.ref T) kV doc pm an cdv ct) ⟨us, []⟩ = seqItems? (.ref T) >>= k ∧ k (some its.toArray) = pure (ps.zip us)) : Binds K fd ps [] := by
  obtain ⟨ds, r, b⟩ := F.fn.binds1 (ps := ps) ps.length 1 (by simp) (by simp) fun T kV doc pm an cdv ct us its h1 h2 => by
    obtain ⟨k, e1, e2⟩ := h T kV doc pm an cdv ct us its h1 h2
    refine ⟨k, e1, ?_⟩
    have z : its.drop 1 = [] := List.drop_eq_nil_of_le (by rw [h2]; exact Nat.le_refl 1)
    rw [z, List.append_nil]
    exact e2
  cases r
  exact b
end
end EV
namespace K6
open PySem PySem.Spec PyProof.Rows L2 LamX NdefX EV
/-- a row that is never reached -/
theorem ps_none {X : Cx} {st : Stmt} : PS X st (fun _ _ _ => False) := ⟨fun pins s σ H D I h => h.elim⟩
def spIsList (K : PySem.W.Frag) : Sp := fun vs H Q _ => ∃ (x : V) (t : Value) (b : Bool), vs = [x] ∧ (∀ H', Same H H' → TyX K H' x t) ∧ PySem.W.kitAny K t [.type "list", .type "tuple"] = some b ∧ ∀ H', Same H H' → Q (.bl b) H'
/-- names that are checked; others that are taken -/
def spChkNames (K : PySem.W.Frag) : Sp := fun vs H Q _ => ∃ (T U : Addr) (b c : Bool) (ns tk : List Str), vs = [.ref T, .ref U] ∧ (∀ H', Same H H' → Sq K b H' T (ns.map V.str)) ∧ (∀ H', Same H H' → Sq K c H' U (tk.map V.str)) ∧ ns.length ≤ 60 ∧ tk.length ≤ 60 ∧ (tk ++ ns).Nodup ∧ (∀ z ∈ ns, Name1 z) ∧ ∀ H', Same H H' → Q .non H'
section
variable {P : Program} {w : World} {K : PySem.W.Frag} {mg : Str → Option Value} {base : Heap} {f fI fL fW : Addr} {fd fdI fdL fdW : FuncData}
theorem scIsList : FnScope ["thing"] ["thing"] (defScope sIsList) := ⟨rfl, rfl, rfl, by decide +kernel, rfl, by decide +kernel, by decide +kernel⟩
theorem ok_isList (F : Fun K "is_list" "is_list" sIsList f fd) (mi : mg "isinstance" = none) (ml : mg "list" = none) (mt : mg "tuple" = none) : FnOk P w K mg base CX0 1 f fd ["thing"] (spIsList K) := by
  refine F.ok scIsList (fun vs H Q E h => ?_) (fun cdv A outer s H vs Q E hr h => ?_)
  · obtain ⟨x, t, b, rfl, _⟩ := h
    rfl
  · obtain ⟨x, t, b, rfl, ty, kit, k⟩ := h
    refine ⟨_, pss_one (ps_ret (pe_callB call_isiT (by rfl) mi (by decide +kernel) (pa_cons (pv 0) (pa_cons (pe_tup (pa_cons (pe_bltn (v := .ty "list") (by rfl) ml (by decide +kernel) rfl) (pa_cons (pe_bltn (v := .ty "tuple") (by rfl) mt (by decide +kernel) rfl) pa_nil))) pa_nil)))), ?_⟩
    refine ⟨_, rfl, by show 2 ≤ sizeLine; decide, fun tp htp => ⟨x, tp, _, t, _, b, rfl, upd_same, .cons (.ty "list") (.cons (.ty "tuple") .nil), ty _ (same_new htp), kit, k _ (same_new htp)⟩⟩
abbrev nChk : List Str := ["things", "taken", "seen", "name", "index", "thing"]
theorem scChk : FnScope nChk ["things", "taken"] (defScope sChkNames) := ⟨rfl, rfl, rfl, by decide +kernel, rfl, by decide +kernel, by decide +kernel⟩
def seenKv (n : Str) : Key × V := (Sum.inr n, .bl true)
theorem seen_none {n : Str} : ∀ ns : List Str, n ∉ ns → valV (ns.map seenKv) (Sum.inr n) = none
  | [], _ => rfl
  | m :: r, h => by
    have ne : ¬ (seenKv m).1 = Sum.inr n := fun q => by
      have q : (Sum.inr m : Key) = Sum.inr n := q
      injection q with q
      exact h (q ▸ List.mem_cons_self)
    rw [List.map_cons, valV_neg ne]
    exact seen_none r fun q => h (List.mem_cons_of_mem _ q)
theorem seen_some {n : Str} : ∀ ns : List Str, n ∈ ns → valV (ns.map seenKv) (Sum.inr n) = some (.bl true)
  | [], h => nomatch h
  | m :: r, h => by
    by_cases e : m = n
    · subst e
      exact valV_pos rfl
    · have ne : ¬ (seenKv m).1 = Sum.inr n := fun q => by
        have q : (Sum.inr m : Key) = Sum.inr n := q
        injection q with q
        exact e q
      rw [List.map_cons, valV_neg ne]
      exact seen_some r ((List.mem_cons.mp h).resolve_left fun q => e q.symm)
theorem not_before {α : Type} {xs : List α} {i : Nat} {x : α} (nd : xs.Nodup) (h : xs[i]? = some x) : x ∉ xs.take i := fun m => by
  obtain ⟨j, hj, hj2⟩ := List.getElem_of_mem m
  have ilt := (List.getElem?_eq_some_iff.mp h).1
  have jlt : j < i := by rw [List.length_take] at hj; omega
  have z : xs[j]? = some x := by
    rw [List.getElem_take] at hj2
    rw [← hj2]
    exact List.getElem?_eq_getElem _
  exact absurd ((List.getElem?_inj (by omega) nd).mp (z.trans h.symm)) (by omega)
theorem nodup_right {α : Type} {xs ys : List α} (h : (xs ++ ys).Nodup) : ys.Nodup := (List.nodup_append.mp h).2.1
theorem ok_chkNames {A0 : Addr} (F : FunE K "check_names" "check_names" sChkNames f fd A0) (GI : FnOk P w K mg base CX0 1 fI fdI ["thing"] spIsName) (mI : mg "is_name" = some (.ref fI)) (kI : PySem.W.keepIn K (.ref fI) = true) (bI : L2.Binds K fdI ["thing"] []) (me : mg "enumerate" = none) :
    FnOk P w K mg base CX0 2 f fd ["things", "taken"] (spChkNames K) := by
  refine F.ok scChk (fun vs H Q E h => ?_) (fun cdv A outer s H vs Q E hr h => ?_)
  · obtain ⟨T, U, b, c, ns, tk, rfl, _⟩ := h
    rfl
  · obtain ⟨T, U, b, c, ns, tk, rfl, hT', hU', hn, hm, nd, good, k⟩ := h
    have hu := hu_of hr
    refine ⟨_, pss_cons (ps_set (i := 2) scChk.nd rfl (.inl rfl) pe_dnewK)
      (pss_cons (ps_for PassesOwn.never rfl (pi_seq (pv 1)) (pg_name (i := 3) scChk.nd rfl (.inl rfl)) (pss_one (ps_dput hu (pv 2) (pv 3) pe_bl rfl)))
      (pss_one (ps_for PassesOwn.never rfl (pi_enumB (by rfl) me (pa_cons (pv 0) pa_nil)) (pg_tup rfl (pgs_cons (pg_name (i := 4) scChk.nd rfl (.inl rfl)) (pgs_cons (pg_name (i := 5) scChk.nd rfl (.inl rfl)) pgs_nil)))
        (pss_cons (ps_if (PW.pt (pw_or (pt_not (pt_val (pe_call GI hr (by rfl) mI kI bI .nil pass0 (pa_cons (pv 5) pa_nil)))) (pw_or1 (pt_cmp (pc_din hu (pv 5) (pv 2)))))) (pss_one ps_none) pss_nil)
        (pss_one (ps_dput hu (pv 2) (pv 5) pe_bl rfl)))))), ?_⟩
    refine fun d hd => ⟨_, rfl, c, U, _, rfl, hU' _ (same_new hd), for_it walk_sq (fun i σ H2 => ∃ o3 o4 o5, σ = [some (.ref T), some (.ref U), some (.ref d), o3, o4, o5] ∧ Same H H2 ∧ H2 d = some (.dK ((tk.take i).map seenKv))) ⟨_, _, _, rfl, same_new hd, upd_same⟩ (fun i σ H2 _ ⟨_, _, _, _, sm, _⟩ => hU' _ sm) ?_ ?_⟩
    · rintro i x σ H2 H3 hi ⟨o3, o4, o5, rfl, sm, hd2⟩ ⟨rfl, hv⟩
      obtain ⟨n, hn', rfl⟩ := get_map hv
      have fresh := not_before (List.nodup_append.mp nd).1 hn'
      refine ⟨_, rfl, _, rfl, d, _, rfl, DPut.k (k := Sum.inr n) hd2 (by rw [List.length_map, List.length_take, sizeLine_eq]; omega), _, _, _, rfl, fun c o h => (upd_ne (ne_of_none h hd)).trans (sm c o h), ?_⟩
      rw [upd_same, putK_new (seen_none _ fresh), List.take_succ, hn', List.map_append]
      rfl
    rintro σ H2 ⟨o3, o4, o5, rfl, sm, hd2⟩
    rw [List.length_map, List.take_length] at hd2
    refine ⟨_, rfl, b, T, _, rfl, hT' _ sm, for_it walk_enumB (fun i σ H3 => ∃ o3 o4 o5, σ = [some (.ref T), some (.ref U), some (.ref d), o3, o4, o5] ∧ Same H H3 ∧ H3 d = some (.dK ((tk ++ ns.take i).map seenKv))) ⟨_, _, _, rfl, sm, by rw [List.take_zero, List.append_nil]; exact hd2⟩ (fun i σ H2 _ ⟨_, _, _, _, sm, _⟩ => hT' _ sm) ?_ ?_⟩
    · rintro i x σ H2 H3 hi ⟨o3, o4, o5, rfl, sm, hd2⟩ ⟨t, v1, v2, rfl, ht, rfl, hv1, hv2⟩
      obtain ⟨n, hn', rfl⟩ := get_map hv2
      obtain rfl := Option.some.inj hv1
      have fresh : n ∉ tk ++ ns.take i := fun q => by
        rcases List.mem_append.mp q with q | q
        · exact (List.nodup_append.mp nd).2.2 n q n (List.mem_of_getElem? hn') rfl
        · exact not_before (nodup_right nd) hn' q
      have hd3 := (upd_ne (o := .tup [.int (i : Nat), .str n]) (ne_of_none hd2 ht)).trans hd2
      refine ⟨t, _, rfl, SqT.of upd_same, rfl, _, _, rfl, _, _, rfl, rfl, _, rfl, n, rfl, good n (List.mem_of_getElem? hn'), fun H4 sm4 => ?_⟩
      have hd4 := sm4 _ _ hd3
      have g : DGet H4 d (.str n) none := by
        have z := DGet.k (k := Sum.inr n) hd4
        rwa [seen_none _ fresh] at z
      refine ⟨_, rfl, iteF ⟨_, rfl, _, rfl, d, _, rfl, g, _, rfl, iteF ?_⟩⟩
      refine ⟨_, rfl, _, rfl, d, _, rfl, DPut.k (k := Sum.inr n) hd4 (by rw [List.length_map, List.length_append, List.length_take, sizeLine_eq]; omega), _, _, _, rfl, fun c o h => (upd_ne (ne_of_none h hd)).trans (sm4 _ _ ((same_new ht) _ _ (sm c o h))), ?_⟩
      rw [upd_same, putK_new (seen_none _ fresh), List.take_succ, hn', ← List.append_assoc, List.map_append (l₁ := tk ++ ns.take i)]
      rfl
    · rintro σ H2 ⟨o3, o4, o5, rfl, sm, hd2⟩
      exact k H2 sm
end
end K6
namespace K6
open PySem PySem.Spec PyProof.Rows L2 LamX NdefX EV
theorem lit_mem {ns : List Str} {q : Bool × Str} (h : q.2 ∈ ns) : lit q ∈ lits ns := by
  refine List.mem_flatMap.mpr ⟨q.2, h, ?_⟩
  unfold lit
  split
  · exact List.mem_cons_of_mem _ List.mem_cons_self
  · exact List.mem_cons_self
theorem plc_some {ns : List Str} {l : Str} (nd : ns.Nodup) (good : ∀ z ∈ ns, Name1 z) (h : l ∈ lits ns) : ∃ v, valV (plc ns) (Sum.inr l) = some v := by
  obtain ⟨j, hj, ej⟩ := List.getElem_of_mem h
  exact ⟨_, plcF_at _ 0 j (lits_nodup ns nd good) (by rw [← ej]; exact List.getElem?_eq_getElem hj)⟩
/-- a thing that may not stand behind these literals in a clause -/
inductive BadV (K : PySem.W.Frag) (H : Hp) (ns : List Str) (qs : List (Bool × Str)) : V → Prop
  | odd {x : V} (t : Value) (ty : ∀ H', Same H H' → TyX K H' x t) (kit : PySem.W.kitOne K t (.type "str") = some false) : BadV K H ns qs x
  | far {z : Str} (h : z ∉ lits ns) : BadV K H ns qs (.str z)
  | twice {q : Bool × Str} (h : q.2 ∈ ns) (h2 : q.2 ∈ qs.map Prod.snd) : BadV K H ns qs (.str (lit q))
/-- things as a clause of the names ns: all right, or wrong behind some literals -/
inductive Seen (K : PySem.W.Frag) (H : Hp) (ns : List Str) : Bool → List V → Prop
  | ok {qs : List (Bool × Str)} (h : Lits ns qs) : Seen K H ns true ((qs.map lit).map V.str)
  | bad {qs : List (Bool × Str)} {x : V} {rest : List V} (h : Lits ns qs) (b : BadV K H ns qs x) : Seen K H ns false ((qs.map lit).map V.str ++ x :: rest)
def spWrong (K : PySem.W.Frag) : Sp := fun vs H Q _ => ∃ (PL A : Addr) (b : Bool) (ns : List Str) (xs : List V) (r : Bool), vs = [.ref PL, .ref A] ∧ H PL = some (.dK (plc ns)) ∧ Sq K b H A xs ∧ (∀ H', Same H H' → Sq K b H' A xs) ∧ ns.length ≤ 60 ∧ ns.Nodup ∧ (∀ z ∈ ns, Name1 z) ∧ Seen K H ns r xs ∧
  ∀ H', Same H H' → if r = true then Q .non H' else ∀ i : Int, Q (.int i) H'
section
variable {P : Program} {w : World} {K : PySem.W.Frag} {mg : Str → Option Value} {base : Heap} {f fN : Addr} {fd fdN : FuncData}
abbrev nWrong : List Str := ["places", "things", "seen", "index", "thing"]
theorem scWrong : FnScope nWrong ["places", "things"] (defScope sWrong) := ⟨rfl, rfl, rfl, by decide +kernel, rfl, by decide +kernel, by decide +kernel⟩
theorem ok_wrong (F : Fun K "first_wrong" "first_wrong" sWrong f fd) (GN : FnOk P w K mg base CX0 1 fN fdN ["literal"] spNameOf) (mN : mg "name_of" = some (.ref fN)) (kN : PySem.W.keepIn K (.ref fN) = true) (bN : L2.Binds K fdN ["literal"] []) (me : mg "enumerate" = none) (mi : mg "isinstance" = none) (ms : mg "str" = none) :
    FnOk P w K mg base CX0 2 f fd ["places", "things"] (spWrong K) := by
  refine F.ok scWrong (fun vs H Q E h => ?_) (fun cdv A' outer s H vs Q E hr h => ?_)
  · obtain ⟨PL, A, b, ns, xs, r, rfl, _⟩ := h
    rfl
  · obtain ⟨PL, A, b, ns, xs, r, rfl, hPL, hA, hA', hn, nd, good, see, k⟩ := h
    have hu := hu_of hr
    refine ⟨_, pss_cons (ps_set (i := 2) scWrong.nd rfl (.inl rfl) pe_dnewK)
      (pss_cons (ps_for PassesOwn.never rfl (pi_enumB (by rfl) me (pa_cons (pv 1) pa_nil)) (pg_tup rfl (pgs_cons (pg_name (i := 3) scWrong.nd rfl (.inl rfl)) (pgs_cons (pg_name (i := 4) scWrong.nd rfl (.inl rfl)) pgs_nil)))
        (pss_cons (ps_if (PW.pt (pw_or (pt_not (pt_val (pe_callB call_isi (by rfl) mi (by decide +kernel) (pa_cons (pv 4) (pa_cons (pe_bltn (v := .ty "str") (by rfl) ms (by decide +kernel) rfl) pa_nil))))) (pw_or (pt_cmp (pc_dnotin hu (pv 4) (pv 0))) (pw_or1 (pt_cmp (pc_din hu (pe_call GN hr (by rfl) mN kN bN .nil pass0 (pa_cons (pv 4) pa_nil)) (pv 2))))))) (pss_one (ps_ret (pv 3))) pss_nil)
        (pss_one (ps_dput hu (pv 2) (pe_call GN hr (by rfl) mN kN bN .nil pass0 (pa_cons (pv 4) pa_nil)) pe_bl rfl))))
      (pss_one (ps_ret pe_non))), ?_⟩
    obtain ⟨qs, tail, hq, rfl, h1, h2⟩ : ∃ qs tail, Lits ns qs ∧ xs = (qs.map lit).map V.str ++ tail ∧ (tail = [] → r = true) ∧ (∀ x rest, tail = x :: rest → r = false ∧ BadV K H ns qs x) := by
      cases see with
      | @ok qs h => exact ⟨qs, [], h, (List.append_nil _).symm, fun _ => rfl, fun x rest e => (nomatch e)⟩
      | @bad qs x rest h b =>
        refine ⟨qs, x :: rest, h, rfl, (fun e => (nomatch e)), fun y s e => ⟨rfl, ?_⟩⟩
        injection e with e1 _
        exact e1 ▸ b
    have few : qs.length ≤ ns.length := by
      have z := nodup_le (qs.map Prod.snd) ns hq.nd fun n hn => by
        obtain ⟨q, hq', rfl⟩ := List.mem_map.mp hn
        exact hq.sub q hq'
      rwa [List.length_map] at z
    have ll : ((qs.map lit).map V.str).length = qs.length := by rw [List.length_map, List.length_map]
    refine fun d hd => ⟨_, rfl, b, A, _, rfl, hA' _ (same_new hd), for_it walk_enumB (fun i σ H2 => ∃ o3 o4, σ = [some (.ref PL), some (.ref A), some (.ref d), o3, o4] ∧ i ≤ qs.length ∧ Same H H2 ∧ H2 d = some (.dK (((qs.map Prod.snd).take i).map seenKv))) ⟨_, _, rfl, Nat.zero_le _, same_new hd, upd_same⟩ (fun i σ H2 _ ⟨_, _, _, _, sm, _⟩ => hA' _ sm) ?_ ?_⟩
    · rintro i x σ H2 H3 hi ⟨o3, o4, rfl, ile, sm, hd2⟩ ⟨t, v1, v2, rfl, ht, rfl, hv1, hv2⟩
      obtain rfl := Option.some.inj hv1
      replace hv2 : ((qs.map lit).map V.str ++ tail)[i]? = some v2 := hv2
      have hd3 := (upd_ne (o := .tup [.int (i : Nat), v2]) (ne_of_none hd2 ht)).trans hd2
      have sm3 : Same H (upd H2 t (.tup [.int (i : Nat), v2])) := sm.trans (same_new ht)
      have hPL3 := sm3 _ _ hPL
      refine ⟨t, _, rfl, SqT.of upd_same, rfl, _, _, rfl, _, _, rfl, rfl, _, rfl, ?_⟩
      by_cases ilt : i < qs.length
      · -- a literal that may stand here
        obtain ⟨q, hqi⟩ : ∃ q, qs[i]? = some q := ⟨_, List.getElem?_eq_getElem ilt⟩
        have ev : v2 = .str (lit q) := by
          rw [List.getElem?_append_left (by rw [ll]; exact ilt), List.getElem?_map, List.getElem?_map, hqi] at hv2
          exact (Option.some.inj hv2).symm
        subst ev
        have mem := List.mem_of_getElem? hqi
        have qn : (qs.map Prod.snd)[i]? = some q.2 := by rw [List.getElem?_map, hqi]; rfl
        have fresh := not_before hq.nd qn
        obtain ⟨v, hv⟩ := plc_some nd good (lit_mem (hq.sub q mem))
        have g1 : DGet (upd H2 t (.tup [.int (i : Nat), .str (lit q)])) PL (.str (lit q)) (some v) := by
          have z := DGet.k (k := Sum.inr (lit q)) hPL3
          rwa [hv] at z
        have g2 : DGet (upd H2 t (.tup [.int (i : Nat), .str (lit q)])) d (.str q.2) none := by
          have z := DGet.k (k := Sum.inr q.2) hd3
          rwa [seen_none _ fresh] at z
        refine ⟨_, _, _, _, true, rfl, .ty "str", .base (.str _), kit_ty (by decide +kernel), _, rfl, iteF ⟨_, rfl, _, rfl, PL, _, rfl, g1, _, rfl, iteF ⟨_, rfl, q, rfl, good _ (hq.sub q mem), _, rfl, d, _, rfl, g2, _, rfl, iteF ?_⟩⟩⟩
        refine ⟨_, rfl, _, rfl, q, rfl, good _ (hq.sub q mem), d, _, rfl, DPut.k (k := Sum.inr q.2) hd3 (by rw [List.length_map, List.length_take, sizeLine_eq]; omega), _, _, rfl, ilt, fun c o h => (upd_ne (ne_of_none h hd)).trans (sm3 c o h), ?_⟩
        rw [upd_same, putK_new (seen_none _ fresh), List.take_succ, qn, List.map_append]
        rfl
      · -- the thing that may not
        have ie : i = qs.length := by omega
        obtain ⟨rest, et⟩ : ∃ rest, tail = v2 :: rest := by
          rw [List.getElem?_append_right (by rw [ll]; omega), ll, ie, Nat.sub_self] at hv2
          cases tail with
          | nil => cases hv2
          | cons y s => exact ⟨s, by rw [← Option.some.inj hv2]⟩
        obtain ⟨er, bad⟩ := h2 v2 rest et
        have fin : ∀ H', Same H H' → Q (.int (i : Int)) H' := fun H' s' => by
          have z := k H' s'
          rw [er] at z
          exact z i
        have hd3' := hd3
        rw [ie, List.take_of_length_le (by rw [List.length_map]; exact Nat.le_refl _)] at hd3'
        cases bad with
        | odd ty0 ty kit => exact ⟨_, _, _, _, false, rfl, .ty "str", ty _ sm3, kit, _, rfl, iteT ⟨_, rfl, fin _ sm3⟩⟩
        | @far z h =>
          have g1 : DGet (upd H2 t (.tup [.int (i : Nat), .str z])) PL (.str z) none := by
            have y := DGet.k (k := Sum.inr z) hPL3
            rwa [plcF_none _ 0 h] at y
          exact ⟨_, _, _, _, true, rfl, .ty "str", .base (.str _), kit_ty (by decide +kernel), _, rfl, iteF ⟨_, rfl, _, rfl, PL, _, rfl, g1, _, rfl, iteT ⟨_, rfl, fin _ sm3⟩⟩⟩
        | @twice q hq1 hq2 =>
          obtain ⟨v, hv⟩ := plc_some nd good (lit_mem hq1)
          have g1 : DGet (upd H2 t (.tup [.int (i : Nat), .str (lit q)])) PL (.str (lit q)) (some v) := by
            have z := DGet.k (k := Sum.inr (lit q)) hPL3
            rwa [hv] at z
          have g2 : DGet (upd H2 t (.tup [.int (i : Nat), .str (lit q)])) d (.str q.2) (some (.bl true)) := by
            have z := DGet.k (k := Sum.inr q.2) hd3'
            rw [seen_some _ hq2] at z
            rw [ie] at *
            exact z
          exact ⟨_, _, _, _, true, rfl, .ty "str", .base (.str _), kit_ty (by decide +kernel), _, rfl, iteF ⟨_, rfl, _, rfl, PL, _, rfl, g1, _, rfl, iteF ⟨_, rfl, q, rfl, good _ hq1, _, rfl, d, _, rfl, g2, _, rfl, iteT ⟨_, rfl, fin _ sm3⟩⟩⟩⟩
    · rintro σ H2 ⟨o3, o4, rfl, ile, sm, hd2⟩
      rw [List.length_append, ll] at ile
      have et : tail = [] := List.eq_nil_of_length_eq_zero (by omega)
      have z := k H2 sm
      rw [h1 et] at z
      exact z
end
end K6
namespace K6
open PySem PySem.Spec PyProof.Rows L2 LamX NdefX EV
/-- what the program asks of a thing: is it a clause of these names -/
inductive Ask (K : PySem.W.Frag) (H : Hp) (ns : List Str) : Bool → V → Prop
  | seq {b : Bool} {A : Addr} {xs : List V} {r : Bool} (t : Value) (ty : ∀ H', Same H H' → TyX K H' (.ref A) t) (kit : PySem.W.kitAny K t [.type "list", .type "tuple"] = some true) (sq : ∀ H', Same H H' → Sq K b H' A xs) (see : ∀ H', Same H H' → Seen K H' ns r xs) : Ask K H ns r (.ref A)
  | odd {x : V} (t : Value) (ty : ∀ H', Same H H' → TyX K H' x t) (kit : PySem.W.kitAny K t [.type "list", .type "tuple"] = some false) : Ask K H ns false x
theorem Ask.same {K : PySem.W.Frag} {H H' : Hp} {ns : List Str} {r : Bool} {x : V} (sm : Same H H') (a : Ask K H ns r x) : Ask K H' ns r x := by
  cases a with
  | seq t ty kit sq see => exact .seq t (fun H2 s2 => ty H2 (sm.trans s2)) kit (fun H2 s2 => sq H2 (sm.trans s2)) fun H2 s2 => see H2 (sm.trans s2)
  | odd t ty kit => exact .odd t (fun H2 s2 => ty H2 (sm.trans s2)) kit
def spIsClause (K : PySem.W.Frag) : Sp := fun vs H Q _ => ∃ (PL : Addr) (x : V) (ns : List Str) (r : Bool), vs = [.ref PL, x] ∧ H PL = some (.dK (plc ns)) ∧ ns.length ≤ 60 ∧ ns.Nodup ∧ (∀ z ∈ ns, Name1 z) ∧ Ask K H ns r x ∧ ∀ H', Same H H' → Q (.bl r) H'
def spChkCl (K : PySem.W.Frag) : Sp := fun vs H Q _ => ∃ (PL T : Addr) (b : Bool) (xs : List V) (ns : List Str), vs = [.ref PL, .ref T] ∧ H PL = some (.dK (plc ns)) ∧ (∀ H', Same H H' → Sq K b H' T xs) ∧ ns.length ≤ 60 ∧ ns.Nodup ∧ (∀ z ∈ ns, Name1 z) ∧ (∀ x ∈ xs, Ask K H ns true x) ∧ ∀ H', Same H H' → Q .non H'
section
variable {P : Program} {w : World} {K : PySem.W.Frag} {mg : Str → Option Value} {base : Heap} {f fL fW fC : Addr} {fd fdL fdW fdC : FuncData}
theorem scIsClause : FnScope ["places", "thing"] ["places", "thing"] (defScope sIsClause) := ⟨rfl, rfl, rfl, by decide +kernel, rfl, by decide +kernel, by decide +kernel⟩
theorem ok_isClause (F : Fun K "is_clause" "is_clause" sIsClause f fd) (GL : FnOk P w K mg base CX0 1 fL fdL ["thing"] (spIsList K)) (mL : mg "is_list" = some (.ref fL)) (kL : PySem.W.keepIn K (.ref fL) = true) (bL : L2.Binds K fdL ["thing"] [])
    (GW : FnOk P w K mg base CX0 2 fW fdW ["places", "things"] (spWrong K)) (mW : mg "first_wrong" = some (.ref fW)) (kW : PySem.W.keepIn K (.ref fW) = true) (bW : L2.Binds K fdW ["places", "things"] []) :
    FnOk P w K mg base CX0 3 f fd ["places", "thing"] (spIsClause K) := by
  refine F.ok scIsClause (fun vs H Q E h => ?_) (fun cdv A' outer s H vs Q E hr h => ?_)
  · obtain ⟨PL, x, ns, r, rfl, _⟩ := h
    rfl
  · obtain ⟨PL, x, ns, r, rfl, hPL, hn, nd, good, ask, k⟩ := h
    have hr1 : Room 1 _ := hr.mono (by decide)
    refine ⟨_, pss_one (ps_ret (pe_and (pe_call GL hr1 (by rfl) mL kL bL .nil pass0 (pa_cons (pv 1) pa_nil)) (pe_one (pe_cmpR op_isN (pe_call GW hr (by rfl) mW kW bW .nil pass0 (pa_cons (pv 0) (pa_cons (pv 1) pa_nil))) pe_non rfl)))), ?_⟩
    cases ask with
    | @seq b A xs _ t ty kit sq see =>
      refine ⟨_, rfl, .ref A, t, true, rfl, ty, kit, fun H1 sm1 => ⟨_, rfl, iteT ⟨_, rfl, _, rfl, PL, A, b, ns, xs, r, rfl, sm1 _ _ hPL, sq H1 sm1, (fun H2 s2 => sq H2 (sm1.trans s2)), hn, nd, good, see H1 sm1, fun H2 sm2 => ?_⟩⟩⟩
      cases r with
      | true => exact ⟨rfl, k H2 (sm1.trans sm2)⟩
      | false => exact fun i => ⟨rfl, k H2 (sm1.trans sm2)⟩
    | odd t ty kit => exact ⟨_, rfl, x, t, false, rfl, ty, kit, fun H1 sm1 => ⟨_, rfl, iteF (k H1 sm1)⟩⟩
abbrev nChkCl : List Str := ["places", "things", "index", "thing"]
theorem scChkCl : FnScope nChkCl ["places", "things"] (defScope sChkCl) := ⟨rfl, rfl, rfl, by decide +kernel, rfl, by decide +kernel, by decide +kernel⟩
theorem ok_chkCl (F : Fun K "check_clauses" "check_clauses" sChkCl f fd) (GC : FnOk P w K mg base CX0 3 fC fdC ["places", "thing"] (spIsClause K)) (mC : mg "is_clause" = some (.ref fC)) (kC : PySem.W.keepIn K (.ref fC) = true) (bC : L2.Binds K fdC ["places", "thing"] []) (me : mg "enumerate" = none) :
    FnOk P w K mg base CX0 4 f fd ["places", "things"] (spChkCl K) := by
  refine F.ok scChkCl (fun vs H Q E h => ?_) (fun cdv A' outer s H vs Q E hr h => ?_)
  · obtain ⟨PL, T, b, xs, ns, rfl, _⟩ := h
    rfl
  · obtain ⟨PL, T, b, xs, ns, rfl, hPL, hT, hn, nd, good, ask, k⟩ := h
    refine ⟨_, pss_one (ps_for PassesOwn.never rfl (pi_enumB (by rfl) me (pa_cons (pv 1) pa_nil)) (pg_tup rfl (pgs_cons (pg_name (i := 2) scChkCl.nd rfl (.inl rfl)) (pgs_cons (pg_name (i := 3) scChkCl.nd rfl (.inl rfl)) pgs_nil)))
        (pss_one (ps_if (pt_not (pt_val (pe_call GC hr (by rfl) mC kC bC .nil pass0 (pa_cons (pv 0) (pa_cons (pv 3) pa_nil))))) (pss_one ps_none) pss_nil))), ?_⟩
    refine ⟨_, rfl, b, T, _, rfl, hT _ (Same.refl _), for_it walk_enumB (fun i σ H2 => ∃ o2 o3, σ = [some (.ref PL), some (.ref T), o2, o3] ∧ Same H H2) ⟨_, _, rfl, Same.refl _⟩ (fun i σ H2 _ ⟨_, _, _, sm⟩ => hT _ sm) ?_ ?_⟩
    · rintro i x σ H2 H3 hi ⟨o2, o3, rfl, sm⟩ ⟨t, v1, v2, rfl, ht, rfl, hv1, hv2⟩
      have sm3 := sm.trans (same_new (o := .tup [v1, v2]) ht)
      refine ⟨t, _, rfl, SqT.of upd_same, rfl, _, _, rfl, _, _, rfl, rfl, _, rfl, _, rfl, PL, v2, ns, true, rfl, sm3 _ _ hPL, hn, nd, good, (ask v2 (List.mem_of_getElem? hv2)).same sm3, fun H4 sm4 => ⟨_, rfl, iteF ⟨_, _, rfl, sm3.trans sm4⟩⟩⟩
    · rintro σ H2 ⟨o2, o3, rfl, sm⟩
      exact k H2 sm
end
end K6
namespace K6
open PySem PySem.Spec PyProof.Rows L2 LamX NdefX EV
abbrev sInit : Stmt := inClass (top 23) 0
abbrev sSigns : Stmt := inClass (top 23) 1
abbrev sHelpers : Stmt := inClass (top 23) 2
abbrev sClauses : Stmt := inClass (top 23) 3
abbrev sLen : Stmt := inClass (top 23) 8
abbrev sContains : Stmt := inClass (top 23) 9
abbrev sEq : Stmt := inClass (top 23) 11
/-! ### rows, each once -/
def addRow (rs : List (List Str)) (r : List Str) : List (List Str) := if r ∈ rs then rs else rs ++ [r]
def rowKv (r : List Str) : List Key × V := (r.map Sum.inr, .bl true)
theorem inr_inj : ∀ {a b : List Str}, a.map (Sum.inr : Str → Key) = b.map Sum.inr → a = b
  | [], [], _ => rfl
  | [], _ :: _, h => nomatch h
  | _ :: _, [], h => nomatch h
  | x :: a, y :: b, h => by
    injection h with h1 h2
    injection h1 with h1
    rw [h1, inr_inj h2]
theorem row_some {r : List Str} : ∀ rs : List (List Str), r ∈ rs → valV (rs.map rowKv) (r.map Sum.inr) = some (.bl true)
  | [], h => nomatch h
  | m :: rs, h => by
    by_cases e : m = r
    · subst e
      exact valV_pos rfl
    · rw [List.map_cons, valV_neg (fun q => e (inr_inj q))]
      exact row_some rs ((List.mem_cons.mp h).resolve_left fun q => e q.symm)
theorem row_none {r : List Str} : ∀ rs : List (List Str), r ∉ rs → valV (rs.map rowKv) (r.map Sum.inr) = none
  | [], _ => rfl
  | m :: rs, h => by
    rw [List.map_cons, valV_neg (fun q => h (by rw [inr_inj q]; exact List.mem_cons_self))]
    exact row_none rs fun q => h (List.mem_cons_of_mem _ q)
theorem row_put {rs : List (List Str)} {r : List Str} : putK (rs.map rowKv) (r.map Sum.inr) (.bl true) = (addRow rs r).map rowKv := by
  unfold addRow
  by_cases h : r ∈ rs
  · rw [if_pos h]
    unfold putK
    rw [valV_any, row_some rs h]
    show List.map (fun kv => if kv.1 = r.map Sum.inr then (kv.1, V.bl true) else kv) (List.map rowKv rs) = _
    rw [List.map_map]
    refine List.map_congr_left fun m _ => ?_
    show (if (rowKv m).1 = _ then _ else _) = _
    split
    · rfl
    · rfl
  · rw [if_neg h, putK_new (row_none rs h), List.map_append]
    rfl
theorem addRow_len (rs : List (List Str)) (r : List Str) : (addRow rs r).length ≤ rs.length + 1 := by
  unfold addRow
  split
  · omega
  · rw [List.length_append]; exact Nat.le_refl _
theorem kV_strs (r : List Str) : (r.map (Sum.inr : Str → Key)).map kV = r.map V.str := by
  rw [List.map_map]
  rfl
/-- the rows of clauses, each once, in the order in which they come -/
def rowsOf (ns : List Str) (qss : List (List (Bool × Str))) : List (List Str) := (qss.map fun qs => asc ns (qs.map lit)).foldl addRow []
theorem rowsOf_snoc (ns : List Str) (qss : List (List (Bool × Str))) (qs : List (Bool × Str)) : rowsOf ns (qss ++ [qs]) = addRow (rowsOf ns qss) (asc ns (qs.map lit)) := by
  unfold rowsOf
  rw [List.map_append, List.foldl_append]
  rfl
theorem rowsOf_len (ns : List Str) : ∀ qss : List (List (Bool × Str)), (rowsOf ns qss).length ≤ qss.length := by
  have go : ∀ (xs acc : List (List Str)), (xs.foldl addRow acc).length ≤ acc.length + xs.length := by
    intro xs
    induction xs with
    | nil => intro acc; exact Nat.le_refl _
    | cons x r ih =>
      intro acc
      have z := ih (addRow acc x)
      have y := addRow_len acc x
      rw [List.foldl_cons, List.length_cons]
      omega
  intro qss
  have z := go (qss.map fun qs => asc ns (qs.map lit)) []
  rw [List.length_map] at z
  unfold rowsOf
  simpa using z
/-- the fields of a code -/
def fl (a b pl r : Addr) : List (Str × V) := putF "rows" (.ref r) (putF "places" (.ref pl) (putF "own_helpers" (.ref b) (putF "own_signs" (.ref a) [])))
theorem fl_eq (a b pl r : Addr) : fl a b pl r = ([("own_signs", V.ref a), ("own_helpers", V.ref b), ("places", V.ref pl), ("rows", V.ref r)] : List (Str × V)) := by
  unfold fl putF
  rfl
/-- a code that stands in the heap -/
structure CodeAt (K : PySem.W.Frag) (C : Addr) (H : Hp) (x : Addr) (sg hp : List Str) (rs : List (List Str)) : Prop where
  at_ : ∃ dx a b pl r, H x = some (.ins C dx (fl a b pl r)) ∧ (∀ H', Same H H' → SqT K H' a (sg.map V.str)) ∧ (∀ H', Same H H' → SqT K H' b (hp.map V.str)) ∧ H pl = some (.dK (plc (sg ++ hp))) ∧ H r = some (.dT (rs.map rowKv))
/-- the same, the rows' dict named -/
structure CodeR (K : PySem.W.Frag) (C : Addr) (H : Hp) (x : Addr) (sg hp : List Str) (rs : List (List Str)) (r : Addr) : Prop where
  at_ : ∃ dx a b pl, H x = some (.ins C dx (fl a b pl r)) ∧ (∀ H', Same H H' → SqT K H' a (sg.map V.str)) ∧ (∀ H', Same H H' → SqT K H' b (hp.map V.str)) ∧ H pl = some (.dK (plc (sg ++ hp))) ∧ H r = some (.dT (rs.map rowKv))
theorem CodeR.code {K : PySem.W.Frag} {C : Addr} {H : Hp} {x r : Addr} {sg hp : List Str} {rs : List (List Str)} (c : CodeR K C H x sg hp rs r) : CodeAt K C H x sg hp rs := by
  obtain ⟨dx, a, b, pl, h⟩ := c.at_
  exact ⟨dx, a, b, pl, r, h⟩
structure CTxt (K : PySem.W.Frag) (mg : Str → Option Value) (C : Addr) : Prop where
  cl : Cls K C
  n1 : NoAttr K C "own_signs"
  n2 : NoAttr K C "own_helpers"
  n3 : NoAttr K C "places"
  n4 : NoAttr K C "rows"
  mgC : mg "Code" = some (.ref C)
  tuple : mg "tuple" = none
  list : mg "list" = none
  len : mg "len" = none
/-- all but x stays -/
def Grow (x : Addr) (H H' : Hp) : Prop := ∀ c o, c ≠ x → H c = some o → H' c = some o
theorem Grow.of {x : Addr} {H H' : Hp} (s : Same H H') : Grow x H H' := fun c o _ h => s c o h
theorem Grow.trans {x : Addr} {H H1 H2 : Hp} (a : Grow x H H1) (b : Grow x H1 H2) : Grow x H H2 := fun c o n h => b c o n (a c o n h)
theorem Grow.put {x : Addr} {H : Hp} {o : HO} : Grow x H (upd H x o) := fun _ _ n h => (upd_ne n).trans h
theorem tup_any {K : PySem.W.Frag} {H : Hp} {b : Bool} {a x : Addr} {xs : List V} {Q : VK} (hs : ∀ H', Grow x H H' → Sq K b H' a xs) {o : HO} (hx : H x = some o) (k : ∀ q H', Same H H' → (∀ H2, Grow x H' H2 → SqT K H2 q xs) → Q (.ref q) H') : kTup K (.ref a) H Q := by
  have h := hs H (Grow.of (Same.refl H))
  cases b with
  | false => exact .inr ⟨a, xs, rfl, h, k a H (Same.refl H) fun H2 g => hs H2 g⟩
  | true => exact .inl ⟨a, xs, rfl, h, fun q hq => k q _ (same_new hq) fun H2 g => SqT.of (g _ _ (ne_of_none hx hq).symm upd_same)⟩
/-- one clause handed over: a list or tuple of literals of distinct names -/
def Given (K : PySem.W.Frag) (s : Addr) (H : Hp) (ns : List Str) (x : V) (qs : List (Bool × Str)) : Prop := Lits ns qs ∧ ∃ (b : Bool) (A : Addr) (t : Value), x = .ref A ∧ (∀ H', Grow s H H' → TyX K H' (.ref A) t) ∧ PySem.W.kitAny K t [.type "list", .type "tuple"] = some true ∧ ∀ H', Grow s H H' → Sq K b H' A ((qs.map lit).map V.str)
theorem Given.ask {K : PySem.W.Frag} {s : Addr} {H : Hp} {ns : List Str} {x : V} {qs : List (Bool × Str)} (g : Given K s H ns x qs) : Ask K H ns true x := by
  obtain ⟨hq, b, A, t, rfl, ty, kit, sq⟩ := g
  exact .seq t (fun H' s' => ty H' (.of s')) kit (fun H' s' => sq H' (.of s')) fun _ _ => .ok hq
def spInit (K : PySem.W.Frag) (C : Addr) : Sp := fun vs H Q _ => ∃ (x dx S0 T0 H0 : Addr) (b1 b2 b3 : Bool) (sg hp : List Str) (xs : List V) (qss : List (List (Bool × Str))), vs = [.ref x, .ref S0, .ref T0, .ref H0] ∧ H x = some (.ins C dx []) ∧
  (∀ H', Grow x H H' → Sq K b1 H' S0 (sg.map V.str)) ∧ (∀ H', Grow x H H' → Sq K b2 H' T0 xs) ∧ (∀ H', Grow x H H' → Sq K b3 H' H0 (hp.map V.str)) ∧ (sg ++ hp).length ≤ 60 ∧ (sg ++ hp).Nodup ∧ (∀ z ∈ sg ++ hp, Name1 z) ∧ Paired (Given K x H (sg ++ hp)) xs qss ∧ qss.length ≤ 1000 ∧
  ∀ H' r, Grow x H H' → CodeR K C H' x sg hp (rowsOf (sg ++ hp) qss) r → H r = none → Q .non H'
section
variable {P : Program} {w : World} {K : PySem.W.Frag} {mg : Str → Option Value} {base : Heap} {f fN fP fC fO C : Addr} {fd fdN fdP fdC fdO : FuncData}
abbrev nInit : List Str := ["self", "signs", "clauses", "helpers", "names", "places", "clause"]
theorem scInit : FnScope nInit ["self", "signs", "clauses", "helpers"] (defScope sInit) := ⟨rfl, rfl, rfl, by decide +kernel, rfl, by decide +kernel, by decide +kernel⟩
theorem ok_init {A0 A1 : Addr} {dsN : List Value} (F : FunE K "__init__" "Code.__init__" sInit f fd A0) (T : CTxt K mg C)
    (GN : FnOk P w K mg base CX0 2 fN fdN ["things", "taken"] (spChkNames K)) (mN : mg "check_names" = some (.ref fN)) (kN : PySem.W.keepIn K (.ref fN) = true) (hN1 : NilT K A1) (dN : Vals [.ref A1] dsN) (bN : L2.Binds K fdN ["things", "taken"] dsN)
    (GP : FnOk P w K mg base CX0 2 fP fdP ["names"] (spPlaces K)) (mP : mg "places_of" = some (.ref fP)) (kP : PySem.W.keepIn K (.ref fP) = true) (bP : L2.Binds K fdP ["names"] [])
    (GC : FnOk P w K mg base CX0 4 fC fdC ["places", "things"] (spChkCl K)) (mC : mg "check_clauses" = some (.ref fC)) (kC : PySem.W.keepIn K (.ref fC) = true) (bC : L2.Binds K fdC ["places", "things"] [])
    (GO : FnOk P w K mg base CX0 1 fO fdO ["places", "literals"] (spInOrder K)) (mO : mg "in_order" = some (.ref fO)) (kO : PySem.W.keepIn K (.ref fO) = true) (bO : L2.Binds K fdO ["places", "literals"] []) :
    FnOk P w K mg base CX0 5 f fd ["self", "signs", "clauses", "helpers"] (spInit K C) := by
  refine F.ok scInit (fun vs H Q E h => ?_) (fun cdv A' outer s H vs Q E hr h => ?_)
  · obtain ⟨x, dx, S0, T0, H0, b1, b2, b3, sg, hp, xs, qss, rfl, _⟩ := h
    rfl
  · obtain ⟨x, dx, S0, T0, H0, b1, b2, b3, sg, hp, xs, qss, rfl, hx, hS, hT, hH, hn, nd, good, giv, few, k⟩ := h
    have hu := hu_of hr
    have hr1 : Room 1 _ := hr.mono (by decide)
    have hr2 : Room 2 _ := hr.mono (by decide)
    refine ⟨_, pss_cons (ps_set (i := 4) scInit.nd rfl (.inl rfl) (pe_tup (StX.pa_star (pv 1) (StX.pa_star (pv 3) pa_nil))))
      (pss_cons (ps_expr (pe_call GN hr2 (by rfl) mN kN bN dN pass0 (pa_cons (pv 4) pa_nil)))
      (pss_cons (ps_set (i := 5) scInit.nd rfl (.inr rfl) (pe_call GP hr2 (by rfl) mP kP bP .nil pass0 (pa_cons (pv 4) pa_nil)))
      (pss_cons (ps_expr (pe_call GC hr (by rfl) mC kC bC .nil pass0 (pa_cons (pv 5) (pa_cons (pv 2) pa_nil))))
      (pss_cons (ps_fld (pv 0) (pe_tupleOf (by rfl) T.tuple (pv 1)) rfl)
      (pss_cons (ps_fld (pv 0) (pe_tupleOf (by rfl) T.tuple (pv 3)) rfl)
      (pss_cons (ps_fld (pv 0) (pv 5) rfl)
      (pss_one (ps_fld (pv 0) (pe_dcP (own := [("clause", 6)]) .t rfl hu scInit.nd (pi_seq (pv 2)) (blkOk_by (N := nInit) (sc := defScope sInit) (by decide +kernel))
          (fun _ _ _ _ _ => pg_name (i := 6) scInit.nd rfl (.inl rfl)) (fun _ _ _ _ _ => pts_nil) (fun _ _ _ _ _ => pe_call GO hr1 (by rfl) mO kO bO .nil pass0 (pa_cons (pv 5) (pa_cons (pv 6) pa_nil))) (fun _ _ _ _ _ => pe_bl)) rfl)))))))), ?_⟩
    have g0 : Grow x H H := .of (Same.refl H)
    have eN : sg.map V.str ++ (hp.map V.str ++ []) = (sg ++ hp).map V.str := by rw [List.append_nil, List.map_append]
    refine ⟨_, rfl, S0, _, rfl, (hS H g0).any.symm, _, rfl, H0, _, rfl, (hH H g0).any.symm, ?_, fun N hN => ?_⟩
    · rw [eN, List.length_map, sizeLine_eq]
      omega
    rw [eN]
    have smN : Same H (upd H N (.tup ((sg ++ hp).map V.str))) := same_new hN
    have sqN : ∀ H', Same (upd H N (.tup ((sg ++ hp).map V.str))) H' → Sq K false H' N ((sg ++ hp).map V.str) := fun H' s' => Sq.tup (s' _ _ upd_same)
    refine ⟨_, rfl, N, A1, false, false, sg ++ hp, [], rfl, sqN, (fun H' _ => hN1.sq H'), hn, Nat.zero_le _, nd, good, fun H1 sm1 => ?_⟩
    refine ⟨_, rfl, N, false, sg ++ hp, rfl, sqN _ sm1, (fun H' s' => sqN H' (sm1.trans s')), hn, nd, good, fun PL H2 hPL0 hPL2 sm2 => ?_⟩
    have sm02 := smN.trans (sm1.trans sm2)
    refine ⟨_, rfl, _, rfl, PL, T0, b2, xs, sg ++ hp, rfl, hPL2, (fun H' s' => hT H' (.of (sm02.trans s'))), hn, nd, good, (fun v hv => ?_), fun H3 sm3 => ?_⟩
    · obtain ⟨i, hi⟩ := List.getElem?_of_mem hv
      obtain ⟨qs, _, g⟩ := paired_get giv i v hi
      exact g.ask.same sm02
    have sm03 := sm02.trans sm3
    have hx3 := sm03 _ _ hx
    refine ⟨_, rfl, tup_any (x := x) (fun H' g => hS H' ((Grow.of sm03).trans g)) hx3 fun a H4 sm4 ha => ⟨_, rfl, x, C, dx, [], rfl, sm4 _ _ hx3, T.cl, T.n1, (by show 0 < 1000; decide), ?_⟩⟩
    have g4 : Grow x H (upd H4 x (.ins C dx (putF "own_signs" (.ref a) []))) := (Grow.of (sm03.trans sm4)).trans .put
    refine ⟨_, rfl, tup_any (x := x) (fun H' g => hH H' (g4.trans g)) upd_same fun b H5 sm5 hb => ⟨_, rfl, x, C, dx, _, rfl, sm5 _ _ upd_same, T.cl, T.n2, (by show 1 < 1000; decide), ?_⟩⟩
    have g5 := (g4.trans (Grow.of sm5)).trans (Grow.put (o := .ins C dx (putF "own_helpers" (.ref b) (putF "own_signs" (.ref a) []))))
    refine ⟨_, rfl, _, rfl, x, C, dx, _, rfl, upd_same, T.cl, T.n3, (by show 2 < 1000; decide), ?_⟩
    have g6 := g5.trans (Grow.put (x := x) (o := .ins C dx (putF "places" (.ref PL) (putF "own_helpers" (.ref b) (putF "own_signs" (.ref a) [])))))
    have g36 : Grow x H3 (upd (upd H5 x (.ins C dx (putF "own_helpers" (.ref b) (putF "own_signs" (.ref a) [])))) x (.ins C dx (putF "places" (.ref PL) (putF "own_helpers" (.ref b) (putF "own_signs" (.ref a) []))))) :=
      ((((Grow.of sm4).trans .put).trans (Grow.of sm5)).trans .put).trans .put
    have nPx : PL ≠ x := ne_of (sm3 _ _ hPL2) hx3 fun z => nomatch z
    have ndl := lits_nodup (sg ++ hp) nd good
    generalize eH6 : upd (upd H5 x (.ins C dx (putF "own_helpers" (.ref b) (putF "own_signs" (.ref a) [])))) x (.ins C dx (putF "places" (.ref PL) (putF "own_helpers" (.ref b) (putF "own_signs" (.ref a) [])))) = H6 at g6 g36 ⊢
    have hx6 : H6 x = some (.ins C dx (putF "places" (.ref PL) (putF "own_helpers" (.ref b) (putF "own_signs" (.ref a) [])))) := eH6 ▸ upd_same
    have hPL6 : H6 PL = some (.dK (plc (sg ++ hp))) := g36 _ _ nPx (sm3 _ _ hPL2)
    have lx : xs.length = qss.length := Paired.length giv
    refine ⟨_, rfl, b2, T0, _, rfl, hT _ g6, fun D hD => dc_it walk_sq (fun i H7 => Same H6 H7 ∧ H7 D = some (.dT ((rowsOf (sg ++ hp) (qss.take i)).map rowKv))) ⟨same_new hD, upd_same⟩ (fun i H7 _ hh => hT _ (g6.trans (Grow.of hh.1))) ?_ ?_⟩
    · rintro i v H7 H8 hi ⟨sm7, hD7⟩ ⟨rfl, hv⟩
      obtain ⟨qs, hqs, hq, b', A, t', rfl, ty, kit, sq⟩ := paired_get giv i v hv
      have g7 := g6.trans (Grow.of sm7)
      refine ⟨rfl, _, rfl, _, rfl, PL, A, b', sg ++ hp, qs.map lit, rfl, sm7 _ _ hPL6, sq _ g7, (fun H' s' => sq _ (g7.trans (Grow.of s'))), hn, nd, good, (fun l hl => ?_), fun t H9 ht ht9 sm9 => ?_⟩
      · obtain ⟨q, hq', rfl⟩ := List.mem_map.mp hl
        exact lit_mem (hq.sub q hq')
      rw [← kV_strs] at ht9
      refine ⟨_, DPut.t (sm9 _ _ hD7) ht9 ?_, fun c o h => (upd_ne (ne_of_none h hD)).trans (sm9 _ _ (sm7 _ _ h)), ?_⟩
      · rw [List.length_map, sizeLine_eq]
        have := rowsOf_len (sg ++ hp) (qss.take i)
        have := List.length_take_le i qss
        have := List.length_take_le' i qss
        omega
      · rw [upd_same, row_put, List.take_succ, hqs]
        show _ = some (HO.dT ((rowsOf (sg ++ hp) (qss.take i ++ [qs])).map rowKv))
        rw [rowsOf_snoc]
    · rintro H7 ⟨sm7, hD7⟩
      rw [lx, List.take_length] at hD7
      have g67 : Grow x H6 (upd H7 x (.ins C dx (fl a b PL D))) := (Grow.of sm7).trans .put
      refine ⟨_, rfl, x, C, dx, _, rfl, sm7 _ _ hx6, T.cl, T.n4, (by show 3 < 1000; decide), k _ D (g6.trans g67) ⟨dx, a, b, PL, upd_same, ?_, ?_, g67 _ _ nPx hPL6, ?_⟩ ?_⟩
      · intro H' s'
        refine ha H' ?_
        exact (((Grow.put (x := x) (o := .ins C dx (putF "own_signs" (.ref a) []))).trans (Grow.of sm5)).trans (Grow.put.trans (eH6 ▸ Grow.put))).trans (g67.trans (Grow.of s'))
      · intro H' s'
        refine hb H' ?_
        exact (Grow.put.trans (eH6 ▸ Grow.put)).trans (g67.trans (Grow.of s'))
      · exact (upd_ne (ne_of hD7 (sm7 _ _ hx6) fun z => nomatch z)).trans hD7
      · cases hHD : H D with
        | none => rfl
        | some o =>
          by_cases e : D = x
          · rw [e, hx6] at hD
            cases hD
          · rw [g6 _ _ e hHD] at hD
            cases hD
end
end K6
namespace K6
open PySem PySem.Spec PyProof.Rows L2 LamX NdefX EV
def spSigns (K : PySem.W.Frag) (C : Addr) : Sp := fun vs H Q _ => ∃ (x : Addr) (sg hp : List Str) (rs : List (List Str)), vs = [.ref x] ∧ CodeAt K C H x sg hp rs ∧ ∀ p, H p = none → Q (.ref p) (upd H p (.lst (sg.map V.str)))
def spHelpers (K : PySem.W.Frag) (C : Addr) : Sp := fun vs H Q _ => ∃ (x : Addr) (sg hp : List Str) (rs : List (List Str)), vs = [.ref x] ∧ CodeAt K C H x sg hp rs ∧ ∀ p, H p = none → Q (.ref p) (upd H p (.lst (hp.map V.str)))
def spClauses (K : PySem.W.Frag) (C : Addr) : Sp := fun vs H Q _ => ∃ (x : Addr) (sg hp : List Str) (rs : List (List Str)), vs = [.ref x] ∧ CodeAt K C H x sg hp rs ∧ ∀ p ts, H p = none → RowsAt H ts rs → Q (.ref p) (upd H p (.lst (ts.map V.ref)))
def spLen (K : PySem.W.Frag) (C : Addr) : Sp := fun vs H Q _ => ∃ (x : Addr) (sg hp : List Str) (rs : List (List Str)), vs = [.ref x] ∧ CodeAt K C H x sg hp rs ∧ Q (.int ((rs.length : Nat) : Int)) H
def spContains (K : PySem.W.Frag) (C : Addr) : Sp := fun vs H Q _ => ∃ (x : Addr) (v : V) (sg hp : List Str) (rs : List (List Str)), vs = [.ref x, v] ∧ CodeAt K C H x sg hp rs ∧ (sg ++ hp).length ≤ 60 ∧ (sg ++ hp).Nodup ∧ (∀ z ∈ sg ++ hp, Name1 z) ∧
  ((∃ qs, Given K x H (sg ++ hp) v qs ∧ ∀ H', Same H H' → Q (.bl (decide (asc (sg ++ hp) (qs.map lit) ∈ rs))) H') ∨ (Ask K H (sg ++ hp) false v ∧ ∀ H', Same H H' → Q (.bl false) H'))
theorem keys_rows {H : Hp} : ∀ (rs : List (List Str)) (bs : List Addr), IsKeys H (rs.map rowKv) bs → RowsAt H bs rs
  | [], [], _ => .nil
  | [], _ :: _, h => nomatch h
  | _ :: _, [], h => nomatch h
  | r :: rs, b :: bs, .cons h t => .cons (by rw [show (rowKv r).1 = r.map Sum.inr from rfl, kV_strs] at h; exact h) (keys_rows rs bs t)
theorem scLen : FnScope ["self"] ["self"] (defScope sLen) := ⟨rfl, rfl, rfl, by decide +kernel, rfl, by decide +kernel, by decide +kernel⟩
theorem scContains : FnScope ["self", "thing"] ["self", "thing"] (defScope sContains) := ⟨rfl, rfl, rfl, by decide +kernel, rfl, by decide +kernel, by decide +kernel⟩
section
variable {P : Program} {w : World} {K : PySem.W.Frag} {mg : Str → Option Value} {base : Heap} {f C : Addr} {fd : FuncData}
theorem fl1 (a b pl r : Addr) : (fl a b pl r).lookup ("own_signs" : Str) = some (.ref a) := by rw [fl_eq]; rfl
theorem fl2 (a b pl r : Addr) : (fl a b pl r).lookup ("own_helpers" : Str) = some (.ref b) := by rw [fl_eq]; rfl
theorem fl3 (a b pl r : Addr) : (fl a b pl r).lookup ("places" : Str) = some (.ref pl) := by rw [fl_eq]; rfl
theorem fl4 (a b pl r : Addr) : (fl a b pl r).lookup ("rows" : Str) = some (.ref r) := by rw [fl_eq]; rfl
theorem scSigns : FnScope ["self"] ["self"] (defScope sSigns) := ⟨rfl, rfl, rfl, by decide +kernel, rfl, by decide +kernel, by decide +kernel⟩
theorem ok_signs (F : Fun K "signs" "Code.signs" sSigns f fd) (T : CTxt K mg C) : FnOk P w K mg base CX0 1 f fd ["self"] (spSigns K C) := by
  refine F.ok scSigns (fun vs H Q E h => ?_) (fun cdv A' outer s H vs Q E hr h => ?_)
  · obtain ⟨x, sg, hp, rs, rfl, _⟩ := h
    rfl
  · obtain ⟨x, sg, hp, rs, rfl, ⟨dx, a, b, pl, r, hx, ha, _⟩, k⟩ := h
    refine ⟨_, pss_one (ps_ret (pe_callTy call_list_of (by rfl) T.list (by decide +kernel) (pa_cons (pe_fld (pv 0) rfl) pa_nil))), ?_⟩
    exact ⟨_, rfl, x, C, dx, _, _, rfl, hx, T.cl, T.n1, fl1 .., a, _, rfl, .inr (ha H (Same.refl H)), k⟩
theorem scHelpers : FnScope ["self"] ["self"] (defScope sHelpers) := ⟨rfl, rfl, rfl, by decide +kernel, rfl, by decide +kernel, by decide +kernel⟩
theorem ok_helpers (F : Fun K "helpers" "Code.helpers" sHelpers f fd) (T : CTxt K mg C) : FnOk P w K mg base CX0 1 f fd ["self"] (spHelpers K C) := by
  refine F.ok scHelpers (fun vs H Q E h => ?_) (fun cdv A' outer s H vs Q E hr h => ?_)
  · obtain ⟨x, sg, hp, rs, rfl, _⟩ := h
    rfl
  · obtain ⟨x, sg, hp, rs, rfl, ⟨dx, a, b, pl, r, hx, _, hb, _⟩, k⟩ := h
    refine ⟨_, pss_one (ps_ret (pe_callTy call_list_of (by rfl) T.list (by decide +kernel) (pa_cons (pe_fld (pv 0) rfl) pa_nil))), ?_⟩
    exact ⟨_, rfl, x, C, dx, _, _, rfl, hx, T.cl, T.n2, fl2 .., b, _, rfl, .inr (hb H (Same.refl H)), k⟩
theorem scClauses : FnScope ["self"] ["self"] (defScope sClauses) := ⟨rfl, rfl, rfl, by decide +kernel, rfl, by decide +kernel, by decide +kernel⟩
theorem ok_clauses (F : Fun K "clauses" "Code.clauses" sClauses f fd) (T : CTxt K mg C) : FnOk P w K mg base CX0 1 f fd ["self"] (spClauses K C) := by
  refine F.ok scClauses (fun vs H Q E h => ?_) (fun cdv A' outer s H vs Q E hr h => ?_)
  · obtain ⟨x, sg, hp, rs, rfl, _⟩ := h
    rfl
  · obtain ⟨x, sg, hp, rs, rfl, ⟨dx, a, b, pl, r, hx, _, _, _, hr4⟩, k⟩ := h
    refine ⟨_, pss_one (ps_ret (pe_callTy (call_list_dT rfl) (by rfl) T.list (by decide +kernel) (pa_cons (pe_fld (pv 0) rfl) pa_nil))), ?_⟩
    refine ⟨_, rfl, x, C, dx, _, _, rfl, hx, T.cl, T.n4, fl4 .., r, _, rfl, .inl hr4, fun p bs hp hk => k p bs hp ?_⟩
    exact keys_rows rs bs hk
theorem ok_len (F : Fun K "__len__" "Code.__len__" sLen f fd) (T : CTxt K mg C) : FnOk P w K mg base CX0 1 f fd ["self"] (spLen K C) := by
  refine F.ok scLen (fun vs H Q E h => ?_) (fun cdv A' outer s H vs Q E hr h => ?_)
  · obtain ⟨x, sg, hp, rs, rfl, _⟩ := h
    rfl
  · obtain ⟨x, sg, hp, rs, rfl, ⟨dx, a, b, pl, r, hx, _, _, _, hr4⟩, k⟩ := h
    refine ⟨_, pss_one (ps_ret (pe_callB call_len_dT (by rfl) T.len PySem.boot_len (pa_cons (pe_fld (pv 0) rfl) pa_nil))), ?_⟩
    refine ⟨_, rfl, x, C, dx, _, _, rfl, hx, T.cl, T.n4, fl4 .., r, _, rfl, hr4, ?_⟩
    rw [List.length_map]
    exact k
theorem ok_contains {fC fO : Addr} {fdC fdO : FuncData} (F : Fun K "__contains__" "Code.__contains__" sContains f fd) (T : CTxt K mg C)
    (GC : FnOk P w K mg base CX0 3 fC fdC ["places", "thing"] (spIsClause K)) (mC : mg "is_clause" = some (.ref fC)) (kC : PySem.W.keepIn K (.ref fC) = true) (bC : L2.Binds K fdC ["places", "thing"] [])
    (GO : FnOk P w K mg base CX0 1 fO fdO ["places", "literals"] (spInOrder K)) (mO : mg "in_order" = some (.ref fO)) (kO : PySem.W.keepIn K (.ref fO) = true) (bO : L2.Binds K fdO ["places", "literals"] []) :
    FnOk P w K mg base CX0 4 f fd ["self", "thing"] (spContains K C) := by
  refine F.ok scContains (fun vs H Q E h => ?_) (fun cdv A' outer s H vs Q E hr h => ?_)
  · obtain ⟨x, v, sg, hp, rs, rfl, _⟩ := h
    rfl
  · obtain ⟨x, v, sg, hp, rs, rfl, ⟨dx, a, b, pl, r, hx, _, _, hpl, hr4⟩, hn, nd, good, way⟩ := h
    have hu := hu_of hr
    have hr1 : Room 1 _ := hr.mono (by decide)
    refine ⟨_, pss_one (ps_ret (pe_and (pe_call GC hr (by rfl) mC kC bC .nil pass0 (pa_cons (pe_fld (pv 0) rfl) (pa_cons (pv 1) pa_nil))) (pe_one (pe_cmp (pc_din hu (pe_call GO hr1 (by rfl) mO kO bO .nil pass0 (pa_cons (pe_fld (pv 0) rfl) (pa_cons (pv 1) pa_nil))) (pe_fld (pv 0) rfl)))))), ?_⟩
    refine ⟨_, rfl, x, C, dx, _, _, rfl, hx, T.cl, T.n3, fl3 .., _, rfl, ?_⟩
    rcases way with ⟨qs, giv, k⟩ | ⟨ask, k⟩
    · refine ⟨pl, v, sg ++ hp, true, rfl, hpl, hn, nd, good, giv.ask, fun H1 sm1 => ⟨_, rfl, iteT ?_⟩⟩
      obtain ⟨hq, b', A, t, rfl, ty, kit, sq⟩ := giv
      refine ⟨_, rfl, x, C, dx, _, _, rfl, sm1 _ _ hx, T.cl, T.n3, fl3 .., _, rfl, pl, A, b', sg ++ hp, qs.map lit, rfl, sm1 _ _ hpl, sq _ (.of sm1), (fun H' s' => sq _ (.of (sm1.trans s'))), hn, nd, good, (fun l hl => ?_), fun t1 H2 ht ht2 sm2 => ?_⟩
      · obtain ⟨q, hq', rfl⟩ := List.mem_map.mp hl
        exact lit_mem (hq.sub q hq')
      rw [← kV_strs] at ht2
      have sm := sm1.trans sm2
      have g := DGet.t (k := (asc (sg ++ hp) (qs.map lit)).map Sum.inr) (sm _ _ hr4) ht2
      refine ⟨_, rfl, x, C, dx, _, _, rfl, sm _ _ hx, T.cl, T.n4, fl4 .., r, _, rfl, g, ?_⟩
      by_cases e : asc (sg ++ hp) (qs.map lit) ∈ rs
      · rw [row_some rs e]
        have z := k H2 sm
        rwa [decide_eq_true e] at z
      · rw [row_none rs e]
        have z := k H2 sm
        rwa [decide_eq_false e] at z
    · exact ⟨pl, v, sg ++ hp, false, rfl, hpl, hn, nd, good, ask, fun H1 sm1 => ⟨_, rfl, iteF (k H1 sm1)⟩⟩
end
end K6
/-! set(xs) of a tuple or list of distinct keys; set == set. -/
namespace EV
open PySem PySem.Spec PyProof.Rows L2
section
variable {prog : Program} {w : World} {K : Type} [DecidableEq K] [BEq K] [LawfulBEq K] {knd : KeyKind prog w K} {A : Around}
/-- the loop that fills a set from a walk: each key is new -/
theorem fill_loop {R : Result → Shared → Prop} {I : Addr} {fp wr : List Addr} {G : Array GenState → Array GenState → Prop} {n : Nat} {Pv : Nat → Value → Prop} {St : Nat → Shared → Prop}
    (W : WalksS prog w A.in1 I fp wr G n Pv St) (D : Addr) (off : D ∉ fp) (ks : List K) (len : ks.length = n) (few : n < 4000) (nd : ks.Nodup)
    (val : ∀ i v, Pv i v → ∃ k, ks[i]? = some k ∧ knd.is k v = true ∧ v.scannable = true) : ∀ (m i : Nat) (s : Shared), i + m = n → St i s → s.heap.SetOf knd D (fun j => decide (j ∈ ks.take i)) i →
      (∀ s', Moved (D :: wr) G s s' → s'.heap.SetOf knd D (fun j => decide (j ∈ ks)) n → R (.ok (.ret .none)) s') →
      codeAny (model prog w) A (.builtin "set.update.loop" ⟨[.ref D, .ref I], []⟩) R s := by
  have offw : D ∉ wr := fun h => off (W.sub _ h)
  have wide : ∀ b ∈ wr, b ∈ D :: wr := fun b hb => List.mem_cons_of_mem _ hb
  have stays : ∀ {h h' : Heap} {S : K → Bool} {c : Nat}, h.SetOf knd D S c → (∀ o, h.get? D = some o → h'.get? D = some o) → h'.SetOf knd D S c := fun x k => by
    obtain ⟨o, es, ep, t, ho, rest⟩ := x
    exact ⟨o, es, ep, t, k o ho, rest⟩
  intro m
  induction m with
  | zero =>
    intro i s sum st hS fin
    obtain rfl : i = n := sum
    refine codeAny_builtin PyProof.Rows.F.entry_set_update_loop ?_
    rw [Around.under_plainId PyProof.Rows.F.plain_set_update_loop _]
    show wpAny _ A.in1 (pyNext (.ref I) >>= _) _ _ s
    refine wpAny_bind (W.done s _ _ st fun s' mv => ?_)
    show wpAny _ A.in1 (ret Value.none) _ _ s'
    rw [← len, List.take_length] at hS
    exact wpAny_pure (fin s' (mv.mono wide) (len ▸ stays hS fun o e => mv.heap D _ offw e))
  | succ m ih =>
    intro i s sum st hS fin
    have lt : i < n := by omega
    refine codeAny_builtin PyProof.Rows.F.entry_set_update_loop ?_
    rw [Around.under_plainId PyProof.Rows.F.plain_set_update_loop _]
    show wpAny _ A.in1 (pyNext (.ref I) >>= _) _ _ s
    refine wpAny_bind (W.item i s _ _ lt st fun v s' hv st' mv => ?_)
    obtain ⟨k, hk, isk, sc⟩ := val i v hv
    have hS' : s'.heap.SetOf knd D (fun j => decide (j ∈ ks.take i)) i := stays hS fun o e => mv.heap D _ offw e
    show wpAny _ A.in1 (holding [v] (setAdd D v) >>= _) _ _ s'
    refine wpAny_bind (wpAny_holding ?_)
    unfold setAdd
    refine wpAny_holding (wpAny_bind (knd.pyHash (k := k) isk ?_))
    refine wpAny_setAddHashed_of (knd := knd) (s := { s' with toks := s'.toks + 1 }) isk sc hS' (by unfold scanBound; omega) fun h' sb hS2 => ?_
    have new : k ∉ ks.take i := fun q => by
      obtain ⟨j, hj, e⟩ := List.getElem_of_mem q
      have il := (List.getElem?_eq_some_iff.mp hk).1
      have jl : j < i := by rw [List.length_take] at hj; omega
      rw [List.getElem_take] at e
      have z : ks[j]? = some k := by rw [← e]; exact List.getElem?_eq_getElem _
      exact absurd ((List.getElem?_inj (by omega) nd).mp (z.trans hk.symm)) (by omega)
    have hS3 : h'.SetOf knd D (fun j => decide (j ∈ ks.take (i + 1))) (i + 1) := by
      refine SetOf_congr hS2 (fun j => ?_) (by rw [decide_eq_false new]; rfl)
      rw [List.take_succ, hk]
      show (decide (j ∈ ks.take i) || decide (j = k)) = decide (j ∈ ks.take i ++ [k])
      rw [← Bool.decide_or]
      exact decide_eq_decide.mpr (by rw [List.mem_append, List.mem_singleton])
    refine wpAny_pure ⟨plainId_quiet PyProof.Rows.F.plain_set_update_loop _, ih (i + 1) _ (by omega) (W.frame _ s' _ _ st' (Nat.le_succ _) fun b hb o e => ?_) hS3 fun s2 mv2 hS4 => ?_⟩
    · exact (sb.2 b fun q => off (q ▸ hb)).trans e
    · refine fin s2 (Moved.trans W.gtrans ((mv.mono wide).then_heap (Nat.le_succ _) fun b o hb e => ?_) mv2) hS4
      exact (sb.2 b fun q => hb (q ▸ List.mem_cons_self)).trans e
end
section
variable {prog : Program} {w : World} {K : Type} [DecidableEq K] [BEq K] [LawfulBEq K] {knd : KeyKind prog w K} {A : Around} {E : Value → Shared → Prop} {s : Shared}
/-- set(t), t a tuple of distinct keys -/
theorem call_setOf {l : Addr} {items : Array Value} {ks : List K} {Q : Value → Shared → Prop} (hh : A.handled = none) (hl : s.heap.IsTuple l items) (len : ks.length = items.size) (few : items.size < 4000) (nd : ks.Nodup)
    (val : ∀ (i : Nat) (v : Value), items[i]? = some v → ∃ k, ks[i]? = some k ∧ knd.is k v = true ∧ v.scannable = true)
    (h : ∀ (h' : Heap) (tk : Nat), h'.SetOf knd s.heap.objs.size (fun j => decide (j ∈ ks)) items.size → (∀ b o, b < s.heap.objs.size → s.heap.get? b = some o → h'.get? b = some o) → Q (.ref s.heap.objs.size) { s with heap := h', toks := tk }) :
    wpAny (model prog w) A (call (.type "set") [.ref l]) Q E s := by
  have made := PySem.F.called_set.made
  have subs := PySem.F.called_set.sub
  have nt := PySem.F.called_set.notType
  have cc := PySem.F.called_set.canCreate
  have tc := PySem.F.typeCall_set_1 (.ref l)
  obtain ⟨c, tl, mro⟩ := PySem.F.called_set.mro
  refine wpAny_call (codeAny_of_tree ?_)
  show wpAny _ _ (callAny (.type "set") _) _ _ _
  refine wpAny_pure ⟨Code.quiet_builtin _ (by decide +kernel), codeAny_builtin PySem.F.entry_type_call ?_⟩
  rw [Around.under_plain (weight_type_call_type "set" [.ref l] []) rfl]
  repeat (any_goals (first | assumption | wp_step))
  refine codeAny_mono (code_set_new_1 (.ref l) (E := E) (Q₁ := fun obj s₁ => ∃ led : Bool, obj = .ref s.heap.objs.size ∧ s₁ = { s with heap := s.heap.push { cls := .type "set", dict := none, data := .set #[] 0 (.fresh 0 0 led) } }) fun led => ⟨led, rfl, rfl⟩) fun res s₁ got => ?_
  match res, got with
  | .error _, got => exact got
  | .ok .next, got => exact got.elim
  | .ok .brk, got => exact got.elim
  | .ok .cont, got => exact got.elim
  | .ok (.ret _), ⟨led, e1, e2⟩ =>
  subst e1 e2
  have hS : (s.heap.push { cls := .type "set", dict := none, data := .set #[] 0 (.fresh 0 0 led) }).get? s.heap.objs.size = some { cls := .type "set", dict := none, data := .set #[] 0 (.fresh 0 0 led) } := Heap.get?_push_size _ rfl
  have hT : Shared.TypeIs { s with heap := s.heap.push { cls := .type "set", dict := none, data := .set #[] 0 (.fresh 0 0 led) } } (.ref s.heap.objs.size) "set" := ⟨_, hS, rfl⟩
  have il := PySem.F.called_set.init.lookup
  have ib := PySem.F.called_set.init.bind (.ref s.heap.objs.size)
  repeat (any_goals (first | assumption | wp_step))
  refine codeAny_mono (codeAny_call_builtin (R := wants (fun r s₂ => r = .none ∧ Q (.ref s.heap.objs.size) s₂) E) PySem.F.called_set.init.plain PySem.F.entry_set_init (check_set_init_1 hT ?_)) fun res s₂ got => ?_
  rotate_left
  · match res, got with
    | .error _, got => exact got
    | .ok .next, got => exact got.elim
    | .ok .brk, got => exact got.elim
    | .ok .cont, got => exact got.elim
    | .ok (.ret _), ⟨e1, q⟩ =>
      subst e1
      repeat (any_goals (first | assumption | wp_step))
  obtain ⟨⟨oc, od, dt, osl⟩, at0, hc, n, hd⟩ := hl
  obtain rfl : oc = .type "tuple" := hc
  obtain rfl : dt = .seq items n := hd
  have at1 : (s.heap.push { cls := .type "set", dict := none, data := .set #[] 0 (.fresh 0 0 led) }).get? l = some { cls := .type "tuple", dict := od, data := .seq items n, slots := osl } := Heap.get?_push_of_some _ at0
  have s1 := PySem.F.sub_tuple_set
  have s2 := PySem.F.sub_tuple_frozenset
  have nd1 : (Value.type "tuple" == Value.type "dict") = false := by decide
  have tup : (s.heap.push { cls := .type "set", dict := none, data := .set #[] 0 (.fresh 0 0 led) }).IsTuple l items := ⟨_, at1, rfl, n, rfl⟩
  unfold Builtin.«set.__init__» noKeywords Builtin.Frozenset.updateFrom
  generalize hPI : pyIter = PI
  wp_walk
  subst hPI
  refine wpAny_pyIter_tuple tup ?_
  refine wpAny_bind (wpAny_runValue ?_)
  have ll : l < s.heap.objs.size := Heap.lt_size at0
  have hh3 : A.in1.in1.in1.handled = none := by simp [hh]
  have up : (s.heap.push { cls := .type "set", dict := none, data := .set #[] 0 (.fresh 0 0 led) }).objs.size = s.heap.objs.size + 1 := Heap.size_push ..
  have ne : l ≠ (s.heap.push { cls := .type "set", dict := none, data := .set #[] 0 (.fresh 0 0 led) }).objs.size := by
    rw [up]
    exact Nat.ne_of_lt (Nat.lt_succ_of_lt ll)
  have off : s.heap.objs.size ∉ [(s.heap.push { cls := .type "set", dict := none, data := .set #[] 0 (.fresh 0 0 led) }).objs.size, l] := fun q => by
    rcases List.mem_cons.mp q with q | q
    · rw [up] at q
      exact Nat.ne_of_lt (Nat.lt_succ_self _) q
    · exact Nat.ne_of_gt ll (List.mem_singleton.mp q)
  refine fill_loop (knd := knd) ((Walks.tuple hh3 _ l ne items).toS) s.heap.objs.size off ks len few nd val items.size 0 _ (Nat.zero_add _) ⟨⟨_, Heap.get?_push_size _ rfl, rfl, rfl⟩, tup.push _⟩ ?_ fun s' mv hS' => ?_
  · exact SetOf_congr ((PyProof.Rows.setObjOf_fresh (knd := knd) led).setOf (Heap.get?_push_of_some _ hS) (by unfold scanBound; omega)) (fun j => (decide_eq_false (by rw [List.take_zero]; exact List.not_mem_nil)).symm) rfl
  · obtain ⟨h', g', d', tk', os'⟩ := s'
    obtain rfl : g' = s.gens := mv.gens
    obtain rfl : d' = s.drawn := mv.drawn
    obtain rfl : os' = s.os := mv.os
    show wpAny _ _ _ _ _ _
    refine wpAny_pure ?_
    show wpAny _ _ (ret Value.none) _ _ _
    refine wpAny_pure ⟨rfl, h h' tk' hS' fun b o hb e => ?_⟩
    refine mv.heap b o (fun q => ?_) (Heap.get?_push_of_some _ (Heap.get?_push_of_some _ e))
    rcases List.mem_cons.mp q with q | q
    · exact Nat.ne_of_lt hb q
    · have z := List.mem_singleton.mp q
      rw [up] at z
      exact Nat.ne_of_lt (Nat.lt_succ_of_lt hb) z
end
theorem entry_setEq : entryFor table "set.__eq__" = some Builtin.«frozenset.__eq__» :=
  entryFor_alias (id' := "frozenset.__eq__") (by kernel_rfl) rfl (by decide +kernel) (by kernel_rfl)
section
variable {prog : Program} {w : World} {K : Type} [DecidableEq K] [BEq K] [LawfulBEq K] {knd : KeyKind prog w K} {A : Around} {E : Value → Shared → Prop} {s : Shared}
theorem quiet_of {M : Model} {x : Value} {Q : Bool → Shared → Prop} (h : x.scannable = true) (k : Q true s) : wpAny M A (Builtin.Frozenset.quietEq x) Q E s := by
  cases x <;> first | exact wpAny_pure k | exact Bool.noConfusion h
/-- is one set part of the other -/
theorem sub_sets {nm : String} {a b : Addr} {S T : K → Bool} {n m : Nat} {r : Bool} {Q : Bool → Shared → Prop} (ha : s.heap.SetOf knd a S n) (hb : s.heap.SetOf knd b T m) (le : n ≤ m) (hr : r = true ↔ ∀ k, S k = true → T k = true) (h : Q r s) :
    wpAny (model prog w) A (Builtin.Frozenset.subsetOf nm a b) Q E s := by
  obtain ⟨oa, es, ep, ta, hoa, hxa, hda, hka, hma, hba, hfa, rfl⟩ := id ha
  obtain ⟨ob, es', ep', tb, hob, hxb, hdb, hkb, hmb, hbb, hfb, rfl⟩ := id hb
  unfold Builtin.Frozenset.subsetOf Builtin.Frozenset.sizeOf
  refine wpAny_bind (wpAny_bind (wpAny_setEntries_of hoa hda hfa (wpAny_pure ?_)))
  refine wpAny_bind (wpAny_bind (wpAny_setEntries_of hob hdb hfb (wpAny_pure ?_)))
  rw [if_neg (Nat.not_lt.mpr le)]
  refine wpAny_bind (wpAny_setEpoch_of hoa hda hfa ?_)
  refine wpAny_bind ?_
  unfold Builtin.Frozenset.walkUnseen
  refine wpAny_bind (wpAny_setEntries_of hoa hda hfa ?_)
  refine wpAny_bind (wpAny_setEntries_of hob hdb hfb ?_)
  refine wpAny_bind (wpAny_forIn_list _ (fun rest q s' => s' = s ∧ q = (none, ()) ∧ ∀ e ∈ rest, e.2.scannable = true) _ ?_ ?_ _ _ ⟨rfl, rfl, fun e he => (List.mem_append.mp he).elim (fun z => (hka e z).2) fun z => (hkb e z).2⟩)
  · rintro ⟨hx, x⟩ rest q s1 ⟨rfl, rfl, sc⟩
    refine wpAny_bind (quiet_of (sc _ List.mem_cons_self) ?_)
    rw [if_neg (by decide)]
    exact wpAny_pure ⟨rfl, rfl, fun e he => sc e (List.mem_cons_of_mem _ he)⟩
  · rintro q s1 ⟨rfl, rfl, _⟩
    refine wpAny_pure ?_
    refine wpAny_bind (wpAny_forIn_list _ (fun rest q s' => s' = s1 ∧ q = (none, ()) ∧ (∀ e ∈ rest, e ∈ es.toList) ∧ ((∀ e ∈ rest, ∀ k, knd.is k e.2 = true → T k = true) → r = true)) _ ?_ ?_ _ _ ⟨rfl, rfl, fun e he => he, fun z => hr.2 fun k hk => ?_⟩)
    · rintro ⟨hx, x⟩ rest q s2 ⟨rfl, rfl, sub, up⟩
      obtain ⟨⟨k, isk, rfl⟩, sc⟩ := hka _ (sub _ List.mem_cons_self)
      refine wpAny_bind (wpAny_holding (wpAny_setFind_of isk sc hb fun i hi => ?_))
      have inS : S k = true := (hma k).2 ⟨_, sub _ List.mem_cons_self, isk⟩
      cases hT : T k with
      | true =>
        rw [hT] at hi
        obtain ⟨j, rfl⟩ := Option.isSome_iff_exists.mp hi
        rw [if_neg (by simp)]
        unfold Builtin.Frozenset.unchanged
        refine wpAny_bind (wpAny_bind (wpAny_setEpoch_of hoa hda hfa ?_))
        rw [if_neg (by simp)]
        refine wpAny_pure (wpAny_pure ⟨rfl, rfl, fun e he => sub e (List.mem_cons_of_mem _ he), fun z => up fun e he => ?_⟩)
        rcases List.mem_cons.mp he with rfl | he
        · intro k' hk'
          obtain rfl := knd.inj _ _ _ hk' isk
          exact hT
        · exact z e he
      | false =>
        rw [hT] at hi
        obtain rfl : i = none := by simpa using hi
        rw [if_pos (show (none : Option Nat).isNone = true from rfl)]
        have rf : r = false := by
          cases r with
          | false => rfl
          | true => exact absurd (hr.1 rfl k inS) (by rw [hT]; decide)
        rw [rf] at h
        exact wpAny_pure (wpAny_pure h)
    · rintro q s2 ⟨rfl, rfl, _, up⟩
      have rt : r = true := up fun e he => nomatch he
      rw [rt] at h
      exact wpAny_pure h
    · obtain ⟨e, he, q⟩ := (hma k).1 hk
      exact z e he k q
end
end EV
/-! set == set. -/
namespace EV
open PySem PySem.Spec PyProof.Rows L2
section
variable {prog : Program} {w : World} {K : Type} [DecidableEq K] [BEq K] [LawfulBEq K] {knd : KeyKind prog w K} {A : Around} {E : Value → Shared → Prop} {s : Shared}
/-- set == set -/
theorem eq_sets {a b : Addr} {S T : K → Bool} {n m : Nat} {r : Bool} {Q : Value → Shared → Prop} (hu : A.units < cLine) (ha : s.heap.SetOf knd a S n) (hb : s.heap.SetOf knd b T m) (hr : r = true ↔ n = m ∧ ∀ k, S k = true → T k = true) (h : Q (.bool r) s) :
    wpAny (model prog w) A (richCompare .Eq (.ref a) (.ref b)) Q E s := by
  refine wpAny_richCompare_same_room (op := .Eq) ha.typeIs hb.typeIs PySem.F.slot_set_eq (wpAny_call_entry PySem.F.slot_set_eq ha.typeIs entry_setEq ?_ (PySem.F.args_set_eq_2 _ _)) hu
  unfold Builtin.«frozenset.__eq__»
  wp_delta
  refine wpAny_bind ?_
  unfold Builtin.Frozenset.slot1 slotArgs
  simp only [List.isEmpty_nil, Bool.not_true, Bool.false_eq_true, ↓reduceIte, bind_assoc, List.length_cons, List.length_nil, bne_self_eq_false]
  refine wpAny_bind (wpAny_pure ?_)
  try dsimp only
  refine wpAny_pure ?_
  try dsimp only
  unfold Builtin.Frozenset.isAnySet
  refine wpAny_bind ?_
  unfold orM
  refine wpAny_bind (wpAny_isInstance (b := true) hb.typeIs PySem.F.sub_set_set ?_)
  refine wpAny_pure ?_
  rw [if_neg (by decide)]
  unfold Builtin.Frozenset.addrOf Builtin.Frozenset.sizeOf
  refine wpAny_bind (wpAny_pure ?_)
  refine wpAny_bind (wpAny_pure ?_)
  obtain ⟨oa, es, ep, ta, hoa, hxa, hda, hka, hma, hba, hfa, rfl⟩ := id ha
  obtain ⟨ob, es', ep', tb, hob, hxb, hdb, hkb, hmb, hbb, hfb, rfl⟩ := id hb
  refine wpAny_bind (wpAny_bind (wpAny_setEntries_of hoa hda hfa (wpAny_pure ?_)))
  refine wpAny_bind (wpAny_bind (wpAny_setEntries_of hob hdb hfb (wpAny_pure ?_)))
  refine wpAny_bind ?_
  by_cases e : es.size = es'.size
  · rw [if_neg (by rw [e]; simp)]
    refine wpAny_bind ?_
    unfold andM
    refine wpAny_bind (wpAny_isInstance (b := false) ha.typeIs PySem.F.sub_set_frozenset ?_)
    refine wpAny_pure ?_
    rw [if_neg (by decide)]
    refine sub_sets (r := r) ha hb (Nat.le_of_eq e) (hr.trans ⟨fun z => z.2, fun z => ⟨e, z⟩⟩) ?_
    exact wpAny_pure ⟨_, rfl, (fun z => nomatch z), h⟩
  · rw [if_pos (by simpa using e)]
    have rf : r = false := by
      cases r with
      | false => rfl
      | true => exact absurd (hr.1 rfl).1 e
    rw [rf] at h
    exact wpAny_pure (wpAny_pure ⟨_, rfl, (fun z => nomatch z), h⟩)
end
end EV
/-! set(t) of a tuple of distinct texts, == of such sets, as rules. -/
namespace EV
open PySem PySem.Spec PyProof.Rows L2
/-- the set of these texts, distinct -/
def SetX (P : Program) (w : World) (a : Addr) (xs : List Str) : HO := .ext fun h => h.SetOf (PySem.strKind P w) a (fun j => decide (j ∈ xs)) xs.length
theorem setX_new {P : Program} {w : World} {H : Hp} {h : Heap} {a : Addr} {xs : List Str} (R : h.SetOf (PySem.strKind P w) a (fun j => decide (j ∈ xs)) xs.length) : ObjOk P w H h a (SetX P w a xs) := by
  have ⟨o, _, _, _, ho, _⟩ := R
  exact ⟨R, ⟨o, ho⟩, fun h1 h2 p k => by
    obtain ⟨o, es, ep, t, ho, r⟩ := p
    exact ⟨o, es, ep, t, k o ho, r⟩⟩
theorem txt_at : ∀ {xs : List Str} {us : List Value}, Vals (xs.map V.str) us → ∀ (i : Nat) (v : Value), us[i]? = some v → ∃ k t, xs[i]? = some k ∧ v = .str k t
  | [], _, .nil, i, v, h => by simp at h
  | x :: xs, _, .cons ⟨t, e⟩ r, 0, v, h => ⟨x, t, rfl, (Option.some.inj h).symm.trans e⟩
  | x :: xs, _, .cons _ r, i + 1, v, h => txt_at r i v h
section
variable {X : Cx}
def rSetX (K : PySem.W.Frag) (P : Program) (w : World) : List V → Hp → VK → Prop := fun vs H Q => ∃ (l : Addr) (xs : List Str), vs = [V.ref l] ∧ SqT K H l (xs.map V.str) ∧ xs.Nodup ∧ xs.length < 4000 ∧ ∀ a, H a = none → Q (.ref a) (upd H a (SetX P w a xs))
theorem cr_setX (hc : X.calm = true) : CallR X (.type "set") (rSetX X.K X.prog X.w) := by
  intro pins s σ H vs us Q I r h
  obtain ⟨l, xs, rfl, hl, nd, few, q⟩ := h
  rw [Vals.ref1 r]
  obtain ⟨its, rv, p, hz⟩ := I.tuple hl
  have hp : s.heap.IsTuple l its.toArray := p
  have len : xs.length = its.length := by
    have z := rv.length
    rwa [List.length_map] at z
  refine call_setOf (knd := PySem.strKind X.prog X.w) (ks := xs) (I.ok.hd hc) hp (by simpa using len) (by simp; omega) nd (fun i v hv => ?_) fun h' tk R k => ?_
  · obtain ⟨k, t, h1, rfl⟩ := txt_at rv i v (by simpa using hv)
    exact ⟨k, h1, strKind_is _ _ _ _, rfl⟩
  · have R2 : h'.SetOf (PySem.strKind X.prog X.w) s.heap.objs.size (fun j => decide (j ∈ xs)) xs.length := by
      have e : its.toArray.size = xs.length := by simpa using len.symm
      rw [← e]
      exact R
    exact ⟨.ref s.heap.objs.size, upd H s.heap.objs.size (SetX X.prog X.w s.heap.objs.size xs), I.laid (t' := tk) (fun b u e => k b u (Heap.lt_size e) e) (Nat.le_refl _) (setX_new R2), rfl, q _ (I.hok.fresh (Nat.le_refl _))⟩
/-- do two lists of distinct texts have the same members -/
def sameMem (xs ys : List Str) : Bool := xs.length == ys.length && xs.all fun x => decide (x ∈ ys)
theorem sameMem_iff {xs ys : List Str} : sameMem xs ys = true ↔ xs.length = ys.length ∧ ∀ x ∈ xs, x ∈ ys := by
  unfold sameMem
  rw [Bool.and_eq_true, beq_iff_eq, List.all_eq_true]
  exact ⟨fun h => ⟨h.1, fun x hx => of_decide_eq_true (h.2 x hx)⟩, fun h => ⟨h.1, fun x hx => decide_eq_true (h.2 x hx)⟩⟩
def rEqX (P : Program) (w : World) : V → V → Hp → VK → Prop := fun x y H Q => ∃ (a b : Addr) (xs ys : List Str), x = .ref a ∧ y = .ref b ∧ H a = some (SetX P w a xs) ∧ H b = some (SetX P w b ys) ∧ Q (.bl (sameMem xs ys)) H
theorem op_eqX (hu : X.A.units < cLine) : OpR X (compareOp .Eq) (rEqX X.prog X.w) := by
  intro pins s σ H x y v u Q I rx ry h
  obtain ⟨a, b, xs, ys, rfl, rfl, ha, hb, q⟩ := h
  obtain rfl : v = Value.ref a := rx
  obtain rfl : u = Value.ref b := ry
  have ra : s.heap.SetOf (PySem.strKind X.prog X.w) a (fun j => decide (j ∈ xs)) xs.length := (I.hok a _ ha).1
  have rb : s.heap.SetOf (PySem.strKind X.prog X.w) b (fun j => decide (j ∈ ys)) ys.length := (I.hok b _ hb).1
  show wpAny (model X.prog X.w) X.A (richCompare .Eq (.ref a) (.ref b)) (EP X pins σ Q) X.xe s
  refine eq_sets (r := sameMem xs ys) hu ra rb (sameMem_iff.trans ?_) ⟨.bl (sameMem xs ys), H, I, rfl, q⟩
  refine ⟨fun h => ⟨h.1, fun k hk => decide_eq_true (h.2 k (of_decide_eq_true hk))⟩, fun h => ⟨h.1, fun x hx => of_decide_eq_true (h.2 x (decide_eq_true hx))⟩⟩
end
end EV
/-! len, in, == and != of instances with methods of their own for them: any answer. -/
namespace EV
open PySem PySem.Spec PyProof.Rows L2
section
variable {X : Cx} {CX : CXT} {n : Nat} {C f : Addr} {fd : FuncData} {ps : List Str} {sp : Sp} {E : XK}
/-- an own function, called by the machine with values that stand for these -/
theorem own_call {A : Around} {pins : List (Addr × Obj)} {σ : L2.St} {H : Hp} {s : Shared} {vs : List V} {us : List Value} {Q : VK} (sb : L2.Sub X n A) (I : Inv X pins σ H s) (F : FnOk X.prog X.w X.K X.mg X.base CX n f fd ps sp) (hb : L2.Binds X.K fd ps []) (hx : Passes CX X E) (r : Vals vs us) (hsp : sp vs H Q E) :
    wpAny (model X.prog X.w) A (call (.ref f) us) (fun v s' => ∃ z H', Inv X pins σ H' s' ∧ RelV z v ∧ Q z H') X.xe s := by
  have e0 : Env0 X.prog X.w X.K X.mg X.base A X.stack s H := by
    have e := I.env0
    exact ⟨by rw [sb.fr]; exact e.frames, e.mod, e.bs, e.bsz, e.funs, e.frf, e.hok, e.bare⟩
  have hl := F.len _ _ _ _ hsp
  have hl2 : us.length = ps.length := r.length.symm.trans hl
  refine wpAny_call (codeAny_mono (F.run A X.stack s H ⟨us, []⟩ us vs _ E sb.room e0 (by
    have z := hb s us I.kIn (by simpa using hl2)
    simpa using z) r hsp) fun r s' hq => ?_)
  cases r with
  | error e => exact hx pins σ H s e s' I hq
  | ok fl =>
    cases fl with
    | ret w =>
      obtain ⟨z, H', I', rz, q⟩ := I.after hq
      exact ⟨z, H', I', rz, q⟩
    | next => exact False.elim hq
    | brk => exact False.elim hq
    | cont => exact False.elim hq
/-- what an own method for a question asks: it answers with a truth value -/
def rOwn (C : Addr) (sp : Sp) (E : XK) (x y : V) (H : Hp) (Q : Bool → Hp → Prop) : Prop := ∃ a dx fs, x = .ref a ∧ H a = some (.ins C dx fs) ∧ sp [.ref a, y] H (fun v H' => ∃ b, v = .bl b ∧ Q b H') E
theorem op_inOwn (F : FnOk X.prog X.w X.K X.mg X.base CX n f fd ps sp) (hs : PySem.W.findIn X.K (.ref C) "__contains__" = some (some (.ref f))) (hf : PySem.W.isFn X.K (.ref f) = true) (hb : L2.Binds X.K fd ps []) (hx : Passes CX X E) (hr : Room n X.A) :
    OpR X (compareOp .In) fun x y H Q => rOwn C sp E y x H fun b H' => Q (.bl b) H' := by
  intro pins s σ H x y v u Q I rx ry h
  obtain ⟨a, dx, fs, rfl, ha, hsp⟩ := h
  obtain rfl : u = Value.ref a := ry
  obtain ⟨mA, J, _⟩ := ins_get I.hok ha
  obtain ⟨od, J, _⟩ := J.look
  obtain ⟨m, hF⟩ := I.fr
  refine PySem.W.in_K hF I.ok.mod.kin J hs hf (wpAny_mono (own_call (Q := fun v H' => ∃ b, v = .bl b ∧ Q (.bl b) H') ⟨hr, rfl⟩ I F hb hx (.cons (show RelV (.ref a) (.ref a) from rfl) (.cons rx .nil)) hsp) (fun w s' z => ?_) fun _ _ e => e)
  obtain ⟨z, H', I', rz, b, rfl, q⟩ := z
  obtain rfl : w = Value.bool b := rz
  exact wpAny_truthy_bool ⟨.bl b, H', I', rfl, q⟩
theorem call_lenOwn (F : FnOk X.prog X.w X.K X.mg X.base CX n f fd ps sp) (hs : PySem.W.findIn X.K (.ref C) "__len__" = some (some (.ref f))) (hf : PySem.W.isFn X.K (.ref f) = true) (hb : L2.Binds X.K fd ps []) (hx : Passes CX X E) (hr : Room (n + 1) X.A) :
    CallR X (.builtin "len") fun vs H Q => ∃ a dx fs, vs = [.ref a] ∧ H a = some (.ins C dx fs) ∧ sp [.ref a] H (fun v H' => ∃ k : Nat, v = .int (k : Int) ∧ k < 1000000 ∧ Q (.int (k : Int)) H') E := by
  intro pins s σ H xs us Q I r h
  obtain ⟨a, dx, fs, rfl, ha, hsp⟩ := h
  obtain ⟨u, rfl, ru⟩ := vals1 r
  obtain rfl : u = Value.ref a := ru
  obtain ⟨mA, J, _⟩ := ins_get I.hok ha
  obtain ⟨od, J, _⟩ := J.look
  obtain ⟨m, hF⟩ := I.fr
  have sb : L2.Sub X (n + 1) X.A := ⟨hr, rfl⟩
  refine PySem.W.len_K hF I.ok.mod.kin J hs hf (wpAny_mono (own_call (Q := fun v H' => ∃ k : Nat, v = .int (k : Int) ∧ k < 1000000 ∧ Q (.int (k : Int)) H') sb.in1 I F hb hx (.cons (show RelV (.ref a) (.ref a) from rfl) .nil) hsp) (fun w s' z => ?_) fun _ _ e => e)
  obtain ⟨z, H', I', rz, k, rfl, lt, q⟩ := z
  obtain ⟨t, rfl⟩ := rz
  exact ⟨⟨by omega, by omega⟩, .int (k : Int), H', I'.tok _, ⟨_, rfl⟩, q⟩
/-- ==, the left one an instance whose class has a method of its own for it; the other one of a class that does not come first -/
theorem op_eqOwn (F : FnOk X.prog X.w X.K X.mg X.base CX n f fd ps sp) (hs : PySem.W.findIn X.K (.ref C) "__eq__" = some (some (.ref f))) (hf : PySem.W.isFn X.K (.ref f) = true) (hb : L2.Binds X.K fd ps []) (hx : Passes CX X E) (hr : Room n X.A) :
    OpR X (compareOp .Eq) fun x y H Q => ∃ t, TyX X.K H y t ∧ PySem.W.notFirst X.K C t = true ∧ rOwn C sp E x y H fun b H' => Q (.bl b) H' := by
  intro pins s σ H x y v u Q I rx ry h
  obtain ⟨t, ty, nf, a, dx, fs, rfl, ha, hsp⟩ := h
  obtain rfl : v = Value.ref a := rx
  obtain ⟨mA, J, _⟩ := ins_get I.hok ha
  obtain ⟨od, J, _⟩ := J.look
  obtain ⟨m, hF⟩ := I.fr
  obtain ⟨P, Z, hP, _⟩ := kit_of I ry ty
  show wpAny (model X.prog X.w) X.A (richCompare .Eq (.ref a) u) (EP X pins σ Q) X.xe s
  refine PySem.W.cmp_K (op := .Eq) (tb := t) hr.units0 hF I.ok.mod.kin J (Z.ty _ _ I.kIn hP) nf hs hf (wpAny_mono (own_call (Q := fun v H' => ∃ b, v = .bl b ∧ Q (.bl b) H') ⟨hr, rfl⟩ I F hb hx (.cons (show RelV (.ref a) (.ref a) from rfl) (.cons ry .nil)) hsp) (fun w s' z => ?_) fun _ _ e => e)
  obtain ⟨z, H', I', rz, b, rfl, q⟩ := z
  obtain rfl : w = Value.bool b := rz
  exact ⟨.bl b, H', I', rfl, q⟩
end
end EV
/-! != of instances by object.__ne__ and an own __eq__; of things of built-in types and an instance. -/
namespace EV
open PySem PySem.Spec PyProof.Rows L2
open AutoSeq1 (wpAny_loadPart')
section
variable {M : Model} {prog : Program} {w : World} {A : Around} {E : Value → Shared → Prop} {s : Shared} {K : PySem.W.Frag} {x C dx : Addr} {od : Option Obj}
theorem not_inst {T : String} {Q : Bool → Shared → Prop} (X : K.In s.heap) (at0 : s.heap.get? x = some (PySem.W.instObj C dx)) (e : PySem.W.subIn K (.ref C) (.type T) = some false) (h : Q false s) : wpAny M A (isInstance (.ref x) (.type T)) Q E s := by
  unfold isInstance
  exact wpAny_bind (wpAny_typeOf_ref at0 ((PySem.W.looks_subIn X e).here h))
theorem no_str {Q : Option Str → Shared → Prop} (at0 : s.heap.get? x = some (PySem.W.instObj C dx)) (h : Q none s) : wpAny M A (asStr? (.ref x)) Q E s := by
  unfold asStr?
  exact wpAny_bind (wpAny_load at0 (wpAny_pure h))
theorem no_int {Q : Option Int → Shared → Prop} (at0 : s.heap.get? x = some (PySem.W.instObj C dx)) (h : Q none s) : wpAny M A (asInt? (.ref x)) Q E s := by
  unfold asInt?
  exact wpAny_bind (wpAny_load at0 (wpAny_pure h))
theorem ne_none {Q : Value → Shared → Prop} (h : Q .notImplemented s) : wpAny (model prog w) A (call (.builtin "NoneType.__ne__") [.none, .ref x]) Q E s :=
  call_gives F.slot_NoneType_ne rfl F.entry_NoneType_ne (F.args_NoneType_ne_2 _ _) (PySem.SeqAt.NoneType___ne___none_ref_0 x) h
theorem ne_int {i : Int} {t : Tok} {Q : Value → Shared → Prop} (at0 : s.heap.get? x = some (PySem.W.instObj C dx)) (h : Q .notImplemented s) : wpAny (model prog w) A (call (.builtin "int.__ne__") [.int i t, .ref x]) Q E s := by
  refine wpAny_call_entry F.slot_int_ne (show s.TypeIs (.int i t) "int" from typeIs_int s i t) F.entry_int_ne ?_ (F.args_int_ne_2 _ _)
  obtain ⟨hp, g, d, tk, os⟩ := s
  wp_walk using wpAny_load at0
  exact ⟨_, rfl, h⟩
theorem ne_str {y : Str} {t : Tok} {Q : Value → Shared → Prop} (at0 : s.heap.get? x = some (PySem.W.instObj C dx)) (h : Q .notImplemented s) : wpAny (model prog w) A (call (.builtin "str.__ne__") [.str y t, .ref x]) Q E s := by
  refine wpAny_call_entry F.slot_str_ne (show s.TypeIs (.str y t) "str" from typeIs_str s y t) F.entry_str_ne ?_ (F.args_str_ne_2 _ _)
  obtain ⟨hp, g, d, tk, os⟩ := s
  wp_walk using wpAny_load at0
  exact ⟨_, rfl, h⟩
theorem ne_list {l : Addr} {Q : Value → Shared → Prop} (X : K.In s.heap) (at0 : s.heap.get? x = some (PySem.W.instObj C dx)) (e : PySem.W.subIn K (.ref C) (.type "list") = some false) (hl : s.TypeIs (.ref l) "list") (h : Q .notImplemented s) :
    wpAny (model prog w) A (call (.builtin "list.__ne__") [.ref l, .ref x]) Q E s := by
  refine wpAny_call_entry F.slot_list_ne hl F.entry_list_ne ?_ (F.args_list_ne_2 _ _)
  wp_walk using not_inst X at0 e
  exact ⟨_, rfl, h⟩
theorem ne_tuple {l : Addr} {Q : Value → Shared → Prop} (X : K.In s.heap) (at0 : s.heap.get? x = some (PySem.W.instObj C dx)) (e : PySem.W.subIn K (.ref C) (.type "tuple") = some false) (hl : s.TypeIs (.ref l) "tuple") (h : Q .notImplemented s) :
    wpAny (model prog w) A (call (.builtin "tuple.__ne__") [.ref l, .ref x]) Q E s := by
  refine wpAny_call_entry F.slot_tuple_ne hl F.entry_tuple_ne ?_ (F.args_tuple_ne_2 _ _)
  wp_walk using not_inst X at0 e
  exact ⟨_, rfl, h⟩
theorem ne_dict {l : Addr} {Q : Value → Shared → Prop} (X : K.In s.heap) (at0 : s.heap.get? x = some (PySem.W.instObj C dx)) (e : PySem.W.subIn K (.ref C) (.type "dict") = some false) (hl : s.TypeIs (.ref l) "dict") (h : Q .notImplemented s) :
    wpAny (model prog w) A (call (.builtin "dict.__ne__") [.ref l, .ref x]) Q E s := by
  refine wpAny_call_entry F.slot_dict_ne hl F.entry_dict_ne ?_ (F.args_dict_ne_2 _ _)
  show wpAny _ _ (Builtin.Dict.dictSlotArgs "__ne__" ⟨[.ref l, .ref x], []⟩ >>= _) _ _ s
  refine wpAny_bind ?_
  unfold Builtin.Dict.dictSlotArgs
  refine wpAny_bind (wpAny_notOrdered_dict hl ?_)
  show wpAny _ _ (pure (Value.ref l, Value.ref x)) _ _ s
  refine wpAny_pure ?_
  refine wpAny_bind (not_inst X at0 e ?_)
  rw [if_pos (by decide)]
  exact wpAny_bind (wpAny_rule (wpAny_pure ⟨_, rfl, h⟩))
/-- object.__ne__ of an instance asks its own __eq__ -/
theorem call_objNe {f : Addr} {b : Value} {ox : Obj} {Q : Value → Shared → Prop} (hu : A.units + 1 < cLine) (X : K.In s.heap) (I : PySem.W.InstAt s.heap x ox C od) (hm : PySem.W.mroIn K C (.type "object") = some true) (hs : PySem.W.findIn K (.ref C) "__eq__" = some (some (.ref f))) (hf : PySem.W.isFn K (.ref f) = true)
    (h : wpAny (model prog w) A.in1 (call (.ref f) [.ref x, b]) (fun v s' => ∃ r, v = .bool r ∧ Q (.bool (!r)) s') E s) : wpAny (model prog w) A (call (.builtin "object.__ne__") [.ref x, b]) Q E s := by
  refine wpAny_call (codeAny_call_builtin F.cmp_object.ne.plain F.cmpEntry_ne (PySem.W.check_slot F.cmpKind_ne F.cmpSplit_ne (I.type.andThen (PySem.W.looks_mroIn X hm)) (F.cmpArgs_ne _ _) ?_))
  unfold Builtin.«object.__ne__»
  refine wpAny_bind (m := slotArgs "__ne__" 1 ⟨[.ref x, b], []⟩) (wpAny_pure ?_)
  dsimp only
  refine wpAny_bind (wpAny_cRoomFor hu ?_)
  refine wpAny_bind (PySem.W.ifBound_K X I hs hf (wpAny_mono h (fun v s' hv => ?_) fun _ _ e => e))
  obtain ⟨r, rfl, q⟩ := hv
  show wpAny _ _ (truthy (Value.bool r) >>= _) _ _ _
  refine wpAny_bind (wpAny_truthy_bool ?_)
  exact wpAny_pure q
theorem bound_ne {args : List Value} {ox : Obj} {Q : Option Value → Shared → Prop} (X : K.In s.heap) (I : PySem.W.InstAt s.heap x ox C od) (hs : PySem.W.findIn K (.ref C) "__ne__" = some (some (.builtin "object.__ne__")))
    (h : wpAny M A (call (.builtin "object.__ne__") (.ref x :: args)) (fun v => Q (some v)) E s) : wpAny M A (callSpecialIfBound? (.ref x) "__ne__" args) Q E s := by
  simp only [callSpecialIfBound?, bindSpecialIfBound?]
  refine wpAny_holding (wpAny_bind (wpAny_bind (wpAny_bind (I.type.here ((PySem.W.looks_findIn X hs).here ?_)))))
  have last : wpAny M A (call (.builtin "object.__ne__") ([.ref x] ++ args) >>= fun v => pure (some v)) Q E s := wpAny_bind (wpAny_mono h (fun v s' q => wpAny_pure q) fun _ _ q => q)
  refine wpAny_bind (wpAny_askSetting (wpAny_ite ?_))
  split
  · exact wpAny_bind (wpAny_of_eq (F.cmp_object.ne.bind _) (wpAny_pure (by exact last)))
  · exact wpAny_tryCatch (wpAny_bind (wpAny_of_eq (F.cmp_object.ne.bind _) (wpAny_pure (by exact last))))
/-- x.__ne__(b), x an instance -/
theorem try_ne {f : Addr} {b : Value} {ox : Obj} {Q : Value → Shared → Prop} (hu : A.units + 1 < cLine) (X : K.In s.heap) (I : PySem.W.InstAt s.heap x ox C od) (hm : PySem.W.mroIn K C (.type "object") = some true) (hs : PySem.W.findIn K (.ref C) "__eq__" = some (some (.ref f))) (hf : PySem.W.isFn K (.ref f) = true) (hn : PySem.W.findIn K (.ref C) "__ne__" = some (some (.builtin "object.__ne__")))
    (h : wpAny (model prog w) A.in1 (call (.ref f) [.ref x, b]) (fun v s' => ∃ r, v = .bool r ∧ Q (.bool (!r)) s') E s) : wpAny (model prog w) A (tryCompare (.ref x) "__ne__" b) (fun r s' => ∃ v, r = some v ∧ Q v s') E s := by
  unfold tryCompare
  refine wpAny_bind (bound_ne X I hn (call_objNe hu X I hm hs hf (wpAny_mono h (fun v s' hv => ?_) fun _ _ e => e)))
  obtain ⟨r, rfl, q⟩ := hv
  exact ⟨r, rfl, wpAny_pure ⟨_, rfl, q⟩⟩
/-- x != b, x an instance -/
theorem rc_neL {f : Addr} {b tb : Value} {ox : Obj} {Q : Value → Shared → Prop} (hu : A.units + 1 < cLine) (X : K.In s.heap) (I : PySem.W.InstAt s.heap x ox C od) (hb : PySem.W.Looks (model prog w) s.heap (typeOf b) tb) (nf : PySem.W.notFirst K C tb = true) (hm : PySem.W.mroIn K C (.type "object") = some true) (hs : PySem.W.findIn K (.ref C) "__eq__" = some (some (.ref f))) (hf : PySem.W.isFn K (.ref f) = true) (hn : PySem.W.findIn K (.ref C) "__ne__" = some (some (.builtin "object.__ne__")))
    (h : wpAny (model prog w) A.in1 (call (.ref f) [.ref x, b]) (fun v s' => ∃ r, v = .bool r ∧ Q (.bool (!r)) s') E s) : wpAny (model prog w) A (richCompare .NotEq (.ref x) b) Q E s := by
  have one := try_ne hu X I hm hs hf hn h
  unfold richCompare
  simp only [oneThing_ref]
  refine wpAny_holding (wpAny_bind (wpAny_cRoomFor (Nat.lt_of_succ_lt hu) ?_))
  rw [cmpInfo_NotEq]
  dsimp only
  refine wpAny_bind (I.type.here (wpAny_bind (hb.here ?_)))
  split
  · rename_i q
    have e : PySem.W.subIn K tb (.ref C) = some false := by
      rcases Bool.or_eq_true_iff.mp nf with e | e
      · rw [beq_iff_eq.mp e] at q
        simp at q
      · exact beq_iff_eq.mp e
    refine wpAny_bind ((PySem.W.looks_subIn X e).here ?_)
    simp only [Bool.false_eq_true, if_false]
    refine wpAny_bind (wpAny_mono one (fun r s' z => ?_) fun _ _ e => e)
    obtain ⟨v, rfl, hq⟩ := z
    exact wpAny_pure hq
  · refine wpAny_bind (wpAny_pure ?_)
    simp only [Bool.false_eq_true, if_false]
    refine wpAny_bind (wpAny_mono one (fun r s' z => ?_) fun _ _ e => e)
    obtain ⟨v, rfl, hq⟩ := z
    exact wpAny_pure hq
/-- a != x, a of a built-in type whose __ne__ declines -/
theorem rc_neR {f : Addr} {a : Value} {T id : String} {ox : Obj} {Q : Value → Shared → Prop} (hu : A.units + 1 < cLine) (X : K.In s.heap) (I : PySem.W.InstAt s.heap x ox C od) (ha : s.TypeIs a T) (one : oneThing? .NotEq a (.ref x) = none) (ns : PySem.W.subIn K (.ref C) (.type T) = some false) (sl : Slot T "__ne__" id) (dec : ∀ (Q : Value → Shared → Prop), Q .notImplemented s → wpAny (model prog w) A (call (.builtin id) [a, .ref x]) Q E s)
    (hm : PySem.W.mroIn K C (.type "object") = some true) (hs : PySem.W.findIn K (.ref C) "__eq__" = some (some (.ref f))) (hf : PySem.W.isFn K (.ref f) = true) (hn : PySem.W.findIn K (.ref C) "__ne__" = some (some (.builtin "object.__ne__")))
    (h : wpAny (model prog w) A.in1 (call (.ref f) [.ref x, a]) (fun v s' => ∃ r, v = .bool r ∧ Q (.bool (!r)) s') E s) : wpAny (model prog w) A (richCompare .NotEq a (.ref x)) Q E s := by
  have two := try_ne hu X I hm hs hf hn h
  unfold richCompare
  simp only [one]
  refine wpAny_holding (wpAny_bind (wpAny_cRoomFor (Nat.lt_of_succ_lt hu) ?_))
  rw [cmpInfo_NotEq]
  dsimp only
  refine wpAny_bind (wpAny_typeOf ha (wpAny_bind (I.type.here ?_)))
  have rest : wpAny (model prog w) A (do
      if let some v ← tryCompare a "__ne__" (.ref x) then return v
      if let some v ← tryCompare (.ref x) "__ne__" a then return v
      rule "compare.ne-identity"; return .bool (!(← isSame a (.ref x)))) Q E s := by
    refine wpAny_bind (wpAny_tryCompare_declines ha sl (dec _ ⟨rfl, ?_⟩))
    refine wpAny_bind (wpAny_mono two (fun r s' z => ?_) fun _ _ e => e)
    obtain ⟨v, rfl, hq⟩ := z
    exact wpAny_pure hq
  split
  · refine wpAny_bind ((PySem.W.looks_subIn X ns).here ?_)
    simp only [Bool.false_eq_true, if_false, Bool.not_false, if_true]
    exact rest
  · refine wpAny_bind (wpAny_pure ?_)
    simp only [Bool.false_eq_true, if_false, Bool.not_false, if_true]
    exact rest
end
end EV
/-! != of an instance with an own __eq__ and any other thing, as a rule. -/
namespace EV
open PySem PySem.Spec PyProof.Rows L2
def oddTypes : List String := ["NoneType", "int", "str", "list", "tuple", "dict"]
structure NeTxt (K : PySem.W.Frag) (C f : Addr) : Prop where
  eq : PySem.W.findIn K (.ref C) "__eq__" = some (some (.ref f))
  fn : PySem.W.isFn K (.ref f) = true
  ne : PySem.W.findIn K (.ref C) "__ne__" = some (some (.builtin "object.__ne__"))
  obj : PySem.W.mroIn K C (.type "object") = some true
  sub : ∀ T ∈ oddTypes, PySem.W.subIn K (.ref C) (.type T) = some false
/-- things of built-in types, as left ones -/
inductive OddL (K : PySem.W.Frag) (H : Hp) : V → Prop
  | non : OddL K H .non
  | int (i : Int) : OddL K H (.int i)
  | str (z : Str) : OddL K H (.str z)
  | lst {a : Addr} {xs : List V} (h : SqL K H a xs) : OddL K H (.ref a)
  | tup {a : Addr} {xs : List V} (h : SqT K H a xs) : OddL K H (.ref a)
  | dct {a : Addr} {kvs : List (Key × V)} (h : H a = some (.dK kvs)) : OddL K H (.ref a)
section
variable {X : Cx} {CX : CXT} {n : Nat} {C f : Addr} {fd : FuncData} {ps : List Str} {sp : Sp} {E : XK}
def rNeL (K : PySem.W.Frag) (C : Addr) (sp : Sp) (E : XK) (x y : V) (H : Hp) (Q : VK) : Prop := ∃ a dx fs t, x = .ref a ∧ H a = some (.ins C dx fs) ∧ TyX K H y t ∧ PySem.W.notFirst K C t = true ∧ sp [.ref a, y] H (fun v H' => ∃ b, v = .bl b ∧ Q (.bl !b) H') E
def rNeR (K : PySem.W.Frag) (C : Addr) (sp : Sp) (E : XK) (x y : V) (H : Hp) (Q : VK) : Prop := ∃ a dx fs, y = .ref a ∧ H a = some (.ins C dx fs) ∧ OddL K H x ∧ sp [.ref a, x] H (fun v H' => ∃ b, v = .bl b ∧ Q (.bl !b) H') E
theorem op_neOwn (F : FnOk X.prog X.w X.K X.mg X.base CX n f fd ps sp) (T : NeTxt X.K C f) (hb : L2.Binds X.K fd ps []) (hx : Passes CX X E) (hr : Room (n + 1) X.A) :
    OpR X (compareOp .NotEq) fun x y H Q => rNeL X.K C sp E x y H Q ∨ rNeR X.K C sp E x y H Q := by
  intro pins s σ H x y v u Q I rx ry h
  have sb : L2.Sub X (n + 1) X.A := ⟨hr, rfl⟩
  have hu : X.A.units + 1 < cLine := hu_of hr
  show wpAny (model X.prog X.w) X.A (richCompare .NotEq v u) (EP X pins σ Q) X.xe s
  rcases h with ⟨a, dx, fs, t, rfl, ha, ty, nf, hsp⟩ | ⟨a, dx, fs, rfl, ha, odd, hsp⟩
  · obtain rfl : v = Value.ref a := rx
    obtain ⟨mA, J, _⟩ := ins_get I.hok ha
    obtain ⟨od, J, _⟩ := J.look
    obtain ⟨P, Z, hP, _⟩ := kit_of I ry ty
    refine rc_neL hu I.kIn J (Z.ty _ _ I.kIn hP) nf T.obj T.eq T.fn T.ne (wpAny_mono (own_call (Q := fun v H' => ∃ b, v = .bl b ∧ Q (.bl !b) H') sb.in1 I F hb hx (.cons (show RelV (.ref a) (.ref a) from rfl) (.cons ry .nil)) hsp) (fun w s' z => ?_) fun _ _ e => e)
    obtain ⟨z, H', I', rz, b, rfl, q⟩ := z
    obtain rfl : w = Value.bool b := rz
    exact ⟨b, rfl, .bl !b, H', I', rfl, q⟩
  · obtain rfl : u = Value.ref a := ry
    obtain ⟨mA, J0, _⟩ := ins_get I.hok ha
    have at0 := J0.obj
    obtain ⟨od, J, _⟩ := J0.look
    have inner : ∀ {w : Value}, RelV x w → wpAny (model X.prog X.w) X.A.in1 (call (.ref f) [.ref a, w]) (fun v s' => ∃ r, v = .bool r ∧ EP X pins σ Q (.bool (!r)) s') X.xe s := fun rw' => by
      refine wpAny_mono (own_call (Q := fun v H' => ∃ b, v = .bl b ∧ Q (.bl !b) H') sb.in1 I F hb hx (.cons (show RelV (.ref a) (.ref a) from rfl) (.cons rw' .nil)) hsp) (fun w s' z => ?_) fun _ _ e => e
      obtain ⟨z, H', I', rz, b, rfl, q⟩ := z
      obtain rfl : w = Value.bool b := rz
      exact ⟨b, rfl, .bl !b, H', I', rfl, q⟩
    have sub : ∀ T' ∈ oddTypes, PySem.W.subIn X.K (.ref C) (.type T') = some false := T.sub
    cases odd with
    | non =>
      obtain rfl : v = Value.none := rx
      exact rc_neR hu I.kIn J rfl rfl (sub "NoneType" (by decide)) PySem.F.slot_NoneType_ne (fun Q q => ne_none q) T.obj T.eq T.fn T.ne (inner rfl)
    | int i =>
      obtain ⟨t, rfl⟩ := rx
      exact rc_neR hu I.kIn J (typeIs_int s i t) rfl (sub "int" (by decide)) PySem.F.slot_int_ne (fun Q q => ne_int at0 q) T.obj T.eq T.fn T.ne (inner ⟨t, rfl⟩)
    | str z =>
      obtain ⟨t, rfl⟩ := rx
      exact rc_neR hu I.kIn J (typeIs_str s z t) rfl (sub "str" (by decide)) PySem.F.slot_str_ne (fun Q q => ne_str at0 q) T.obj T.eq T.fn T.ne (inner ⟨t, rfl⟩)
    | @lst l xs hl =>
      obtain rfl : v = Value.ref l := rx
      obtain ⟨its, _, p, _⟩ := I.list hl
      have tl : s.TypeIs (.ref l) "list" := p.isList.elim fun o q => ⟨o, q.1, q.2.1⟩
      exact rc_neR hu I.kIn J tl rfl (sub "list" (by decide)) PySem.F.slot_list_ne (fun Q q => ne_list I.kIn at0 (sub "list" (by decide)) tl q) T.obj T.eq T.fn T.ne (inner rfl)
    | @tup l xs hl =>
      obtain rfl : v = Value.ref l := rx
      obtain ⟨its, _, p, _⟩ := I.tuple hl
      have hp : s.heap.IsTuple l its.toArray := p
      have tl : s.TypeIs (.ref l) "tuple" := hp.elim fun o q => ⟨o, q.1, q.2.1⟩
      exact rc_neR hu I.kIn J tl rfl (sub "tuple" (by decide)) PySem.F.slot_tuple_ne (fun Q q => ne_tuple I.kIn at0 (sub "tuple" (by decide)) tl q) T.obj T.eq T.fn T.ne (inner rfl)
    | @dct l kvs hl =>
      obtain rfl : v = Value.ref l := rx
      obtain ⟨_, hd, vs, rel, dd⟩ := dk_of I.hok hl
      have tl : s.TypeIs (.ref l) "dict" := dd.typeIs
      exact rc_neR hu I.kIn J tl rfl (sub "dict" (by decide)) PySem.F.slot_dict_ne (fun Q q => ne_dict I.kIn at0 (sub "dict" (by decide)) tl q) T.obj T.eq T.fn T.ne (inner rfl)
end
end EV
namespace K6
open PySem PySem.Spec PyProof.Rows L2 LamX NdefX EV
/-! ### rows as literals of distinct names -/
theorem lit_inj {p q : Bool × Str} (hp : Name1 p.2) (hq : Name1 q.2) (e : lit p = lit q) : p = q := by
  obtain ⟨a, m⟩ := p
  obtain ⟨b, n⟩ := q
  unfold lit at e
  cases a <;> cases b <;> simp at e
  · rw [e]
  · exact (name_neg hp e).elim
  · exact (name_neg hq e.symm).elim
  · rw [neg_inj e]
def pairs (ns : List Str) : List (Bool × Str) := ns.flatMap fun n => [(false, n), (true, n)]
theorem pairs_lit : ∀ ns : List Str, (pairs ns).map lit = lits ns
  | [] => rfl
  | n :: r => by
    show lit (false, n) :: lit (true, n) :: (pairs r).map lit = n :: neg n :: lits r
    rw [pairs_lit r]
    rfl
theorem pairs_mem {ns : List Str} {q : Bool × Str} : q ∈ pairs ns ↔ q.2 ∈ ns := by
  unfold pairs
  rw [List.mem_flatMap]
  constructor
  · rintro ⟨n, hn, h⟩
    rcases List.mem_cons.mp h with h | h
    · rw [h]; exact hn
    · rw [List.mem_singleton.mp h]; exact hn
  · intro h
    refine ⟨q.2, h, ?_⟩
    obtain ⟨b, n⟩ := q
    cases b <;> simp
theorem pairs_nodup : ∀ (ns : List Str) (p : Bool × Str → Bool), ns.Nodup → (∀ n ∈ ns, ¬ (p (false, n) = true ∧ p (true, n) = true)) → (((pairs ns).filter p).map Prod.snd).Nodup
  | [], _, _, _ => List.nodup_nil
  | n :: r, p, nd, one => by
    obtain ⟨n1, n2⟩ := List.nodup_cons.mp nd
    have ih := pairs_nodup r p n2 fun m hm => one m (List.mem_cons_of_mem _ hm)
    have fresh : n ∉ ((pairs r).filter p).map Prod.snd := fun q => by
      obtain ⟨z, hz, e⟩ := List.mem_map.mp q
      have z2 := pairs_mem.mp (List.mem_filter.mp hz).1
      rw [e] at z2
      exact n1 z2
    have o := one n List.mem_cons_self
    show ((((false, n) :: (true, n) :: pairs r).filter p).map Prod.snd).Nodup
    cases h1 : p (false, n) with
    | true =>
      have h2 : p (true, n) = false := by
        cases h2 : p (true, n) with
        | false => rfl
        | true => exact absurd ⟨h1, h2⟩ o
      rw [List.filter_cons_of_pos h1, List.filter_cons_of_neg (by rw [h2]; decide), List.map_cons]
      exact List.nodup_cons.mpr ⟨fresh, ih⟩
    | false =>
      rw [List.filter_cons_of_neg (by rw [h1]; decide)]
      cases h2 : p (true, n) with
      | true =>
        rw [List.filter_cons_of_pos h2, List.map_cons]
        exact List.nodup_cons.mpr ⟨fresh, ih⟩
      | false =>
        rw [List.filter_cons_of_neg (by rw [h2]; decide)]
        exact ih
/-- a row is a clause again -/
theorem RowOf.lits {ns r : List Str} (nd : ns.Nodup) (good : ∀ z ∈ ns, Name1 z) (h : RowOf ns r) : ∃ qs, Lits ns qs ∧ r = qs.map lit := by
  obtain ⟨qs, hq, rfl⟩ := h
  refine ⟨(pairs ns).filter fun q => decide (lit q ∈ qs.map lit), ⟨pairs_nodup ns _ nd ?_, fun q h => pairs_mem.mp (List.mem_filter.mp h).1⟩, ?_⟩
  · rintro n hn ⟨h1, h2⟩
    obtain ⟨p, hp, e1⟩ := List.mem_map.mp (of_decide_eq_true h1)
    obtain ⟨q, hq', e2⟩ := List.mem_map.mp (of_decide_eq_true h2)
    have p1 := lit_inj (good _ (hq.sub p hp)) (good n hn) e1
    have q1 := lit_inj (good _ (hq.sub q hq')) (good n hn) e2
    subst p1 q1
    have same : ∀ {qs : List (Bool × Str)} {p q : Bool × Str}, (qs.map Prod.snd).Nodup → p ∈ qs → q ∈ qs → p.2 = q.2 → p = q := fun {qs} => by
      induction qs with
      | nil => intro p q _ h; cases h
      | cons z r ih =>
        intro p q nd hp hq e
        rw [List.map_cons] at nd
        obtain ⟨m1, m2⟩ := List.nodup_cons.mp nd
        rcases List.mem_cons.mp hp with h1 | h1
        · rcases List.mem_cons.mp hq with h2 | h2
          · exact h1.trans h2.symm
          · exact absurd (h1 ▸ e ▸ List.mem_map_of_mem h2 : z.2 ∈ r.map Prod.snd) m1
        · rcases List.mem_cons.mp hq with h2 | h2
          · exact absurd (h2 ▸ e ▸ List.mem_map_of_mem h1 : z.2 ∈ r.map Prod.snd) m1
          · exact ih m2 h1 h2 e
    have z := same hq.nd hp hq' rfl
    cases z
  · unfold asc
    rw [← pairs_lit, List.filter_map]
    rfl
theorem Lits.names {ns ns' : List Str} {qs : List (Bool × Str)} (h : Lits ns qs) (sub : ∀ z ∈ ns, z ∈ ns') : Lits ns' qs := ⟨h.nd, fun q hq => sub _ (h.sub q hq)⟩
theorem lits_mem {ns : List Str} {l : Str} : l ∈ lits ns ↔ ∃ n ∈ ns, l = n ∨ l = neg n := by
  unfold lits
  rw [List.mem_flatMap]
  constructor
  · rintro ⟨n, hn, h⟩
    rcases List.mem_cons.mp h with h | h
    · exact ⟨n, hn, .inl h⟩
    · exact ⟨n, hn, .inr (List.mem_singleton.mp h)⟩
  · rintro ⟨n, hn, h | h⟩
    · exact ⟨n, hn, by rw [h]; exact List.mem_cons_self⟩
    · exact ⟨n, hn, by rw [h]; exact List.mem_cons_of_mem _ (List.mem_singleton.mpr rfl)⟩
theorem asc_congr {ns a b : List Str} (h : ∀ l, l ∈ a ↔ l ∈ b) : asc ns a = asc ns b := by
  unfold asc
  refine List.filter_congr fun l _ => ?_
  exact decide_eq_decide.mpr (h l)
theorem asc_asc {ns ls : List Str} : asc ns (asc ns ls) = asc ns ls := by
  unfold asc
  refine List.filter_congr fun l hl => ?_
  exact decide_eq_decide.mpr ⟨fun h => of_decide_eq_true (List.mem_filter.mp h).2, fun h => List.mem_filter.mpr ⟨hl, decide_eq_true h⟩⟩
end K6
namespace K6
open PySem PySem.Spec PyProof.Rows L2 LamX NdefX EV
theorem CodeR.same {K : PySem.W.Frag} {C : Addr} {H H' : Hp} {x r : Addr} {sg hp : List Str} {rs : List (List Str)} (c : CodeR K C H x sg hp rs r) (sm : Same H H') : CodeR K C H' x sg hp rs r := by
  obtain ⟨dx, a, b, pl, h1, h2, h3, h4, h5⟩ := c.at_
  exact ⟨dx, a, b, pl, sm _ _ h1, fun H2 s2 => h2 H2 (sm.trans s2), fun H2 s2 => h3 H2 (sm.trans s2), sm _ _ h4, sm _ _ h5⟩
theorem CodeAt.same {K : PySem.W.Frag} {C : Addr} {H H' : Hp} {x : Addr} {sg hp : List Str} {rs : List (List Str)} (c : CodeAt K C H x sg hp rs) (sm : Same H H') : CodeAt K C H' x sg hp rs := by
  obtain ⟨dx, a, b, pl, r, h1, h2, h3, h4, h5⟩ := c.at_
  exact ⟨dx, a, b, pl, r, sm _ _ h1, fun H2 s2 => h2 H2 (sm.trans s2), fun H2 s2 => h3 H2 (sm.trans s2), sm _ _ h4, sm _ _ h5⟩
/-- a tuple stands while a dict elsewhere is locked -/
theorem sqT_off {K : PySem.W.Frag} {H H' : Hp} {a d : Addr} {xs : List V} {ws : List (List Key × V)} (h : SqT K H a xs) (hd : H d = some (.dT ws)) (g : Grow d H H') : SqT K H' a xs := by
  rcases h with h | h
  · refine .inl ?_
    rcases h with h | ⟨o, h⟩
    · exact .inl (g _ _ (fun e => by rw [e, hd] at h; cases h) h)
    · exact .inr ⟨o, g _ _ (fun e => by rw [e, hd] at h; cases h) h⟩
  · exact .inr h
theorem CodeR.off {K : PySem.W.Frag} {C : Addr} {H H' : Hp} {x r d : Addr} {sg hp : List Str} {rs : List (List Str)} {ws : List (List Key × V)} (c : CodeR K C H x sg hp rs r) (hd : H d = some (.dT ws)) (ne : r ≠ d) (g : Grow d H H') : CodeR K C H' x sg hp rs r := by
  obtain ⟨dx, a, b, pl, h1, h2, h3, h4, h5⟩ := c.at_
  refine ⟨dx, a, b, pl, g _ _ (fun e => by rw [e, hd] at h1; cases h1) h1, fun H2 s2 => ?_, fun H2 s2 => ?_, g _ _ (fun e => by rw [e, hd] at h4; cases h4) h4, g _ _ ne h5⟩
  · exact (sqT_off (h2 H (Same.refl H)) hd g).ext s2
  · exact (sqT_off (h3 H (Same.refl H)) hd g).ext s2
def spSame2 (K : PySem.W.Frag) (C : Addr) : Sp := fun vs H Q _ => ∃ (x y : Addr) (sg hp sg' hp' : List Str) (rs rs' : List (List Str)), vs = [.ref x, .ref y] ∧ CodeAt K C H x sg hp rs ∧ CodeAt K C H y sg' hp' rs' ∧ (sg ++ hp).length ≤ 60 ∧ (sg' ++ hp').length ≤ 60 ∧ (sg ++ hp).Nodup ∧ (sg' ++ hp').Nodup ∧
  ∀ H', Same H H' → Q (.bl (sameMem sg sg' && sameMem hp hp')) H'
section
variable {P : Program} {w : World} {K : PySem.W.Frag} {mg : Str → Option Value} {base : Heap} {f C : Addr} {fd : FuncData}
theorem scSame2 : FnScope ["one", "other"] ["one", "other"] (defScope sSameNames) := ⟨rfl, rfl, rfl, by decide +kernel, rfl, by decide +kernel, by decide +kernel⟩
theorem ok_same2 (F : Fun K "have_same_names" "have_same_names" sSameNames f fd) (T : CTxt K mg C) (ms : mg "set" = none) : FnOk P w K mg base CX0 1 f fd ["one", "other"] (spSame2 K C) := by
  refine F.ok scSame2 (fun vs H Q E h => ?_) (fun cdv A' outer s H vs Q E hr h => ?_)
  · obtain ⟨x, y, sg, hp, sg', hp', rs, rs', rfl, _⟩ := h
    rfl
  · obtain ⟨x, y, sg, hp, sg', hp', rs, rs', rfl, cx, cy, n1, n2, d1, d2, k⟩ := h
    have hu := Nat.lt_of_succ_lt (hu_of hr)
    refine ⟨_, pss_one (ps_ret (pe_and (pe_cmpR (op_eqX hu) (pe_callTy (cr_setX rfl) (by rfl) ms (by decide +kernel) (pa_cons (pe_fld (pv 0) rfl) pa_nil)) (pe_callTy (cr_setX rfl) (by rfl) ms (by decide +kernel) (pa_cons (pe_fld (pv 1) rfl) pa_nil)) (nomark _))
      (pe_one (pe_cmpR (op_eqX hu) (pe_callTy (cr_setX rfl) (by rfl) ms (by decide +kernel) (pa_cons (pe_fld (pv 0) rfl) pa_nil)) (pe_callTy (cr_setX rfl) (by rfl) ms (by decide +kernel) (pa_cons (pe_fld (pv 1) rfl) pa_nil)) (nomark _))))), ?_⟩
    rw [List.length_append] at n1 n2
    obtain ⟨dx, a, b, pl, r, hx, ha, hb, _⟩ := cx.at_
    obtain ⟨dy, a', b', pl', r', hy, ha', hb', _⟩ := cy.at_
    obtain ⟨s1, s2, _⟩ := List.nodup_append.mp d1
    obtain ⟨s3, s4, _⟩ := List.nodup_append.mp d2
    refine ⟨_, rfl, x, C, dx, _, _, rfl, hx, T.cl, T.n1, fl1 .., a, sg, rfl, ha H (Same.refl H), s1, by omega, fun p hp0 => ?_⟩
    have sm1 : Same H _ := same_new (o := SetX P w p sg) hp0
    refine ⟨_, rfl, y, C, dy, _, _, rfl, sm1 _ _ hy, T.cl, T.n1, fl1 .., a', sg', rfl, ha' _ sm1, s3, by omega, fun q hq0 => ?_⟩
    have sm2 : Same H _ := sm1.trans (same_new (o := SetX P w q sg') hq0)
    refine ⟨p, q, sg, sg', rfl, rfl, (upd_ne (ne_of_none upd_same hq0)).trans upd_same, upd_same, _, rfl, ?_⟩
    cases h1 : sameMem sg sg' with
    | false =>
      refine iteF ?_
      have z := k _ sm2
      rw [h1] at z
      exact z
    | true =>
      refine iteT ⟨_, rfl, x, C, dx, _, _, rfl, sm2 _ _ hx, T.cl, T.n2, fl2 .., b, hp, rfl, hb _ sm2, s2, by omega, fun p2 hp2 => ?_⟩
      have sm3 : Same H _ := sm2.trans (same_new (o := SetX P w p2 hp) hp2)
      refine ⟨_, rfl, y, C, dy, _, _, rfl, sm3 _ _ hy, T.cl, T.n2, fl2 .., b', hp', rfl, hb' _ sm3, s4, by omega, fun q2 hq2 => ?_⟩
      refine ⟨p2, q2, hp, hp', rfl, rfl, (upd_ne (ne_of_none upd_same hq2)).trans upd_same, upd_same, ?_⟩
      have z := k _ (sm3.trans (same_new (o := SetX P w q2 hp') hq2))
      rw [h1] at z
      exact z
end
end K6
namespace K6
open PySem PySem.Spec PyProof.Rows L2 LamX NdefX EV
/-- which of these rows, brought into the order of the names ns, stand in rs -/
def found (ns : List Str) (rs rs' : List (List Str)) : List Bool := rs'.map fun q => decide (asc ns q ∈ rs)
/-- what == of two codes tells -/
def eqC (sg hp : List Str) (rs : List (List Str)) (sg' hp' : List Str) (rs' : List (List Str)) : Bool := decide (rs.length = rs'.length) && ((sameMem sg sg' && sameMem hp hp') && (found (sg ++ hp) rs rs').all id)
structure CIs (K : PySem.W.Frag) (C : Addr) : Prop where
  cl : PySem.W.findIn K (.ref C) "__class__" = some (some (.builtin "object.__class__"))
  gt : PySem.W.specialIn K (.builtin "object.__class__") "__get__" = some (some (.builtin "getset_descriptor.__get__"))
  tk : PySem.W.takesIn K (.builtin "object.__class__") = some true
  ob : PySem.W.mroIn K C (.type "object") = some true
def spEq (K : PySem.W.Frag) (C : Addr) : Sp := fun vs H Q _ => ∃ (x : Addr) (v : V) (sg hp : List Str) (rs : List (List Str)) (r : Addr), vs = [.ref x, v] ∧ CodeR K C H x sg hp rs r ∧ (sg ++ hp).length ≤ 60 ∧ (sg ++ hp).Nodup ∧ (∀ z ∈ sg ++ hp, Name1 z) ∧
  ((∃ (y : Addr) (sg' hp' : List Str) (rs' : List (List Str)) (r' : Addr), v = .ref y ∧ CodeR K C H y sg' hp' rs' r' ∧ r ≠ r' ∧ (sg' ++ hp').length ≤ 60 ∧ (sg' ++ hp').Nodup ∧ (∀ z ∈ sg' ++ hp', Name1 z) ∧ (∀ q ∈ rs', RowOf (sg' ++ hp') q) ∧ rs'.length ≤ 1000 ∧ ∀ H', Same H H' → Q (.bl (eqC sg hp rs sg' hp' rs')) H')
   ∨ ((∃ t, TyX K H v t ∧ PySem.W.kitOne K t (.ref C) = some false) ∧ ∀ H', Same H H' → Q (.bl false) H'))
theorem mem_same {xs ys : List Str} (h : sameMem xs ys = true) : ∀ x ∈ xs, x ∈ ys := (sameMem_iff.mp h).2
theorem nodup_back : ∀ {xs ys : List Str}, xs.Nodup → xs.length = ys.length → (∀ x ∈ xs, x ∈ ys) → ∀ y ∈ ys, y ∈ xs := fun {xs ys} nd len sub y hy => by
  by_cases h : y ∈ xs
  · exact h
  · have z := nodup_le (y :: xs) ys (List.nodup_cons.mpr ⟨h, nd⟩) fun a ha => (List.mem_cons.mp ha).elim (fun e => e ▸ hy) (sub a)
    rw [List.length_cons] at z
    omega
section
variable {P : Program} {w : World} {K : PySem.W.Frag} {mg : Str → Option Value} {base : Heap} {f fS fI C : Addr} {fd fdS fdI : FuncData}
abbrev nEq : List Str := ["self", "other", "clause"]
theorem scEq : FnScope nEq ["self", "other"] (defScope sEq) := ⟨rfl, rfl, rfl, by decide +kernel, rfl, by decide +kernel, by decide +kernel⟩
theorem ok_eq (F : Fun K "__eq__" "Code.__eq__" sEq f fd) (T : CTxt K mg C) (TI : CIs K C) (mi : mg "isinstance" = none) (ma : mg "all" = none)
    (GS : FnOk P w K mg base CX0 1 fS fdS ["one", "other"] (spSame2 K C)) (mS : mg "have_same_names" = some (.ref fS)) (kS : PySem.W.keepIn K (.ref fS) = true) (bS : L2.Binds K fdS ["one", "other"] [])
    (GI : FnOk P w K mg base CX0 4 fI fdI ["self", "thing"] (spContains K C)) (hs : PySem.W.findIn K (.ref C) "__contains__" = some (some (.ref fI))) (hf : PySem.W.isFn K (.ref fI) = true) (bI : L2.Binds K fdI ["self", "thing"] []) :
    FnOk P w K mg base CX0 5 f fd ["self", "other"] (spEq K C) := by
  refine F.ok scEq (fun vs H Q E h => ?_) (fun cdv A' outer s H vs Q E hr h => ?_)
  · obtain ⟨x, v, sg, hp, rs, r, rfl, _⟩ := h
    rfl
  · obtain ⟨x, v, sg, hp, rs, r, rfl, cx, hn, nd, good, way⟩ := h
    have hr1 : Room 1 _ := hr.mono (by decide)
    refine ⟨_, pss_cons (ps_if (PW.pt (pw_or (pt_not (pt_val (pe_callB call_isi (by rfl) mi (by decide +kernel) (pa_cons (pv 1) (pa_cons (pe_glob (v := .ref C) (by rfl) T.mgC rfl) pa_nil)))))
          (pw_or1 (pt_cmpR op_ne (pe_callB call_len_dT (by rfl) T.len PySem.boot_len (pa_cons (pe_fld (pv 0) rfl) pa_nil)) (pe_callB call_len_dT (by rfl) T.len PySem.boot_len (pa_cons (pe_fld (pv 1) rfl) pa_nil)) (nomark _)))))
        (pss_one (ps_ret pe_bl)) pss_nil)
      (pss_one (ps_ret (pe_and (pe_call GS hr1 (by rfl) mS kS bS .nil pass0 (pa_cons (pv 0) (pa_cons (pv 1) pa_nil)))
        (pe_one (pe_callB (cr_all rfl) (by rfl) ma (by decide +kernel) (pa_cons (pe_lock (pe_lc (own := [("clause", 2)]) (g := gName 2) (tt := tYes) rfl scEq.nd (pi_keys (pe_fld (pv 1) rfl)) (blkOk_by (N := nEq) (sc := defScope sEq) (by decide +kernel))
          (fun _ _ _ _ _ => pg_name (i := 2) scEq.nd rfl (.inl rfl)) (fun _ _ _ _ _ => pts_nil) (fun _ _ _ _ _ => pe_cmpR (op_inOwn GI hs hf bI pass0 hr) (pv 2) (pv 0) rfl))) pa_nil)))))), ?_⟩
    obtain ⟨dx, a, b, pl, hx, _, _, _, hr4⟩ := cx.at_
    rcases way with ⟨y, sg', hp', rs', r', rfl, cy, ner, hn', nd', good', rows', few', k⟩ | ⟨⟨t, ty, kit⟩, k⟩
    · obtain ⟨dy, a', b', pl', hy, _, _, _, hr4'⟩ := cy.at_
      refine ⟨_, rfl, .ref y, .ref C, _, _, true, rfl, .own C, .base (.ins hy T.cl TI.cl TI.gt TI.tk TI.ob), by show (if (Value.ref C == Value.ref C) = true then _ else _) = _; rw [if_pos (by simp)], _, rfl, ?_⟩
      refine iteF ⟨_, rfl, x, C, dx, _, _, rfl, hx, T.cl, T.n4, fl4 .., r, _, rfl, hr4, _, rfl, y, C, dy, _, _, rfl, hy, T.cl, T.n4, fl4 .., r', _, rfl, hr4', rfl, _, rfl, ?_⟩
      have eL : (!decide (V.int ((List.map rowKv rs).length : Int) = V.int ((List.map rowKv rs').length : Int))) = !decide (rs.length = rs'.length) := by
        rw [List.length_map, List.length_map]
        refine congrArg not (decide_eq_decide.mpr ⟨fun h => ?_, fun h => by rw [h]⟩)
        injection h with h
        omega
      rw [eL]
      cases e1 : decide (rs.length = rs'.length) with
      | false =>
        have z := k H (Same.refl H)
        unfold eqC at z
        rw [e1] at z
        exact iteT z
      | true =>
        refine iteF ⟨_, rfl, _, rfl, x, y, sg, hp, sg', hp', rs, rs', rfl, cx.code, cy.code, hn, hn', nd, nd', fun H1 sm1 => ⟨_, rfl, ?_⟩⟩
        cases e2 : sameMem sg sg' && sameMem hp hp' with
        | false =>
          have z := k H1 sm1
          unfold eqC at z
          rw [e1, e2] at z
          exact iteF z
        | true =>
          obtain ⟨e3, e4⟩ := Bool.and_eq_true_iff.mp e2
          have back : ∀ z ∈ sg' ++ hp', z ∈ sg ++ hp := fun z hz => by
            rcases List.mem_append.mp hz with q | q
            · exact List.mem_append.mpr (.inl (nodup_back (List.nodup_append.mp nd).1 (sameMem_iff.mp e3).1 (mem_same e3) z q))
            · exact List.mem_append.mpr (.inr (nodup_back (List.nodup_append.mp nd).2.1 (sameMem_iff.mp e4).1 (mem_same e4) z q))
          have hd1 := sm1 _ _ hr4'
          have cx1 := cx.same sm1
          have hy1 := sm1 _ _ hy
          have nyr : y ≠ r' := ne_of hy1 hd1 fun z => nomatch z
          refine iteT ⟨r', _, hd1, trivial, fun od => ?_⟩
          have g0 : Grow r' H1 (upd H1 r' (.frz od (.dT (rs'.map rowKv)))) := Grow.put
          refine ⟨_, rfl, y, C, dy, _, _, rfl, (upd_ne nyr).trans hy1, T.cl, T.n4, fl4 .., r', od, rfl, .inr ⟨_, upd_same, fun L hL => lc_it walk_keysT (fun i H2 => H2 r' = some (.frz od (.dT (rs'.map rowKv))) ∧ H2 L = some (.lst ((found (sg ++ hp) rs (rs'.take i)).map V.bl)) ∧ Grow r' H1 H2) ?_ (fun i H2 _ hh => hh.1) ?_ ?_⟩⟩
          · have nrL : r' ≠ L := ne_of_none (show upd H1 r' (.frz od (.dT (rs'.map rowKv))) r' = some _ from upd_same) hL
            refine ⟨(upd_ne nrL).trans upd_same, ?_, fun c o nc e => (upd_ne (ne_of_none (g0 c o nc e) hL)).trans (g0 c o nc e)⟩
            rw [upd_same]
            rfl
          · rintro i v H2 H3 hi ⟨hr2, hL2, g2⟩ ⟨rfl, kk, vv, q, hkv, rfl, hq⟩
            obtain ⟨row, hrow, ekv⟩ := get_map hkv
            injection ekv with ek ev
            rw [ek, kV_strs] at hq
            have rowm := rows' row (List.mem_of_getElem? hrow)
            obtain ⟨qs, hqs, rfl⟩ := rowm.lits nd' good'
            have cx2 := cx1.off hd1 ner g2
            obtain ⟨dx2, _, _, _, hx2, _⟩ := cx2.at_
            have nqx : q ≠ x := ne_of hq hx2 fun z => nomatch z
            refine ⟨rfl, _, rfl, _, rfl, x, dx2, _, rfl, hx2, x, .ref q, sg, hp, rs, rfl, cx2.code, hn, nd, good, .inl ⟨qs, ⟨hqs.names back, false, q, .type "tuple", rfl, fun H' g => .base (.tup (g _ _ nqx hq)), kitAny_cons (b := false) (kit_ty (by decide +kernel)) (fun _ => kitAny_cons (b := true) (kit_ty (by decide +kernel)) (fun z => nomatch z) fun _ => rfl) (fun z => nomatch z), fun H' g => Sq.tup (g _ _ nqx hq)⟩, fun H4 sm4 => ⟨_, rfl, ?_⟩⟩⟩
            refine ⟨_, sm4 _ _ hL2, by rw [List.length_map]; unfold found; rw [List.length_map, List.length_take, sizeLine_eq]; omega, ?_, ?_, ?_⟩
            · have nrL : r' ≠ L := ne_of hr2 hL2 fun z => nomatch z
              exact (upd_ne nrL).trans (sm4 _ _ hr2)
            · rw [upd_same, List.take_succ, hrow]
              unfold found
              rw [List.map_append, List.map_append]
              rfl
            · intro c o nc e
              have z := sm4 _ _ (g2 c o nc e)
              have hL1 : H1 L = none := by
                have y := hL
                rwa [upd_ne (ne_of_none (show upd H1 r' (.frz od (.dT (rs'.map rowKv))) r' = some _ from upd_same) hL).symm] at y
              exact (upd_ne (ne_of_none e hL1)).trans z
          · rintro H2 ⟨hr2, hL2, g2⟩
            have nrL : L ≠ r' := ne_of hL2 hr2 fun z => nomatch z
            refine ⟨hr2, L, _, rfl, SqL.of ((upd_ne nrL).trans hL2), ?_⟩
            have sm3 : Same H1 (upd H2 r' (.dT (rs'.map rowKv))) := fun c o e => by
              by_cases q : c = r'
              · rw [q, hd1] at e
                rw [q, upd_same, e]
              · exact (upd_ne q).trans (g2 c o q e)
            have z := k _ (sm1.trans sm3)
            unfold eqC at z
            rw [List.length_map, List.take_length]
            rw [e1, e2] at z
            exact z
    · obtain ⟨u, hu1, _⟩ := (⟨_, hx, trivial⟩ : ∃ u, H x = some u ∧ True)
      exact ⟨_, rfl, v, .ref C, _, _, false, rfl, .own C, ty, kit, _, rfl, iteT (k H (Same.refl H))⟩
end
end K6
namespace K6
open PySem PySem.Spec PyProof.Rows L2 LamX NdefX EV
/-! ### repr of data without dicts -/
mutual
theorem dp_free {K : PySem.W.Frag} {H : Hp} : ∀ {v : V} {d : PyData}, Dp K H v d → d.hasDict = false
  | _, _, .non => rfl
  | _, _, .bl _ => rfl
  | _, _, .int _ => rfl
  | _, _, .str _ => rfl
  | _, _, .lst _ h => by
    show PyData.hasDictAll _ = false
    exact dps_free h
  | _, _, .tup _ h => by
    show PyData.hasDictAll _ = false
    exact dps_free h
theorem dps_free {K : PySem.W.Frag} {H : Hp} : ∀ {vs : List V} {ds : List PyData}, DpAll K H vs ds → PyData.hasDictAll ds = false
  | _, _, .nil => rfl
  | _, _, .cons h t => by
    show (PyData.hasDict _ || PyData.hasDictAll _) = false
    rw [dp_free h, dps_free t]
    rfl
end
def rReprP (K : PySem.W.Frag) : List V → Hp → VK → Prop := fun xs H Q => ∃ (x : V) (d : PyData), xs = [x] ∧ Dp K H x d ∧ d.showable = true ∧ d.shown.length ≤ sizeLine ∧ d.depth ≤ 60 ∧ Q (.str d.shown) H
theorem call_reprP {X : Cx} (hg : X.A.guards = some []) (hu : X.A.units + 64 < cLine) : CallR X (.builtin "repr") (rReprP X.K) := by
  intro pins s σ H xs us Q I r h
  obtain ⟨x, d, rfl, hd, hs, hz, hdp, q⟩ := h
  obtain ⟨u, rfl, ru⟩ := r.one
  have hf := dp_free hd
  cases hd with
  | non =>
    cases ru
    exact PySem.P.repr_of_none ⟨.str _, H, I.tok _, ⟨_, rfl⟩, q⟩
  | bl b =>
    cases ru
    refine PySem.P.repr_of_bool ⟨.str _, H, I.tok _, ⟨_, rfl⟩, ?_⟩
    cases b <;> exact q
  | int i =>
    obtain ⟨t, rfl⟩ := ru
    exact PySem.P.repr_of_int (by simpa [PyData.showable] using hs) ⟨.str _, H, I.tok _, ⟨_, rfl⟩, q⟩
  | str y =>
    obtain ⟨t, rfl⟩ := ru
    exact PySem.P.repr_of_str ⟨.str _, H, I.tok _, ⟨_, rfl⟩, q⟩ hz
  | lst h2 h3 =>
    obtain ⟨as, hr⟩ := Dp.reads I _ _ _ (.lst h2 h3) ru
    cases ru
    exact repr_of_reads' hr hs (fun z => by rw [hf] at z; cases z) hg (by omega) (fun _ _ e => e) (fun h' u tk k => ⟨.str _, H, I.kept k, ⟨u, rfl⟩, q⟩) hz
  | tup h2 h3 =>
    obtain ⟨as, hr⟩ := Dp.reads I _ _ _ (.tup h2 h3) ru
    cases ru
    exact repr_of_reads' hr hs (fun z => by rw [hf] at z; cases z) hg (by omega) (fun _ _ e => e) (fun h' u tk k => ⟨.str _, H, I.kept k, ⟨u, rfl⟩, q⟩) hz
/-! ### what is shown is small -/
/-- texts of few signs, shown within few places -/
structure Small (d : PyData) (n : Nat) : Prop where
  ls : d.leavesShort 40 = true
  bk : d.bulk ≤ n
  sh : d.showable = true
  dp : d.depth ≤ 10
theorem Small.fits {d : PyData} {n : Nat} (h : Small d n) (hn : n ≤ 20000) : d.shown.length ≤ sizeLine := by
  have z := PyData.shown_le_bulk 40 (by decide) d h.ls
  have b := h.bk
  rw [sizeLine_eq]
  omega
structure SmallAll (ds : List PyData) (n m : Nat) : Prop where
  ls : PyData.leavesShortAll 40 ds = true
  bk : PyData.bulkAll ds ≤ n
  sh : PyData.showableAll ds = true
  dp : PyData.depthAll ds ≤ m
theorem SmallAll.nil {m : Nat} : SmallAll [] 0 m := ⟨rfl, Nat.le_refl 0, rfl, Nat.zero_le _⟩
theorem SmallAll.cons {d : PyData} {ds : List PyData} {a b m : Nat} (h : d.leavesShort 40 = true) (h2 : d.bulk ≤ a) (h3 : d.showable = true) (h4 : d.depth ≤ m) (t : SmallAll ds b m) : SmallAll (d :: ds) (a + 1 + b) m := by
  refine ⟨?_, ?_, ?_, ?_⟩
  · simp only [PyData.leavesShortAll, h, t.ls, Bool.and_self]
  · have := t.bk
    simp only [PyData.bulkAll]
    omega
  · simp only [PyData.showableAll, h3, t.sh, Bool.and_self]
  · have := t.dp
    simp only [PyData.depthAll]
    omega
theorem name_short {z : Str} (h : Fit z) : (z.cps.toList.all fun c => decide (c < 16 ^ 8)) = true := List.all_eq_true.mpr fun c hc => decide_eq_true (Nat.lt_trans (h c hc) (by decide))
/-- lists of short texts -/
theorem small_strs {n : Nat} : ∀ xs : List Str, (∀ z ∈ xs, Fit z ∧ z.length ≤ n) → SmallAll (xs.map PyData.str) ((n + 1) * xs.length) 2
  | [], _ => SmallAll.nil
  | x :: xs, h => by
    have z := SmallAll.cons (d := .str x) (a := n) (name_short (h x List.mem_cons_self).1) (h x List.mem_cons_self).2 rfl (Nat.zero_le _) (small_strs xs fun z hz => h z (List.mem_cons_of_mem _ hz))
    refine ⟨z.ls, ?_, z.sh, z.dp⟩
    have b := z.bk
    rw [List.length_cons, Nat.mul_succ]
    show PyData.bulkAll (.str x :: xs.map PyData.str) ≤ _
    omega
theorem small_list {ds : List PyData} {n m : Nat} (h : SmallAll ds n m) : (PyData.list ds).leavesShort 40 = true ∧ (PyData.list ds).bulk ≤ n ∧ (PyData.list ds).showable = true ∧ (PyData.list ds).depth ≤ m + 1 := by
  refine ⟨h.ls, h.bk, h.sh, ?_⟩
  have := h.dp
  simp only [PyData.depth]
  omega
theorem small_tup {ds : List PyData} {n m : Nat} (h : SmallAll ds n m) : (PyData.tuple ds).leavesShort 40 = true ∧ (PyData.tuple ds).bulk ≤ n ∧ (PyData.tuple ds).showable = true ∧ (PyData.tuple ds).depth ≤ m + 1 := by
  refine ⟨h.ls, h.bk, h.sh, ?_⟩
  have := h.dp
  simp only [PyData.depth]
  omega
theorem small_rows {n m : Nat} : ∀ rs : List (List Str), (∀ r ∈ rs, r.length ≤ m ∧ ∀ z ∈ r, Fit z ∧ z.length ≤ n) → SmallAll (rs.map fun r => PyData.tuple (r.map PyData.str)) (((n + 1) * m + 1) * rs.length) 3
  | [], _ => SmallAll.nil
  | r :: rs, h => by
    obtain ⟨h1, h2⟩ := h r List.mem_cons_self
    obtain ⟨a1, a2, a3, a4⟩ := small_tup (small_strs r h2)
    have z := SmallAll.cons a1 a2 a3 a4 (small_rows rs fun z hz => h z (List.mem_cons_of_mem _ hz))
    refine ⟨z.ls, ?_, z.sh, z.dp⟩
    have b := z.bk
    have c : (n + 1) * r.length ≤ (n + 1) * m := Nat.mul_le_mul_left _ h1
    rw [List.length_cons, Nat.mul_succ]
    show PyData.bulkAll (.tuple (r.map PyData.str) :: rs.map fun r => PyData.tuple (r.map PyData.str)) ≤ _
    omega
theorem dp_app {K : PySem.W.Frag} {H : Hp} : ∀ {vs ws : List V} {ds es : List PyData}, DpAll K H vs ds → DpAll K H ws es → DpAll K H (vs ++ ws) (ds ++ es)
  | _, _, _, _, .nil, h => h
  | _, _, _, _, .cons h t, h2 => .cons h (dp_app t h2)
theorem small_app {n k m : Nat} : ∀ {ds es : List PyData}, SmallAll ds n m → SmallAll es k m → SmallAll (ds ++ es) (n + k) m := fun {ds es} h1 h2 => by
  have go : ∀ ds : List PyData, (PyData.leavesShortAll 40 (ds ++ es) = (PyData.leavesShortAll 40 ds && PyData.leavesShortAll 40 es)) ∧ PyData.bulkAll (ds ++ es) = PyData.bulkAll ds + PyData.bulkAll es ∧ PyData.showableAll (ds ++ es) = (PyData.showableAll ds && PyData.showableAll es) ∧ PyData.depthAll (ds ++ es) ≤ max (PyData.depthAll ds) (PyData.depthAll es) := by
    intro ds
    induction ds with
    | nil => exact ⟨rfl, by simp [PyData.bulkAll], rfl, by simp [PyData.depthAll]⟩
    | cons d ds ih =>
      obtain ⟨i1, i2, i3, i4⟩ := ih
      refine ⟨?_, ?_, ?_, ?_⟩
      · simp only [List.cons_append, PyData.leavesShortAll, i1, Bool.and_assoc]
      · simp only [List.cons_append, PyData.bulkAll, i2]
        omega
      · simp only [List.cons_append, PyData.showableAll, i3, Bool.and_assoc]
      · simp only [List.cons_append, PyData.depthAll]
        omega
  obtain ⟨g1, g2, g3, g4⟩ := go ds
  have a1 := h1.bk
  have a2 := h2.bk
  have a3 := h1.dp
  have a4 := h2.dp
  exact ⟨by rw [g1, h1.ls, h2.ls]; rfl, by omega, by rw [g3, h1.sh, h2.sh]; rfl, by omega⟩
/-! ### _law_same over such data -/
def spSameP (K : PySem.W.Frag) : Sp := fun vs H Q _ => ∃ (x y : V) (d : PyData) (n : Nat), vs = [x, y] ∧ Dp K H x d ∧ Dp K H y d ∧ Small d n ∧ n ≤ 20000 ∧ Q (.bl true) H
section
variable {P : Program} {w : World} {K : PySem.W.Frag} {mg : Str → Option Value} {base : Heap} {f : Addr} {fd : FuncData}
theorem ok_sameP (F : Fun K "_law_same" "_law_same" sSame f fd) (mr : mg "repr" = none) : FnG P w K mg base 1 f fd ["_law_found", "_law_due"] (spSameP K) := by
  refine fng_of F scSame (fun vs H Q E h => ?_) (fun cdv A outer s H vs Q E hg hr h => ?_)
  · obtain ⟨x, y, d, n, rfl, _⟩ := h
    rfl
  · obtain ⟨x, y, d, n, rfl, hx, hy, sm, hn, k⟩ := h
    refine ⟨_, pss_one (ps_ret (pe_cmpR op_eq (pe_callB (call_reprP hg hr.units) (by rfl) mr (by decide +kernel) (pa_cons (pv 0) pa_nil)) (pe_callB (call_reprP hg hr.units) (by rfl) mr (by decide +kernel) (pa_cons (pv 1) pa_nil)) (nomark _))), ?_⟩
    have h3 : d.depth ≤ 60 := Nat.le_trans sm.dp (by decide)
    refine ⟨_, rfl, _, d, rfl, hx, sm.sh, sm.fits hn, h3, _, rfl, _, d, rfl, hy, sm.sh, sm.fits hn, h3, rfl, ?_⟩
    show Q (.bl (decide (V.str d.shown = V.str d.shown))) H
    rw [decide_eq_true rfl]
    exact k
end
end K6
namespace K6
open PySem PySem.Spec PyProof.Rows L2 LamX NdefX EV
theorem dget_c {H : Hp} {d ps ph pc : Addr} (h : H d = some (.dK [(kSigns, .ref ps), (kHelpers, .ref ph), (kClauses, .ref pc)])) : DGet H d (.str (Str.ofString "signs")) (some (.ref ps)) ∧ DGet H d (.str (Str.ofString "helpers")) (some (.ref ph)) ∧ DGet H d (.str (Str.ofString "clauses")) (some (.ref pc)) :=
  ⟨DGet.k (k := kSigns) h, DGet.k (k := kHelpers) h, DGet.k (k := kClauses) h⟩
theorem CAt.same {H H' : Hp} {d ps ph pc : Addr} {sg hp : List Str} {ts : List Addr} {rs : List (List Str)} (c : CAt H d ps ph pc sg hp ts rs) (sm : Same H H') : CAt H' d ps ph pc sg hp ts rs :=
  ⟨sm _ _ c.d, sm _ _ c.s, sm _ _ c.h, sm _ _ c.c, c.r.same sm⟩
theorem row_texts {ns r : List Str} (good : ∀ z ∈ ns, Name1 z) (h : RowOf ns r) : r.length ≤ 2 * ns.length ∧ ∀ z ∈ r, Fit z ∧ z.length ≤ 9 := by
  obtain ⟨qs, hq, rfl⟩ := h
  refine ⟨asc_len ns _, fun z hz => ?_⟩
  obtain ⟨n, hn, e⟩ := lits_mem.mp (List.mem_filter.mp hz).1
  have g := good n hn
  have l8 : n.length ≤ 8 := g.2.1
  rcases e with rfl | rfl
  · exact ⟨g.fit, by omega⟩
  · exact ⟨g.fit.neg, by rw [neg_len]; omega⟩
theorem fl_no {a b pl r : Addr} {m : Str} (h : (["own_signs", "own_helpers", "places", "rows"] : List Str).contains m = false) : (fl a b pl r).lookup m = none := by
  rw [fl_eq]
  simp only [List.contains_cons, List.contains_nil, Bool.or_false, Bool.or_eq_false_iff] at h
  obtain ⟨h1, h2, h3, h4⟩ := h
  simp only [List.lookup, h1, h2, h3, h4]
section
variable {P : Program} {w : World} {K : PySem.W.Frag} {mg : Str → Option Value} {base : Heap} {f fS f1 f2 f3 f4 C : Addr} {fd fdS fd1 fd2 fd3 fd4 : FuncData}
end
end K6
namespace K6
open PySem PySem.Spec PyProof.Rows L2 LamX NdefX EV
/-! ### making a code -/
theorem TyOf.same {K : PySem.W.Frag} {H H' : Hp} {v : V} {t : Value} (h : TyOf K H v t) (sm : Same H H') : TyOf K H' v t := by
  cases h with
  | non => exact .non
  | bl b => exact .bl b
  | int i => exact .int i
  | str z => exact .str z
  | flt z => exact .flt z
  | lst e => exact .lst (sm _ _ e)
  | frz e => exact .frz (sm _ _ e)
  | tup e => exact .tup (sm _ _ e)
  | dK e => exact .dK (sm _ _ e)
  | dT e => exact .dT (sm _ _ e)
  | ins e a b c d f => exact .ins (sm _ _ e) a b c d f
theorem TyX.same {K : PySem.W.Frag} {H H' : Hp} {v : V} {t : Value} (h : TyX K H v t) (sm : Same H H') : TyX K H' v t := by
  cases h with
  | base h => exact .base (TyOf.same h sm)
  | byt b => exact .byt b
  | set e => exact .set (sm _ _ e)
  | kList a b => exact .kList a b
  | kTuple a b => exact .kTuple a b
  | kDict a b => exact .kDict a b
  | fTuple e => exact .fTuple (sm _ _ e)
  | fDict e => exact .fDict (sm _ _ e)
theorem Sq.same {K : PySem.W.Frag} {H H' : Hp} {b : Bool} {a : Addr} {xs : List V} (h : Sq K b H a xs) (sm : Same H H') : Sq K b H' a xs := by
  cases b
  · exact sqT_same sm h
  · exact Same.seq sm h
/-- a clause that is handed over -/
def Handed (K : PySem.W.Frag) (H : Hp) (ns : List Str) (x : V) (qs : List (Bool × Str)) : Prop := Lits ns qs ∧ ∃ (b : Bool) (A : Addr), x = .ref A ∧ Sq K b H A ((qs.map lit).map V.str)
theorem Sq.ty {K : PySem.W.Frag} {H : Hp} {b : Bool} {a : Addr} {xs : List V} (h : Sq K b H a xs) : TyX K H (.ref a) (.type (if b = true then "list" else "tuple")) := by
  cases b
  · rcases h with (h | ⟨o, h⟩) | ⟨o, its, n, h1, h2, _⟩
    · exact .base (.tup h)
    · exact .fTuple h
    · exact .kTuple h1 h2
  · rcases h with (h | ⟨o, h⟩) | ⟨o, its, n, h1, h2, _⟩
    · exact .base (.lst h)
    · exact .base (.frz h)
    · exact .kList h1 h2
theorem kit_seq {K : PySem.W.Frag} (b : Bool) : PySem.W.kitAny K (.type (if b = true then "list" else "tuple")) [.type "list", .type "tuple"] = some true := by
  cases b
  · exact kitAny_cons (b := false) (kit_ty (by decide +kernel)) (fun _ => kitAny_cons (b := true) (kit_ty (by decide +kernel)) (fun z => nomatch z) fun _ => rfl) (fun z => nomatch z)
  · exact kitAny_cons (b := true) (kit_ty (by decide +kernel)) (fun z => nomatch z) fun _ => rfl
theorem Handed.given {K : PySem.W.Frag} {H H1 : Hp} {s : Addr} {ns : List Str} {x : V} {qs : List (Bool × Str)} (h : Handed K H ns x qs) (g : ∀ H', Grow s H1 H' → Same H H') : Given K s H1 ns x qs := by
  obtain ⟨hq, b, A, rfl, sq⟩ := h
  exact ⟨hq, b, A, _, rfl, fun H' gg => Sq.ty (Sq.same sq (g H' gg)), kit_seq b, fun H' gg => Sq.same sq (g H' gg)⟩
theorem Handed.same {K : PySem.W.Frag} {H H' : Hp} {ns : List Str} {x : V} {qs : List (Bool × Str)} (h : Handed K H ns x qs) (sm : Same H H') : Handed K H' ns x qs := by
  obtain ⟨hq, b, A, rfl, sq⟩ := h
  exact ⟨hq, b, A, rfl, Sq.same sq sm⟩
theorem make_ok {K : PySem.W.Frag} {C : Addr} {H : Hp} {S0 T0 H0 x dx : Addr} {b1 b2 b3 : Bool} {sg hp : List Str} {xs : List V} {qss : List (List (Bool × Str))} {W : VK} (hx : H x = none) (hdx : H dx = none) (hS : Sq K b1 H S0 (sg.map V.str)) (hT : Sq K b2 H T0 xs) (hH : Sq K b3 H H0 (hp.map V.str)) (hn : (sg ++ hp).length ≤ 60) (nd : (sg ++ hp).Nodup) (good : ∀ z ∈ sg ++ hp, Name1 z)
    (giv : Paired (Handed K H (sg ++ hp)) xs qss) (few : qss.length ≤ 1000) (k : ∀ r H', Same H H' → CodeR K C H' x sg hp (rowsOf (sg ++ hp) qss) r → H r = none → W .non H') :
    spInit K C [.ref x, .ref S0, .ref T0, .ref H0] (upd (upd H dx (.own x)) x (.ins C dx [])) W E0 := by
  have sm0 : Same H (upd (upd H dx (.own x)) x (.ins C dx [])) := fun c o e => (upd_ne (ne_of_none e hx)).trans ((upd_ne (ne_of_none e hdx)).trans e)
  have g : ∀ H', Grow x (upd (upd H dx (.own x)) x (.ins C dx [])) H' → Same H H' := fun H' gg c o e => gg c o (ne_of_none e hx) (sm0 c o e)
  refine ⟨x, dx, S0, T0, H0, b1, b2, b3, sg, hp, xs, qss, rfl, upd_same, fun H' gg => Sq.same hS (g H' gg), fun H' gg => Sq.same hT (g H' gg), fun H' gg => Sq.same hH (g H' gg), hn, nd, good, Paired.mapP giv (fun v qs h => Handed.given h g), few, fun H' r gg c fresh => k r H' (g H' gg) c ?_⟩
  cases e : H r with
  | none => rfl
  | some o =>
    rw [sm0 r o e] at fresh
    cases fresh
/-! ### what a code is like -/
structure OkC (sg hp : List Str) (rs : List (List Str)) : Prop where
  n60 : (sg ++ hp).length ≤ 60
  nd : (sg ++ hp).Nodup
  good : ∀ z ∈ sg ++ hp, Name1 z
  row : ∀ r ∈ rs, RowOf (sg ++ hp) r
  few : rs.length ≤ 1000
theorem addRow_mem {rs : List (List Str)} {r x : List Str} (h : x ∈ addRow rs r) : x ∈ rs ∨ x = r := by
  unfold addRow at h
  split at h
  · exact .inl h
  · rcases List.mem_append.mp h with q | q
    · exact .inl q
    · exact .inr (List.mem_singleton.mp q)
theorem fold_mem : ∀ (xs acc : List (List Str)) (x : List Str), x ∈ xs.foldl addRow acc → x ∈ acc ∨ x ∈ xs
  | [], _, _, h => .inl h
  | y :: xs, acc, x, h => by
    rcases fold_mem xs (addRow acc y) x h with q | q
    · rcases addRow_mem q with q | q
      · exact .inl q
      · exact .inr (by rw [q]; exact List.mem_cons_self)
    · exact .inr (List.mem_cons_of_mem _ q)
theorem rowsOf_row {ns : List Str} {qss : List (List (Bool × Str))} (h : ∀ qs ∈ qss, Lits ns qs) : ∀ r ∈ rowsOf ns qss, RowOf ns r := fun r hr => by
  rcases fold_mem _ _ r hr with q | q
  · cases q
  · obtain ⟨qs, hqs, rfl⟩ := List.mem_map.mp q
    exact ⟨qs, h qs hqs, rfl⟩
theorem fold_id : ∀ (xs acc : List (List Str)), (acc ++ xs).Nodup → xs.foldl addRow acc = acc ++ xs
  | [], acc, _ => (List.append_nil acc).symm
  | x :: xs, acc, nd => by
    have e : acc ++ x :: xs = (acc ++ [x]) ++ xs := by rw [List.append_assoc]; rfl
    have nx : x ∉ acc := fun q => (List.nodup_append.mp nd).2.2 x q x List.mem_cons_self rfl
    rw [List.foldl_cons]
    unfold addRow
    rw [if_neg nx, e]
    exact fold_id xs (acc ++ [x]) (e ▸ nd)
theorem fold_in : ∀ (xs acc : List (List Str)), (∀ x ∈ xs, x ∈ acc) → xs.foldl addRow acc = acc
  | [], _, _ => rfl
  | x :: xs, acc, h => by
    have e : addRow acc x = acc := if_pos (h x List.mem_cons_self)
    rw [List.foldl_cons, e]
    exact fold_in xs acc fun y hy => h y (List.mem_cons_of_mem _ hy)
end K6
namespace K6
open PySem PySem.Spec PyProof.Rows L2 LamX NdefX EV
/-! ### codes unlike a code -/
/-- two places that hold lists -/
def Two (H : Hp) (S L : Addr) : Prop := (∃ xs, H S = some (.lst xs)) ∧ ∃ xs, H L = some (.lst xs)
theorem StreamAt.two {H : Hp} {S L : Addr} {c : Nat} (h : StreamAt H S L c) : Two H S L := by
  obtain ⟨ns, x, m, h1, h2, _⟩ := h
  exact ⟨⟨_, h1⟩, ⟨_, h2⟩⟩
theorem sqT_kept {K : PySem.W.Frag} {H H' : Hp} {S L a : Addr} {xs : List V} (h : SqT K H a xs) (hS : Two H S L) (k : Kept S L H H') : SqT K H' a xs := by
  obtain ⟨⟨_, h1⟩, ⟨_, h2⟩⟩ := hS
  rcases h with h | h
  · refine .inl ?_
    rcases h with h | ⟨o, h⟩
    · exact .inl (k _ _ h (ne_of h h1 fun z => nomatch z) (ne_of h h2 fun z => nomatch z))
    · exact .inr ⟨o, k _ _ h (ne_of h h1 fun z => nomatch z) (ne_of h h2 fun z => nomatch z)⟩
  · exact .inr h
theorem CodeR.kept {K : PySem.W.Frag} {C : Addr} {H H' : Hp} {S L x r : Addr} {sg hp : List Str} {rs : List (List Str)} (cr : CodeR K C H x sg hp rs r) (hS : Two H S L) (k : Kept S L H H') : CodeR K C H' x sg hp rs r := by
  obtain ⟨dx, a, b, pl, h1, h2, h3, h4, h5⟩ := cr.at_
  obtain ⟨⟨_, g1⟩, ⟨_, g2⟩⟩ := id hS
  refine ⟨dx, a, b, pl, k _ _ h1 (ne_of h1 g1 fun z => nomatch z) (ne_of h1 g2 fun z => nomatch z), fun H2 s2 => ?_, fun H2 s2 => ?_, k _ _ h4 (ne_of h4 g1 fun z => nomatch z) (ne_of h4 g2 fun z => nomatch z), k _ _ h5 (ne_of h5 g1 fun z => nomatch z) (ne_of h5 g2 fun z => nomatch z)⟩
  · exact (sqT_kept (h2 H (Same.refl H)) hS k).ext s2
  · exact (sqT_kept (h3 H (Same.refl H)) hS k).ext s2
theorem RowsAt.kept {H H' : Hp} {S L : Addr} {ts : List Addr} {rs : List (List Str)} (h : RowsAt H ts rs) (hS : Two H S L) (k : Kept S L H H') : RowsAt H' ts rs := by
  obtain ⟨⟨_, g1⟩, ⟨_, g2⟩⟩ := hS
  exact Paired.mapP h fun t r z => k _ _ z (ne_of z g1 fun q => nomatch q) (ne_of z g2 fun q => nomatch q)
theorem CAt.kept {H H' : Hp} {S L d ps ph pc : Addr} {sg hp : List Str} {ts : List Addr} {rs : List (List Str)} (c : CAt H d ps ph pc sg hp ts rs) (off : ∀ p ∈ [ps, ph, pc], p ≠ S ∧ p ≠ L) (hS : Two H S L) (k : Kept S L H H') : CAt H' d ps ph pc sg hp ts rs := by
  obtain ⟨⟨_, g1⟩, ⟨_, g2⟩⟩ := id hS
  have o1 := off ps (by simp)
  have o2 := off ph (by simp)
  have o3 := off pc (by simp)
  exact ⟨k _ _ c.d (ne_of c.d g1 fun z => nomatch z) (ne_of c.d g2 fun z => nomatch z), k _ _ c.s o1.1 o1.2, k _ _ c.h o2.1 o2.2, k _ _ c.c o3.1 o3.2, RowsAt.kept c.r hS k⟩
/-- rows as clauses that are handed over, for these names or more -/
theorem handed_rows {K : PySem.W.Frag} {H : Hp} {n0 ns : List Str} (nd : n0.Nodup) (good : ∀ z ∈ n0, Name1 z) (sub : ∀ z ∈ n0, z ∈ ns) : ∀ {ts : List Addr} {rs : List (List Str)}, RowsAt H ts rs → (∀ r ∈ rs, RowOf n0 r) →
    ∃ qss, Paired (Handed K H ns) (ts.map V.ref) qss ∧ rs = qss.map (fun qs => qs.map lit) ∧ ∀ qs ∈ qss, Lits n0 qs
  | [], [], _, _ => ⟨[], .nil, rfl, fun _ h => nomatch h⟩
  | t :: ts, r :: rs, .cons h tl, rows => by
    obtain ⟨qs, hq, rfl⟩ := (rows r List.mem_cons_self).lits nd good
    obtain ⟨qss, h1, h2, h3⟩ := handed_rows nd good sub tl fun x hx => rows x (List.mem_cons_of_mem _ hx)
    refine ⟨qs :: qss, .cons ⟨hq.names sub, false, t, rfl, Sq.tup h⟩ h1, by rw [List.map_cons, h2], fun x hx => ?_⟩
    rcases List.mem_cons.mp hx with rfl | hx
    · exact hq
    · exact h3 x hx
theorem row_id {ns r : List Str} (h : RowOf ns r) : asc ns r = r := by
  obtain ⟨qs, _, rfl⟩ := h
  exact asc_asc
theorem rows_id {ns : List Str} {rs : List (List Str)} {qss : List (List (Bool × Str))} (e : rs = qss.map (fun qs => qs.map lit)) (rows : ∀ r ∈ rs, RowOf ns r) (nd : rs.Nodup) : rowsOf ns qss = rs := by
  unfold rowsOf
  have z : (qss.map fun qs => asc ns (qs.map lit)) = rs := by
    rw [e]
    refine List.map_congr_left fun qs hq => ?_
    exact row_id (rows _ (by rw [e]; exact List.mem_map_of_mem hq))
  rw [z]
  exact fold_id rs [] (by simpa using nd)
section
variable {K : PySem.W.Frag} {C : Addr} {H0 H H' : Hp} {S L d ps ph pc N F : Addr} {sg hp : List Str} {ts : List Addr} {rs : List (List Str)} {vs : List V} {c : Nat}
end
theorem eqv_nilR : ∀ rs : List (List Str), PyData.eqv (.list (rs.map fun r => PyData.tuple (r.map PyData.str))) (.list []) = decide (rs = [])
  | [] => rfl
  | r :: rs => by simp [PyData.eqv, PyData.eqvAll]
theorem paired_right {α β : Type} {R : α → β → Prop} : ∀ {xs : List α} {ys : List β}, Paired R xs ys → ∀ y ∈ ys, ∃ x, R x y
  | [], [], .nil, y, h => nomatch h
  | x :: xs, z :: ys, .cons r t, y, h => by
    rcases List.mem_cons.mp h with e | h
    · exact ⟨x, by rw [e]; exact r⟩
    · exact paired_right t y h
theorem paired_snoc {α β : Type} {R : α → β → Prop} {xs : List α} {ys : List β} {x : α} {y : β} (h : Paired R xs ys) (r : R x y) : Paired R (xs ++ [x]) (ys ++ [y]) := Paired.snoc h r
end K6
namespace K6
open PySem PySem.Spec PyProof.Rows L2 LamX NdefX EV
/-! ### contracts by name -/
def Has (P : Program) (w : World) (K : PySem.W.Frag) (mg : Str → Option Value) (base : Heap) (k : Nat) (x : Str) (ps : List Str) (sp : Sp) : Prop := ∃ f fd, FnOk P w K mg base CX0 k f fd ps sp ∧ mg x = some (.ref f) ∧ PySem.W.keepIn K (.ref f) = true ∧ L2.Binds K fd ps []
def HasG (P : Program) (w : World) (K : PySem.W.Frag) (mg : Str → Option Value) (base : Heap) (k : Nat) (x : Str) (ps : List Str) (sp : Sp) : Prop := ∃ f fd, FnG P w K mg base k f fd ps sp ∧ mg x = some (.ref f) ∧ PySem.W.keepIn K (.ref f) = true ∧ L2.Binds K fd ps []
section
variable {X : Cx} {k : Nat} {x : Str} {ps : List Str} {sp : Sp} {p pos : Pos} {e : Expr} {es : List Expr} {t : TA}
theorem pe_callH (h : Has X.prog X.w X.K X.mg X.base k x ps sp) (hr : Room k X.A) (hg : Gl X x) (ha : PA X (e :: es) t) (hdb : (x == ("__debug__" : Str)) = false := by decide) (he : starEach (e :: es) X.env = (false, eval e X.env) :: starEach es X.env := by rfl) (hpl : (backTo pos (starEach es X.env)).any (·.1) = false := by rfl) :
    PE X (.Call (.Name x p) (e :: es) [] pos) (tCall sp [] E0 t) := by
  obtain ⟨f, fd, F, m, kp, b⟩ := h
  exact pe_call F hr hg m kp b .nil pass0 ha hdb he hpl
theorem pe_callHG (h : HasG X.prog X.w X.K X.mg X.base k x ps sp) (gd : X.A.guards = some []) (hr : Room k X.A) (hg : Gl X x) (ha : PA X (e :: es) t) (hdb : (x == ("__debug__" : Str)) = false := by decide) (he : starEach (e :: es) X.env = (false, eval e X.env) :: starEach es X.env := by rfl) (hpl : (backTo pos (starEach es X.env)).any (·.1) = false := by rfl) :
    PE X (.Call (.Name x p) (e :: es) [] pos) (tCall sp [] E0 t) := by
  obtain ⟨f, fd, F, m, kp, b⟩ := h
  exact pe_callG F gd hr hg m kp b ha hdb he hpl
end
def forBody : Stmt → List Stmt
  | .For _ _ b _ _ => b
  | _ => []
end K6
namespace K6
open PySem PySem.Spec PyProof.Rows L2 LamX NdefX EV
/-! ### what stands in a turn, behind the making of the code -/
theorem Draw1.okC {sg hp : List Str} {rs : List (List Str)} (D : Draw1 sg hp rs) : OkC sg hp rs := by
  have d4 := D.sg4
  have d3 := D.hp3
  have d7 := D.r7
  exact ⟨by rw [List.length_append]; omega, D.nd, D.good, D.row, by omega⟩
theorem StreamAt.same {H H' : Hp} {S L : Addr} {c : Nat} (h : StreamAt H S L c) (sm : Same H H') : StreamAt H' S L c := by
  obtain ⟨ns, x, m, h1, h2, r⟩ := h
  exact ⟨ns, x, m, sm _ _ h1, sm _ _ h2, r⟩
section
variable {K : PySem.W.Frag} {C : Addr} {H H' : Hp} {S L d ps ph pc N x r : Addr} {sg hp : List Str} {ts : List Addr} {rs : List (List Str)} {c : Nat}
end
section
variable {P : Program} {w : World} {K : PySem.W.Frag} {mg : Str → Option Value} {base : Heap} {C : Addr}
variable {f : Addr} {cdv : Value} {A : Around} {outer : List Env} {s0 : Shared} {HH : Hp} {E : XK}
end
end K6
namespace K6
open PySem PySem.Spec PyProof.Rows L2 LamX NdefX EV
/-! ### things of any kind -/
inductive Thing (H : Hp) : V → Prop
  | str {z : Str} (f : Fit z) (l : z.length ≤ 2000) : Thing H (.str z)
  | non : Thing H .non
  | bl (b : Bool) : Thing H (.bl b)
  | five : Thing H (.int 5)
  | tup {a : Addr} {z : Str} (h : H a = some (.tup [.str z])) (f : Fit z) (l : z.length ≤ 2000) : Thing H (.ref a)
  | lst {a : Addr} {zs : List Str} (h : H a = some (.lst (zs.map V.str))) : Thing H (.ref a)
  | dct {a : Addr} (h : H a = some (.dK [])) : Thing H (.ref a)
theorem Thing.frame {H H' : Hp} {v : V} (t : Thing H v) (k : ∀ a, v = .ref a → H' a = H a) : Thing H' v := by
  cases t with
  | str f l => exact .str f l
  | non => exact .non
  | bl b => exact .bl b
  | five => exact .five
  | tup h f l => exact .tup ((k _ rfl).trans h) f l
  | lst h => exact .lst ((k _ rfl).trans h)
  | dct h => exact .dct ((k _ rfl).trans h)
theorem Thing.at_ {H : Hp} {a : Addr} (t : Thing H (.ref a)) : ∃ o, H a = some o := by
  cases t with
  | tup h f l => exact ⟨_, h⟩
  | lst h => exact ⟨_, h⟩
  | dct h => exact ⟨_, h⟩
theorem Thing.same {H H' : Hp} {v : V} (t : Thing H v) (sm : Same H H') : Thing H' v := t.frame fun a e => by
  subst e
  obtain ⟨o, h⟩ := t.at_
  rw [h, sm _ _ h]
/-- its address, if there is one, was free -/
def New (H : Hp) (v : V) : Prop := ∀ a, v = .ref a → H a = none
theorem Thing.kept {H0 H H' : Hp} {S L : Addr} {v : V} (t : Thing H v) (n : New H0 v) (two : Two H0 S L) (k : Kept S L H H') : Thing H' v := t.frame fun a e => by
  subst e
  obtain ⟨o, h⟩ := t.at_
  obtain ⟨⟨_, g1⟩, ⟨_, g2⟩⟩ := two
  have nn := n a rfl
  rw [h, k _ _ h (fun q => by rw [q, g1] at nn; cases nn) (fun q => by rw [q, g2] at nn; cases nn)]
theorem Thing.put {H0 H : Hp} {D : Addr} {o u : HO} {v : V} (t : Thing H v) (n : New H0 v) (hD : H0 D = some u) : Thing (upd H D o) v := t.frame fun a e => by
  have nn := n a e
  exact upd_ne fun q => by rw [q, hD] at nn; cases nn
theorem New.str {H : Hp} {z : Str} : New H (.str z) := fun _ e => nomatch e
theorem New.kept {H0 H : Hp} {S L : Addr} {v : V} (n : New H v) (k : Kept S L H0 H) (two : Two H S L) : New H0 v := fun a e => by
  obtain ⟨⟨_, g1⟩, ⟨_, g2⟩⟩ := two
  have nn := n a e
  exact k.none nn (fun q => by rw [q, g1] at nn; cases nn) (fun q => by rw [q, g2] at nn; cases nn)
theorem New.same {H0 H : Hp} {v : V} (n : New H v) (k : Same H0 H) : New H0 v := fun a e => k.free (n a e)
/-- no text -/
def NoS (v : V) : Prop := ∀ z, v ≠ .str z
theorem Thing.noStr {K : PySem.W.Frag} {H : Hp} {v : V} (t : Thing H v) (n : NoS v) : ∃ t, (∀ H', Same H H' → TyX K H' v t) ∧ PySem.W.kitOne K t (.type "str") = some false := by
  cases t with
  | str f l => exact (n _ rfl).elim
  | non => exact ⟨_, fun _ _ => .base .non, kit_ty (by decide +kernel)⟩
  | bl b => exact ⟨_, fun _ _ => .base (.bl b), kit_ty (by decide +kernel)⟩
  | five => exact ⟨_, fun _ _ => .base (.int 5), kit_ty (by decide +kernel)⟩
  | tup h f l => exact ⟨_, fun _ sm => .base (.tup (sm _ _ h)), kit_ty (by decide +kernel)⟩
  | lst h => exact ⟨_, fun _ sm => .base (.lst (sm _ _ h)), kit_ty (by decide +kernel)⟩
  | dct h => exact ⟨_, fun _ sm => .base (.dK (sm _ _ h)), kit_ty (by decide +kernel)⟩
theorem fit_of {z : Str} (h : z.cps.toList.all (fun c => decide (c < 128)) = true) : Fit z := fun ch hc => by
  have := List.all_eq_true.mp h ch hc
  simpa using this
/-- a written text -/
theorem Thing.word {H : Hp} (z : Str) (h : z.cps.toList.all (fun c => decide (c < 128)) = true) (l : z.length ≤ 2000) : Thing H (.str z) := .str (fit_of h) l
theorem Thing.strs {H : Hp} {z : Str} (t : Thing H (.str z)) : Fit z ∧ z.length ≤ 2000 := by
  cases t with
  | str f l => exact ⟨f, l⟩
theorem v_cases (v : V) : NoS v ∨ ∃ z, v = .str z := by
  cases v with
  | str z => exact .inr ⟨z, rfl⟩
  | _ => exact .inl fun z q => nomatch q
/-! ### names that are looked through -/
inductive BadN (ns : List Str) : V → Prop
  | odd {x : V} (h : NoS x) : BadN ns x
  | no {z : Str} (h : ¬ Name1 z) : BadN ns (.str z)
  | twice {z : Str} (g : Name1 z) (h : z ∈ ns) : BadN ns (.str z)
inductive CutN : Option Nat → List V → Prop
  | ok {ns : List Str} (nd : ns.Nodup) (good : ∀ z ∈ ns, Name1 z) : CutN none (ns.map V.str)
  | bad {ns : List Str} {x : V} {rest : List V} (nd : ns.Nodup) (good : ∀ z ∈ ns, Name1 z) (b : BadN ns x) : CutN (some ns.length) (ns.map V.str ++ x :: rest)
theorem cutN_ex : ∀ (rest : List V) (ns : List Str), ns.Nodup → (∀ z ∈ ns, Name1 z) → ∃ o, CutN o (ns.map V.str ++ rest)
  | [], ns, nd, good => ⟨none, by rw [List.append_nil]; exact .ok nd good⟩
  | x :: rest, ns, nd, good => by
    rcases v_cases x with h | ⟨z, rfl⟩
    · exact ⟨_, .bad nd good (.odd h)⟩
    · rcases Classical.em (Name1 z) with g | g
      · by_cases m : z ∈ ns
        · exact ⟨_, .bad nd good (.twice g m)⟩
        · have nd2 : (ns ++ [z]).Nodup := List.nodup_append.mpr ⟨nd, by simp, fun a ha b hb e => m (by rw [← List.mem_singleton.mp hb, ← e]; exact ha)⟩
          obtain ⟨o, c⟩ := cutN_ex rest (ns ++ [z]) nd2 fun y hy => (List.mem_append.mp hy).elim (good y) fun q => by rw [List.mem_singleton.mp q]; exact g
          rw [List.map_append, List.append_assoc] at c
          exact ⟨o, c⟩
      · exact ⟨_, .bad nd good (.no g)⟩
theorem cutN (xs : List V) : ∃ o, CutN o xs := cutN_ex xs [] List.nodup_nil fun z h => nomatch h
/-! ### literals that are looked through -/
inductive BadQ (ns : List Str) (qs : List (Bool × Str)) : V → Prop
  | odd {x : V} (h : NoS x) : BadQ ns qs x
  | far {z : Str} (h : z ∉ lits ns) : BadQ ns qs (.str z)
  | twice {q : Bool × Str} (h : q.2 ∈ ns) (h2 : q.2 ∈ qs.map Prod.snd) : BadQ ns qs (.str (lit q))
inductive Cut (ns : List Str) : Option Nat → List V → Prop
  | ok {qs : List (Bool × Str)} (h : Lits ns qs) : Cut ns none ((qs.map lit).map V.str)
  | bad {qs : List (Bool × Str)} {x : V} {rest : List V} (h : Lits ns qs) (b : BadQ ns qs x) : Cut ns (some qs.length) ((qs.map lit).map V.str ++ x :: rest)
theorem lits_lit {ns : List Str} {z : Str} (h : z ∈ lits ns) : ∃ q : Bool × Str, q.2 ∈ ns ∧ lit q = z := by
  obtain ⟨n, hn, e⟩ := List.mem_flatMap.mp h
  rcases List.mem_cons.mp e with e | e
  · exact ⟨(false, n), hn, e.symm⟩
  · exact ⟨(true, n), hn, (List.mem_singleton.mp e).symm⟩
theorem cut_ex (ns : List Str) : ∀ (rest : List V) (qs : List (Bool × Str)), Lits ns qs → ∃ o, Cut ns o ((qs.map lit).map V.str ++ rest)
  | [], qs, h => ⟨none, by rw [List.append_nil]; exact .ok h⟩
  | x :: rest, qs, h => by
    rcases v_cases x with n | ⟨z, rfl⟩
    · exact ⟨_, .bad h (.odd n)⟩
    · by_cases m : z ∈ lits ns
      · obtain ⟨q, hq, rfl⟩ := lits_lit m
        by_cases m2 : q.2 ∈ qs.map Prod.snd
        · exact ⟨_, .bad h (.twice hq m2)⟩
        · have h2 : Lits ns (qs ++ [q]) := ⟨by rw [List.map_append]; exact List.nodup_append.mpr ⟨h.nd, by simp, fun a ha b hb e => m2 (by rw [List.map_singleton] at hb; rw [← List.mem_singleton.mp hb, ← e]; exact ha)⟩,
            fun y hy => (List.mem_append.mp hy).elim (h.sub y) fun w => by rw [List.mem_singleton.mp w]; exact hq⟩
          obtain ⟨o, c⟩ := cut_ex ns rest (qs ++ [q]) h2
          rw [List.map_append, List.map_append, List.append_assoc] at c
          exact ⟨o, c⟩
      · exact ⟨_, .bad h (.far m)⟩
theorem cut_of (ns : List Str) (xs : List V) : ∃ o, Cut ns o xs := cut_ex ns xs [] ⟨List.nodup_nil, fun q h => nomatch h⟩
/-- as the program's rules put it -/
theorem BadQ.badV {K : PySem.W.Frag} {H : Hp} {ns : List Str} {qs : List (Bool × Str)} {x : V} (b : BadQ ns qs x) (t : Thing H x) : BadV K H ns qs x := by
  cases b with
  | odd h =>
    obtain ⟨ty, h1, h2⟩ := t.noStr (K := K) h
    exact .odd ty h1 h2
  | far h => exact .far h
  | twice h h2 => exact .twice h h2
/-! ### what stands in a list of settings -/
inductive ItemAt (H : Hp) : V → Option (List V) → Prop
  | lst {p : Addr} {xs : List V} (h : H p = some (.lst xs)) (t : ∀ x ∈ xs, Thing H x) (few : xs.length ≤ 20) : ItemAt H (.ref p) (some xs)
  | tup {p : Addr} {xs : List V} (h : H p = some (.tup xs)) (t : ∀ x ∈ xs, Thing H x) (few : xs.length ≤ 20) : ItemAt H (.ref p) (some xs)
  | non : ItemAt H .non none
  | five : ItemAt H (.int 5) none
  | bl (b : Bool) : ItemAt H (.bl b) none
  | str {z : Str} : ItemAt H (.str z) none
  | dct {a : Addr} (h : H a = some (.dK [])) : ItemAt H (.ref a) none
theorem ItemAt.frame {H H' : Hp} {v : V} {io : Option (List V)} (i : ItemAt H v io) (k : ∀ a, v = .ref a → H' a = H a) (k2 : ∀ xs, io = some xs → ∀ x ∈ xs, Thing H x → Thing H' x) : ItemAt H' v io := by
  cases i with
  | lst h t few => exact .lst ((k _ rfl).trans h) (fun x hx => k2 _ rfl x hx (t x hx)) few
  | tup h t few => exact .tup ((k _ rfl).trans h) (fun x hx => k2 _ rfl x hx (t x hx)) few
  | non => exact .non
  | five => exact .five
  | bl b => exact .bl b
  | str => exact .str
  | dct h => exact .dct ((k _ rfl).trans h)
theorem ItemAt.at_ {H : Hp} {a : Addr} {io : Option (List V)} (i : ItemAt H (.ref a) io) : ∃ o, H a = some o := by
  cases i with
  | lst h t few => exact ⟨_, h⟩
  | tup h t few => exact ⟨_, h⟩
  | dct h => exact ⟨_, h⟩
theorem ItemAt.same {H H' : Hp} {v : V} {io : Option (List V)} (i : ItemAt H v io) (sm : Same H H') : ItemAt H' v io := i.frame (fun a e => by
  subst e
  obtain ⟨o, h⟩ := i.at_
  rw [h, sm _ _ h]) fun xs e x hx t => t.same sm
end K6
namespace K6
open PySem PySem.Spec PyProof.Rows L2 LamX NdefX EV
/-! ### is a thing a name, asked of any thing -/
theorem all_letters : ∀ ch ∈ letters.cps.toList, 97 ≤ ch ∧ ch ≤ 122 := by decide
def goodB (z : Str) : Bool := (z.cps.toList.map fun ch => decide (ch ∈ letters.cps.toList)).all id
theorem goodB_iff {z : Str} (h1 : 1 ≤ z.length) (h2 : z.length ≤ 8) : goodB z = true ↔ Name1 z := by
  unfold goodB
  rw [List.all_map]
  refine ⟨fun h => ⟨h1, h2, fun ch hc => ?_⟩, fun h => List.all_eq_true.mpr fun ch hc => ?_⟩
  · have z := List.all_eq_true.mp h ch hc
    exact all_letters ch (by simpa using z)
  · show decide (ch ∈ letters.cps.toList) = true
    exact decide_eq_true (in_letters (h.2.2 ch hc))
def spNameX : Sp := fun vs H Q _ => ∃ v : V, vs = [v] ∧ Thing H v ∧ ∀ (b : Bool) H', Same H H' → (b = true ↔ ∃ z, v = .str z ∧ Name1 z) → Q (.bl b) H'
theorem noS_name {v : V} (h : NoS v) : (false = true ↔ ∃ z, v = .str z ∧ Name1 z) := ⟨(fun e => nomatch e), fun ⟨z, e, _⟩ => (h z e).elim⟩
theorem str_name {z : Str} {b : Bool} (h : b = true ↔ Name1 z) : (b = true ↔ ∃ y, V.str z = .str y ∧ Name1 y) := by
  refine h.trans ⟨fun g => ⟨z, rfl, g⟩, fun ⟨y, e, g⟩ => ?_⟩
  injection e with e
  exact e ▸ g
section
variable {P : Program} {w : World} {K : PySem.W.Frag} {mg : Str → Option Value} {base : Heap} {f fI : Addr} {fd fdI : FuncData}
theorem ok_isNameX (F : Fun K "is_name" "is_name" sIsName f fd) (mi : mg "isinstance" = none) (ms : mg "str" = none) (ml : mg "len" = none) (ma : mg "all" = none) (mL : ∃ t, mg "LETTERS" = some (.str letters t)) (mM : ∃ t, mg "MOST_LETTERS" = some (.int 8 t)) :
    FnOk P w K mg base CX0 1 f fd ["thing"] spNameX := by
  obtain ⟨tL, mL⟩ := mL
  obtain ⟨tM, mM⟩ := mM
  refine F.ok scIsName (fun vs H Q E h => ?_) (fun cdv A outer s H vs Q E hr h => ?_)
  · obtain ⟨z, rfl, _⟩ := h
    rfl
  · obtain ⟨v, rfl, th, k⟩ := h
    refine ⟨_, pss_cons (ps_if (PW.pt (pw_or (pt_not (pt_val (pe_callB call_isi (by rfl) mi (by decide +kernel) (pa_cons (pv 0) (pa_cons (pe_bltn (v := .ty "str") (by rfl) ms (by decide +kernel) rfl) pa_nil))))) (pw_or1 (pt_not (pt_chain op_le op_le pe_int (pe_callB call_len (by rfl) ml PySem.boot_len (pa_cons (pv 0) pa_nil)) (pe_glob (v := .int 8) (by rfl) mM ⟨_, rfl⟩))))))
        (pss_one (ps_ret pe_bl)) pss_nil)
      (pss_one (ps_ret (pe_callB (cr_all rfl) (by rfl) ma (by decide +kernel) (pa_cons (pe_lc (own := [("letter", 1)]) (g := gName 1) (tt := tYes) rfl scIsName.nd (pi_str (pv 0)) (blkOk_by (N := nIsName) (sc := defScope sIsName) (by decide +kernel))
          (fun _ _ _ _ _ => pg_name (i := 1) scIsName.nd rfl (.inl rfl)) (fun _ _ _ _ _ => pts_nil) (fun _ _ _ _ _ => pe_cmpR op_in_sign (pv 1) (pe_glob (v := .str letters) (by rfl) mL ⟨_, rfl⟩) rfl)) pa_nil)))), ?_⟩
    rcases v_cases v with ns | ⟨z, rfl⟩
    · obtain ⟨t, ty, kit⟩ := th.noStr (K := K) ns
      exact ⟨_, rfl, _, _, _, _, false, rfl, .ty "str", ty H (Same.refl H), kit, _, rfl, iteT (k false H (Same.refl H) (noS_name ns))⟩
    obtain ⟨fit, l40⟩ := th.strs
    have lz : z.length ≤ sizeLine := by rw [sizeLine_eq]; omega
    refine ⟨_, rfl, _, _, _, _, true, rfl, .ty "str", .base (.str z), kit_ty (by decide +kernel), _, rfl, ?_⟩
    refine iteF ⟨_, rfl, _, z.length, rfl, ⟨lz, rfl⟩, ?_⟩
    refine ⟨_, _, rfl, rfl, _, rfl, ?_⟩
    by_cases c1 : (1 : Int) ≤ ((z.length : Nat) : Int)
    case neg =>
      rw [decide_eq_false c1]
      have no : false = true ↔ Name1 z := ⟨(fun e => nomatch e), fun g => (c1 (by have := g.1; omega)).elim⟩
      exact iteF ⟨_, rfl, iteT (k false H (Same.refl H) (str_name no))⟩
    rw [decide_eq_true c1]
    refine iteT ⟨_, _, rfl, rfl, _, rfl, ?_⟩
    by_cases c2 : ((z.length : Nat) : Int) ≤ 8
    case neg =>
      rw [decide_eq_false c2]
      exact iteT (k false H (Same.refl H) (str_name ⟨(fun e => nomatch e), fun g => (c2 (by have := g.2.1; omega)).elim⟩))
    rw [decide_eq_true c2]
    refine iteF ⟨_, rfl, z, rfl, fun D hD => lc_it walk_str (fun i H2 => Same H H2 ∧ H2 D = some (.lst (((z.cps.toList.take i).map fun ch => decide (ch ∈ letters.cps.toList)).map V.bl))) ⟨same_new hD, upd_same⟩ (fun _ _ _ _ => trivial) ?_ ?_⟩
    · rintro i x H2 H3 hi ⟨sm, hD2⟩ ⟨rfl, ch, hch, rfl⟩
      have hch2 : z.cps.toList[i]? = some ch := by rw [Array.getElem?_toList]; exact hch
      refine ⟨rfl, _, rfl, ch, letters, rfl, rfl, _, hD2, by rw [List.length_map, List.length_map, List.length_take, sizeLine_eq]; have : z.cps.toList.length = z.length := Array.length_toList; omega, fun b o e => (upd_ne (ne_of_none e hD)).trans (sm b o e), ?_⟩
      rw [upd_same, List.take_succ, hch2, List.map_append, List.map_append]
      rfl
    · rintro H2 ⟨sm, hD2⟩
      refine ⟨D, _, rfl, SqL.of hD2, ?_⟩
      have e : z.cps.toList.take z.cps.size = z.cps.toList := List.take_of_length_le (by rw [Array.length_toList]; exact Nat.le_refl _)
      rw [e]
      exact k _ H2 sm (str_name (goodB_iff (by omega) (by omega)))
end
end K6
namespace K6
open PySem PySem.Spec PyProof.Rows L2 LamX NdefX EV
def oV : Option Nat → V
  | none => .non
  | some i => .int (i : Int)
theorem CutN.split {o : Option Nat} {xs : List V} (c : CutN o xs) : ∃ (ns : List Str) (tail : List V), ns.Nodup ∧ (∀ z ∈ ns, Name1 z) ∧ xs = ns.map V.str ++ tail ∧ (tail = [] → o = none) ∧ ∀ x rest, tail = x :: rest → o = some ns.length ∧ BadN ns x := by
  cases c with
  | @ok ns nd good => exact ⟨ns, [], nd, good, (List.append_nil _).symm, fun _ => rfl, fun _ _ e => nomatch e⟩
  | @bad ns x rest nd good b => exact ⟨ns, x :: rest, nd, good, rfl, (fun e => nomatch e), fun y r e => by injection e with e1 _; exact ⟨rfl, e1 ▸ b⟩⟩
theorem tail_at {α : Type} {ys tail : List α} {i : Nat} {v : α} (hi : ¬ i < ys.length) (ile : i ≤ ys.length) (h : (ys ++ tail)[i]? = some v) : i = ys.length ∧ ∃ rest, tail = v :: rest := by
  have e : i = ys.length := by omega
  refine ⟨e, ?_⟩
  rw [List.getElem?_append_right (by omega), e, Nat.sub_self] at h
  cases tail with
  | nil => cases h
  | cons y s => exact ⟨s, by rw [← Option.some.inj h]⟩
/-! ### errors of own classes: what is told -/
structure XT (K : PySem.W.Frag) (mg : Str → Option Value) (x fld : Str) (C fI : Addr) : Prop where
  ox : OexC K C
  xf : XfC K C
  ini : PySem.W.findIn K (.ref C) "__init__" = some (some (.ref fI))
  ty : PySem.W.typeIn K (.ref fI) = some (.type "function")
  n : PySem.W.findIn K (.ref C) fld = some none
  g : mg x = some (.ref C)
structure OT (K : PySem.W.Frag) (mg : Str → Option Value) (O : Addr) : Prop where
  r : ClX.CRead K O (.type "type")
  v : PySem.W.findCls K (.ref O) (.type "type") "__init__" = some (.val (.builtin "ValueError.__init__"))
  g : mg "OpenError" = some (.ref O)
def spI1 (K : PySem.W.Frag) (f : Str) : Sp := fun vs H Q _ => ∃ (a C : Addr) (x : V), vs = [.ref a, x] ∧ OexC K C ∧ PySem.W.findIn K (.ref C) f = some none ∧ H a = some (exo a C none) ∧
  ∀ dx, H dx = none → dx ≠ a → Q .non (upd (upd H dx (exd dx [(f, x)])) a (exo a C (some dx)))
/-- the way out: an error of C with this field -/
def Told (C : Addr) (fld : Str) (x : V) (H : Hp) (E : XK) : Prop := ∀ (d : Addr) (H' : Hp), H' d = some (.xd [(fld, x)]) → Same H H' → E (.ref C) (some d) H'
theorem Told.of {C : Addr} {fld : Str} {x : V} {H H' : Hp} {E : XK} (t : Told C fld x H E) (sm : Same H H') : Told C fld x H' E := fun d H2 h s2 => t d H2 h (sm.trans s2)
/-- what the making of the error leaves -/
theorem way_same {H : Hp} {a dx : Addr} {o1 o2 o3 o4 : HO} (ha : H a = none) (hdx : upd H a o1 dx = none) (nda : dx ≠ a) : Same H (upd (del (upd (upd (upd H a o1) dx o2) a o3) a) dx o4) := fun z o h => by
  have na : z ≠ a := ne_of_none h ha
  have nd : z ≠ dx := ne_of_none h ((upd_ne nda).symm.trans hdx)
  rw [upd_ne nd, del_ne na, upd_ne na, upd_ne nd, upd_ne na]
  exact h
theorem funE_okX {P : Program} {w : World} {K : PySem.W.Frag} {mg : Str → Option Value} {base : Heap} {x q : Str} {st : Stmt} {f A0 : Addr} {fd : FuncData} {N ps : List Str} {k : Nat} {sp : Sp} (F : FunE K x q st f fd A0) (S : FnScope N ps (defScope st)) (len : ∀ vs H Q E, sp vs H Q E → vs.length = ps.length)
    (b : ∀ (cdv : Value) (A : Around) (outer : List Env) (s : Shared) (H : Hp) (vs : List V) (Q : VK) (E : XK), Room k (A.deeper (envOfC q (defScope st) s.heap.objs.size f cdv)) → sp vs H Q E →
      ∃ t, PSs (cxOf (L2.CX P w) P w K mg base N q (defScope st) f cdv A outer s H E) (defBody st) t ∧ t { nx := fun _ H' => Q .non H', rt := Q } (L2.start N vs) H) : FnOk P w K mg base (L2.CX P w) (k + 1) f fd ps sp := by
  obtain ⟨oc, od, dV, kV, doc, pm, an, cdv, ct, osl, rfl, lk, hcd, _⟩ := F.fn.ex
  exact fn_of lk hcd S len fun A outer s H vs Q E hr hsp => b cdv A outer s H vs Q E hr hsp
section
variable {P : Program} {w : World} {K : PySem.W.Frag} {mg : Str → Option Value} {base : Heap} {f fI fJ O C : Addr} {fd fdI fdJ : FuncData}
abbrev sIB : Stmt := inClass (top 4) 0
theorem scIB : FnScope ["self", "index"] ["self", "index"] (defScope sIB) := ⟨rfl, rfl, rfl, by decide +kernel, rfl, by decide +kernel, by decide +kernel⟩
theorem ok_iB (F : Fun K "__init__" "BadSetting.__init__" sIB f fd) (T : OT K mg O) : FnOk P w K mg base CX0 1 f fd ["self", "index"] (spI1 K "index") := by
  refine F.ok scIB (fun vs H Q E h => ?_) (fun cdv A outer s H vs Q E hr h => ?_)
  · obtain ⟨a, C, x, rfl, _⟩ := h
    rfl
  · obtain ⟨a, C, x, rfl, X0, n1, ha, k⟩ := h
    refine ⟨_, pss_cons (ps_expr (pe_binit T.r T.v (by rfl) T.g (pa_cons (pv 0) (pa_cons pe_str pa_nil)))) (pss_one (ps_ost (pv 0) (pv 1))), _, rfl, a, C, _, rfl, (by show 1 ≤ 1000; decide), X0, ha, ?_⟩
    exact ⟨_, rfl, _, rfl, a, C, rfl, X0, n1, .inl ⟨ha, k⟩⟩
end
end K6
namespace K6
open PySem PySem.Spec PyProof.Rows L2 LamX NdefX EV
/-! ### the name of any text -/
def bareS (z : Str) : Str := if cutS z none (some 1) = Str.ofString "-" then cutS z (some 1) none else z
theorem cut_one (z : Str) : cutS z none (some 1) = Str.mk ((z.cps.toList.take 1).toArray) := by
  unfold cutS
  rw [HT.sIx_none, show HT.sIx z.length z.length (some 1) = min 1 z.length from HT.sIx_nat _ _ 1, List.drop_zero, Nat.sub_zero]
  by_cases h : 1 ≤ z.length
  · rw [Nat.min_eq_left h]
  · have e : z.cps.toList = [] := List.eq_nil_of_length_eq_zero (by have : z.cps.toList.length = z.length := Array.length_toList; omega)
    rw [e]
    simp
theorem dash_neg {z : Str} (h : cutS z none (some 1) = Str.ofString "-") : ∃ n, z = neg n := by
  rw [cut_one] at h
  have h2 := congrArg (fun s : Str => s.cps.toList) h
  replace h2 : ((z.cps.toList.take 1).toArray).toList = [45] := h2
  rw [List.toList_toArray] at h2
  cases e : z.cps.toList with
  | nil => rw [e] at h2; cases h2
  | cons c t =>
    rw [e] at h2
    have c45 : c = 45 := by simpa using h2
    refine ⟨⟨t.toArray⟩, ?_⟩
    have : z.cps = (neg ⟨t.toArray⟩).cps := by
      apply Array.toList_inj.mp
      rw [neg_list, e, c45]
    cases z
    exact congrArg Str.mk this
theorem dash_lit {q : Bool × Str} (g : Name1 q.2) : cutS (lit q) none (some 1) = Str.ofString "-" ↔ q.1 = true := by
  obtain ⟨b, n⟩ := q
  cases b
  · refine ⟨fun h => ?_, fun h => nomatch h⟩
    obtain ⟨m, e⟩ := dash_neg h
    have e : n = neg m := e
    have z := g.2.2 45 (by show 45 ∈ n.cps.toList; rw [e, neg_list]; exact List.mem_cons_self)
    omega
  · refine ⟨fun _ => rfl, fun _ => ?_⟩
    rw [cut_one, show lit (true, n) = neg n from rfl, neg_list]
    rfl
theorem bareS_lit {q : Bool × Str} (g : Name1 q.2) : bareS (lit q) = q.2 := by
  obtain ⟨b, n⟩ := q
  unfold bareS
  cases b
  · rw [if_neg fun h => Bool.noConfusion ((dash_lit g).mp h)]
    rfl
  · rw [if_pos ((dash_lit (q := (true, n)) g).mpr rfl)]
    exact cut_neg n
theorem bareS_far {ns : List Str} {z : Str} (h : z ∉ lits ns) : bareS z ∉ ns := fun m => by
  unfold bareS at m
  by_cases c : cutS z none (some 1) = Str.ofString "-"
  · rw [if_pos c] at m
    obtain ⟨n, rfl⟩ := dash_neg c
    rw [cut_neg] at m
    exact h (lit_mem (q := (true, n)) m)
  · rw [if_neg c] at m
    exact h (lit_mem (q := (false, z)) m)
theorem Cut.split {ns : List Str} {o : Option Nat} {xs : List V} (c : Cut ns o xs) : ∃ (qs : List (Bool × Str)) (tail : List V), Lits ns qs ∧ xs = (qs.map lit).map V.str ++ tail ∧ (tail = [] → o = none) ∧ ∀ x rest, tail = x :: rest → o = some qs.length ∧ BadQ ns qs x := by
  cases c with
  | @ok qs h => exact ⟨qs, [], h, (List.append_nil _).symm, fun _ => rfl, fun _ _ e => nomatch e⟩
  | @bad qs x rest h b => exact ⟨qs, x :: rest, h, rfl, (fun e => nomatch e), fun y r e => by injection e with e1 _; exact ⟨rfl, e1 ▸ b⟩⟩
theorem Lits.few {ns : List Str} {qs : List (Bool × Str)} (h : Lits ns qs) : qs.length ≤ ns.length := by
  have z := nodup_le (qs.map Prod.snd) ns h.nd fun n hn => by
    obtain ⟨q, hq', rfl⟩ := List.mem_map.mp hn
    exact h.sub q hq'
  rwa [List.length_map] at z
/-- the answer: where a thing is no half-filled setting -/
def CutI (ns : List Str) : Option (List V) → Option Nat → Prop
  | none, o => o = some 0
  | some xs, o => Cut ns o xs
theorem cutI (ns : List Str) (io : Option (List V)) : ∃ o, CutI ns io o := by
  cases io with
  | none => exact ⟨_, rfl⟩
  | some xs => exact cut_of ns xs
theorem ItemAt.kit {K : PySem.W.Frag} {H : Hp} {v : V} {io : Option (List V)} (h : ItemAt H v io) : ∃ t, (∀ H', Same H H' → TyX K H' v t) ∧ PySem.W.kitAny K t [.type "list", .type "tuple"] = some io.isSome := by
  have no : ∀ {a : String}, kitB a "list" = some false → kitB a "tuple" = some false → PySem.W.kitAny K (.type a) [.type "list", .type "tuple"] = some false := fun h1 h2 =>
    kitAny_cons (b := false) (kit_ty h1) (fun _ => kitAny_cons (b := false) (kit_ty h2) (fun _ => rfl) fun z => nomatch z) (fun z => nomatch z)
  cases h with
  | lst h t few => exact ⟨.type "list", fun _ sm => .base (.lst (sm _ _ h)), kit_seq true⟩
  | tup h t few => exact ⟨.type "tuple", fun _ sm => .base (.tup (sm _ _ h)), kit_seq false⟩
  | non => exact ⟨_, fun _ _ => .base .non, no (by decide +kernel) (by decide +kernel)⟩
  | five => exact ⟨_, fun _ _ => .base (.int 5), no (by decide +kernel) (by decide +kernel)⟩
  | bl b => exact ⟨_, fun _ _ => .base (.bl b), no (by decide +kernel) (by decide +kernel)⟩
  | str => exact ⟨_, fun _ _ => .base (.str _), no (by decide +kernel) (by decide +kernel)⟩
  | dct h => exact ⟨_, fun _ sm => .base (.dK (sm _ _ h)), no (by decide +kernel) (by decide +kernel)⟩
theorem ItemAt.seq {K : PySem.W.Frag} {H : Hp} {v : V} {xs : List V} (h : ItemAt H v (some xs)) : ∃ (A : Addr) (b : Bool), v = .ref A ∧ (∀ H', Same H H' → Sq K b H' A xs) ∧ (∀ x ∈ xs, Thing H x) ∧ xs.length ≤ 20 := by
  cases h with
  | lst h t few => exact ⟨_, true, rfl, fun _ sm => SqL.of (sm _ _ h), t, few⟩
  | tup h t few => exact ⟨_, false, rfl, fun _ sm => Sq.tup (sm _ _ h), t, few⟩
def spWrongX (K : PySem.W.Frag) : Sp := fun vs H Q _ => ∃ (PL A : Addr) (b : Bool) (ns : List Str) (xs : List V) (o : Option Nat), vs = [.ref PL, .ref A] ∧ H PL = some (.dK (plc ns)) ∧ (∀ H', Same H H' → Sq K b H' A xs) ∧ ns.length ≤ 60 ∧ ns.Nodup ∧ (∀ z ∈ ns, Name1 z) ∧ (∀ x ∈ xs, Thing H x) ∧ Cut ns o xs ∧ ∀ H', Same H H' → Q (oV o) H'
section
variable {P : Program} {w : World} {K : PySem.W.Frag} {mg : Str → Option Value} {base : Heap} {f fN : Addr} {fd fdN : FuncData}
theorem ok_wrongX (F : Fun K "first_wrong" "first_wrong" sWrong f fd) (GN : FnOk P w K mg base CX0 1 fN fdN ["literal"] spNameOf) (mN : mg "name_of" = some (.ref fN)) (kN : PySem.W.keepIn K (.ref fN) = true) (bN : L2.Binds K fdN ["literal"] []) (me : mg "enumerate" = none) (mi : mg "isinstance" = none) (ms : mg "str" = none) :
    FnOk P w K mg base CX0 2 f fd ["places", "things"] (spWrongX K) := by
  refine F.ok scWrong (fun vs H Q E h => ?_) (fun cdv A' outer s H vs Q E hr h => ?_)
  · obtain ⟨PL, A, b, ns, xs, r, rfl, _⟩ := h
    rfl
  · obtain ⟨PL, A, b, ns, xs, r, rfl, hPL, hA', hn, nd, good, th, cut, k⟩ := h
    have hu := hu_of hr
    refine ⟨_, pss_cons (ps_set (i := 2) scWrong.nd rfl (.inl rfl) pe_dnewK)
      (pss_cons (ps_for PassesOwn.never rfl (pi_enumB (by rfl) me (pa_cons (pv 1) pa_nil)) (pg_tup rfl (pgs_cons (pg_name (i := 3) scWrong.nd rfl (.inl rfl)) (pgs_cons (pg_name (i := 4) scWrong.nd rfl (.inl rfl)) pgs_nil)))
        (pss_cons (ps_if (PW.pt (pw_or (pt_not (pt_val (pe_callB call_isi (by rfl) mi (by decide +kernel) (pa_cons (pv 4) (pa_cons (pe_bltn (v := .ty "str") (by rfl) ms (by decide +kernel) rfl) pa_nil))))) (pw_or (pt_cmp (pc_dnotin hu (pv 4) (pv 0))) (pw_or1 (pt_cmp (pc_din hu (pe_call GN hr (by rfl) mN kN bN .nil pass0 (pa_cons (pv 4) pa_nil)) (pv 2))))))) (pss_one (ps_ret (pv 3))) pss_nil)
        (pss_one (ps_dput hu (pv 2) (pe_call GN hr (by rfl) mN kN bN .nil pass0 (pa_cons (pv 4) pa_nil)) pe_bl rfl))))
      (pss_one (ps_ret pe_non))), ?_⟩
    obtain ⟨qs, tail, hq, rfl, h1, h2⟩ := cut.split
    have few := hq.few
    have ll : ((qs.map lit).map V.str).length = qs.length := by rw [List.length_map, List.length_map]
    refine fun d hd => ⟨_, rfl, b, A, _, rfl, hA' _ (same_new hd), for_it walk_enumB (fun i σ H2 => ∃ o3 o4, σ = [some (.ref PL), some (.ref A), some (.ref d), o3, o4] ∧ i ≤ qs.length ∧ Same H H2 ∧ H2 d = some (.dK (((qs.map Prod.snd).take i).map seenKv))) ⟨_, _, rfl, Nat.zero_le _, same_new hd, upd_same⟩ (fun i σ H2 _ ⟨_, _, _, _, sm, _⟩ => hA' _ sm) ?_ ?_⟩
    · rintro i x σ H2 H3 hi ⟨o3, o4, rfl, ile, sm, hd2⟩ ⟨t, v1, v2, rfl, ht, rfl, hv1, hv2⟩
      obtain rfl := Option.some.inj hv1
      replace hv2 : ((qs.map lit).map V.str ++ tail)[i]? = some v2 := hv2
      have hd3 := (upd_ne (o := .tup [.int (i : Nat), v2]) (ne_of_none hd2 ht)).trans hd2
      have sm3 : Same H (upd H2 t (.tup [.int (i : Nat), v2])) := sm.trans (same_new ht)
      have hPL3 := sm3 _ _ hPL
      have tv : Thing (upd H2 t (.tup [.int (i : Nat), v2])) v2 := (th v2 (List.mem_of_getElem? hv2)).same sm3
      refine ⟨t, _, rfl, SqT.of upd_same, rfl, _, _, rfl, _, _, rfl, rfl, _, rfl, ?_⟩
      generalize upd H2 t (.tup [.int (i : Nat), v2]) = H4 at *
      by_cases ilt : i < qs.length
      · obtain ⟨q, hqi⟩ : ∃ q, qs[i]? = some q := ⟨_, List.getElem?_eq_getElem ilt⟩
        have ev : v2 = .str (lit q) := by
          rw [List.getElem?_append_left (by rw [ll]; exact ilt), List.getElem?_map, List.getElem?_map, hqi] at hv2
          exact (Option.some.inj hv2).symm
        subst ev
        have mem := List.mem_of_getElem? hqi
        have qn : (qs.map Prod.snd)[i]? = some q.2 := by rw [List.getElem?_map, hqi]; rfl
        have fresh := not_before hq.nd qn
        obtain ⟨v, hv⟩ := plc_some nd good (lit_mem (hq.sub q mem))
        have g1 : DGet H4 PL (.str (lit q)) (some v) := hv ▸ DGet.k (k := Sum.inr (lit q)) hPL3
        have g2 : DGet H4 d (.str q.2) none := seen_none _ fresh ▸ DGet.k (k := Sum.inr q.2) hd3
        refine ⟨_, _, _, _, true, rfl, .ty "str", .base (.str _), kit_ty (by decide +kernel), _, rfl, iteF ⟨_, rfl, _, rfl, PL, _, rfl, g1, _, rfl, iteF ⟨_, rfl, q, rfl, good _ (hq.sub q mem), _, rfl, d, _, rfl, g2, _, rfl, iteF ?_⟩⟩⟩
        refine ⟨_, rfl, _, rfl, q, rfl, good _ (hq.sub q mem), d, _, rfl, DPut.k (k := Sum.inr q.2) hd3 (by rw [List.length_map, List.length_take, sizeLine_eq]; omega), _, _, rfl, ilt, fun c o h => (upd_ne (ne_of_none h hd)).trans (sm3 c o h), ?_⟩
        rw [upd_same, putK_new (seen_none _ fresh), List.take_succ, qn, List.map_append]
        rfl
      · obtain ⟨ie, rest, et⟩ := tail_at (ys := (qs.map lit).map V.str) (by rw [ll]; exact ilt) (by rw [ll]; exact ile) hv2
        rw [ll] at ie
        obtain ⟨er, bad⟩ := h2 v2 rest et
        have fin : Q (.int (i : Int)) H4 := by
          have z := k H4 sm3
          rw [er, ← ie] at z
          exact z
        cases bad with
        | odd h =>
          obtain ⟨ty0, ty1, kit1⟩ := tv.noStr (K := K) h
          exact ⟨_, _, _, _, false, rfl, .ty "str", ty1 _ (Same.refl _), kit1, _, rfl, iteT ⟨_, rfl, fin⟩⟩
        | @far z h =>
          have g1 : DGet H4 PL (.str z) none := plcF_none _ 0 h ▸ DGet.k (k := Sum.inr z) hPL3
          exact ⟨_, _, _, _, true, rfl, .ty "str", .base (.str _), kit_ty (by decide +kernel), _, rfl, iteF ⟨_, rfl, _, rfl, PL, _, rfl, g1, _, rfl, iteT ⟨_, rfl, fin⟩⟩⟩
        | @twice q hq1 hq2 =>
          obtain ⟨v, hv⟩ := plc_some nd good (lit_mem hq1)
          have g1 : DGet H4 PL (.str (lit q)) (some v) := hv ▸ DGet.k (k := Sum.inr (lit q)) hPL3
          have g2 : DGet H4 d (.str q.2) (some (.bl true)) := by
            have z := DGet.k (k := Sum.inr q.2) hd3
            rwa [ie, List.take_of_length_le (by rw [List.length_map]; exact Nat.le_refl _), seen_some _ hq2] at z
          exact ⟨_, _, _, _, true, rfl, .ty "str", .base (.str _), kit_ty (by decide +kernel), _, rfl, iteF ⟨_, rfl, _, rfl, PL, _, rfl, g1, _, rfl, iteF ⟨_, rfl, q, rfl, good _ hq1, _, rfl, d, _, rfl, g2, _, rfl, iteT ⟨_, rfl, fin⟩⟩⟩⟩
    · rintro σ H2 ⟨o3, o4, rfl, ile, sm, hd2⟩
      rw [List.length_append, ll] at ile
      have z := k H2 sm
      rw [h1 (List.eq_nil_of_length_eq_zero (by omega))] at z
      exact z
end
end K6
namespace K6
open PySem PySem.Spec PyProof.Rows L2 LamX NdefX EV
theorem kept_upd {S L p : Addr} {H H' : Hp} {o : HO} (k : Kept S L H H') (hp : H p = none) : Kept S L H (upd H' p o) := fun b u e n1 n2 => (upd_ne (ne_of_none e hp)).trans (k b u e n1 n2)
end K6
namespace K6
open PySem PySem.Spec PyProof.Rows L2 LamX NdefX EV
theorem perm_inv {α β : Type} {f : α → β} : ∀ {l ys : List β}, l.Perm ys → ∀ qs : List α, ys = qs.map f → ∃ ps : List α, l = ps.map f ∧ ps.Perm qs := by
  intro l ys h
  induction h with
  | nil =>
    intro qs e
    cases qs with
    | nil => exact ⟨[], rfl, .nil⟩
    | cons q r => cases e
  | @cons x l1 l2 h ih =>
    intro qs e
    cases qs with
    | nil => cases e
    | cons q r =>
      injection e with e1 e2
      obtain ⟨ps, rfl, hp⟩ := ih r e2
      exact ⟨q :: ps, by rw [e1]; rfl, hp.cons q⟩
  | swap x y l =>
    intro qs e
    match qs, e with
    | q :: q2 :: r, e =>
      injection e with e1 e2
      injection e2 with e2 e3
      exact ⟨q2 :: q :: r, by rw [e1, e2, e3]; rfl, .swap ..⟩
  | trans _ _ ih1 ih2 =>
    intro qs e
    obtain ⟨ps, e2, hp⟩ := ih2 qs e
    obtain ⟨ps2, e3, hp2⟩ := ih1 ps e2
    exact ⟨ps2, e3, hp2.trans hp⟩
def sideV : Option (Bool × Str) → V
  | some q => .str (lit q)
  | none => .str (Str.ofString "")
theorem lit_ne {q : Bool × Str} (g : Name1 q.2) : lit q ≠ Str.ofString "" := fun e => by
  have z := congrArg Str.length e
  obtain ⟨b, n⟩ := q
  have g1 : 1 ≤ n.length := g.1
  cases b
  · have z : n.length = 0 := z
    omega
  · have z : (neg n).length = 0 := z
    rw [neg_len] at z
    omega
def spHalf (K : PySem.W.Frag) : Sp := fun vs H Q _ => ∃ (S L T : Addr) (ns : List Str) (c : Nat), vs = [.ref S, .ref T] ∧ SqL K H T (ns.map V.str) ∧ (∀ H', Kept S L H H' → SqL K H' T (ns.map V.str)) ∧ ns.length ≤ 60 ∧ ns.Nodup ∧ (∀ z ∈ ns, Name1 z) ∧ c ≤ 80000 ∧ StreamAt H S L c ∧
  ∀ (qs : List (Bool × Str)) (p : Addr) (c' : Nat) (H' : Hp), Lits ns qs → H p = none → H' p = some (.lst ((qs.map lit).map V.str)) → c' ≤ c + 120 → StreamAt H' S L c' → Kept S L H H' → Q (.ref p) H'
section
variable {P : Program} {w : World} {K : PySem.W.Frag} {mg : Str → Option Value} {base : Heap} {f fD fM fS : Addr} {fd fdD fdM fdS : FuncData}
abbrev nHalf : List Str := ["_law_stream", "_law_names_here", "_law_found", "_law_name", "_law_one"]
theorem scHalf : FnScope nHalf ["_law_stream", "_law_names_here"] (defScope sHalf) := ⟨rfl, rfl, rfl, by decide +kernel, rfl, by decide +kernel, by decide +kernel⟩
theorem ok_half (F : Fun K "_law_half" "_law_half" sHalf f fd) (GD : FnOk P w K mg base CX0 1 fD fdD ["_law_stream", "_law_many"] spDraw) (mD : mg "_law_draw" = some (.ref fD)) (kD : PySem.W.keepIn K (.ref fD) = true) (bD : L2.Binds K fdD ["_law_stream", "_law_many"] [])
    (GM : FnOk P w K mg base CX0 2 fM fdM ["_law_stream", "_law_things"] (spMixed K)) (mM : mg "_law_mixed" = some (.ref fM)) (kM : PySem.W.keepIn K (.ref fM) = true) (bM : L2.Binds K fdM ["_law_stream", "_law_things"] []) :
    FnOk P w K mg base CX0 3 f fd ["_law_stream", "_law_names_here"] (spHalf K) := by
  refine F.ok scHalf (fun vs H Q E h => ?_) (fun cdv A outer s H vs Q E hr h => ?_)
  · obtain ⟨S, L, T, ns, c, rfl, _⟩ := h
    rfl
  · obtain ⟨S, L, T, ns, c, rfl, hT, hT', hn, nd, good, hc, hS, k⟩ := h
    have hr1 : Room 1 _ := hr.mono (by decide)
    refine ⟨_, pss_cons (ps_setLc (i := 2) (own := [("_law_name", 3)]) (g := gName 3) (tt := tYes) rfl scHalf.nd rfl rfl (sw_true rfl rfl rfl (by decide +kernel)) (pi_list (pv 1)) (blkOk_by (N := nHalf) (sc := defScope sHalf) (by decide +kernel))
          (fun _ _ _ _ _ => pg_name (i := 3) scHalf.nd rfl (.inl rfl)) (fun _ _ _ _ _ => pts_nil)
          (fun _ _ _ _ _ => pe_ix (show IxR _ (rIxT K) from ix_tup) (pe_tup (pa_cons (pv 3) (pa_cons (pe_op op_add_str pe_str (pv 3)) (pa_cons pe_str pa_nil)))) (pe_call GD hr1 (by rfl) mD kD bD .nil pass0 (pa_cons (pv 0) (pa_cons pe_int pa_nil))) (fun _ _ => rfl)))
      (pss_one (ps_ret (pe_call GM hr (by rfl) mM kM bM .nil pass0 (pa_cons (pv 0) (pa_cons (pe_lc (own := [("_law_one", 4)]) (g := gName 4) rfl scHalf.nd (pi_list (pv 2)) (blkOk_by (N := nHalf) (sc := defScope sHalf) (by decide +kernel))
          (fun _ _ _ _ _ => pg_name (i := 4) scHalf.nd rfl (.inl rfl)) (fun _ _ _ _ _ => pts_one (pt_cmpR op_ne (pv 4) pe_str (nomark _)))
          (fun _ _ _ _ _ => pv 4)) pa_nil))))), ?_⟩
    refine ⟨_, rfl, T, rfl, ⟨_, hT⟩, fun D hD => lc_list (K := K) (a := T) (xs := ns.map V.str) (fun i H2 => ∃ acc : List (Option (Bool × Str)), acc.length = i ∧ ((acc.filterMap id).map Prod.snd).Sublist (ns.take i) ∧ H2 D = some (.lst (acc.map sideV)) ∧ StreamAt H2 S L (c + i) ∧ Kept S L H H2)
      ⟨[], rfl, List.nil_sublist _, upd_same, hS.new hD, (Kept.refl H).new hD⟩ (fun i H2 hi ⟨_, _, _, _, _, hk2⟩ => hT' _ hk2) ?_ ?_⟩
    · rintro i x H2 hx ⟨acc, la, sub, hD2, hS2, hk2⟩
      obtain ⟨n, hn', rfl⟩ := get_map hx
      have n8 := (good n (List.mem_of_getElem? hn')).2.1
      have offD := hS.off hD
      have ilt : i < ns.length := (List.getElem?_eq_some_iff.mp hn').1
      refine ⟨rfl, _, rfl, _, rfl, _, _, rfl, rfl, by show 1 + n.length ≤ sizeLine; rw [sizeLine_eq]; omega, by show 3 ≤ sizeLine; decide, fun t ht => ?_⟩
      have st : Same H2 _ := same_new (o := .tup [.str n, .str (neg n), .str (Str.ofString "")]) ht
      have hS3 := hS2.new (o := .tup [.str n, .str (neg n), .str (Str.ofString "")]) ht
      have ht3 : upd H2 t (.tup [.str n, .str (neg n), .str (Str.ofString "")]) t = some (.tup [.str n, .str (neg n), .str (Str.ofString "")]) := upd_same
      refine ⟨_, rfl, S, L, 3, _, rfl, by decide, by decide, by omega, hS3, fun r H4 r0 r1 hS4 hk4 => ?_⟩
      have offt := hS2.off ht
      have ht4 := hk4 _ _ ht3 offt.1 offt.2
      have hD4 := hk4 _ _ (st _ _ hD2) offD.1 offD.2
      have hk24 : Kept S L H H4 := (hk2.trans fun b o e _ _ => st b o e).trans hk4
      have fin : ∀ o : Option (Bool × Str), (∀ q, o = some q → q.2 = n) → ∃ acc', H4 D = some (.lst acc') ∧ acc'.length < sizeLine ∧ ∃ ac : List (Option (Bool × Str)), ac.length = i + 1 ∧ ((ac.filterMap id).map Prod.snd).Sublist (ns.take (i + 1)) ∧ upd H4 D (.lst (acc' ++ [sideV o])) D = some (.lst (ac.map sideV)) ∧ StreamAt (upd H4 D (.lst (acc' ++ [sideV o]))) S L (c + (i + 1)) ∧ Kept S L H (upd H4 D (.lst (acc' ++ [sideV o]))) := fun o ho => by
        refine ⟨_, hD4, by rw [List.length_map, la, sizeLine_eq]; omega, acc ++ [o], by rw [List.length_append, la]; rfl, ?_, ?_, hS4.put offD.1 offD.2, kept_upd hk24 hD⟩
        · rw [List.filterMap_append, List.map_append, List.take_succ, hn']
          refine List.Sublist.append sub ?_
          cases o with
          | none => exact List.nil_sublist _
          | some q =>
            have e := ho q rfl
            show [q.2].Sublist [n]
            rw [e]
            exact List.Sublist.refl _
        · rw [upd_same, List.map_append]
          rfl
      have sq := SqT.of (K := K) ht4
      obtain rfl | rfl | rfl : r = 0 ∨ r = 1 ∨ r = 2 := by omega
      · exact ⟨t, _, 0, .str n, rfl, rfl, sq, rfl, fin (some (false, n)) fun q e => by rw [← Option.some.inj e]⟩
      · exact ⟨t, _, 1, .str (neg n), rfl, rfl, sq, rfl, fin (some (true, n)) fun q e => by rw [← Option.some.inj e]⟩
      · exact ⟨t, _, 2, .str (Str.ofString ""), rfl, rfl, sq, rfl, fin none fun q e => nomatch e⟩
    · rintro H2 ⟨acc, la, sub, hD2, hS2, hk2⟩
      rw [List.length_map] at hS2 la
      rw [List.length_map, List.take_length] at sub
      have offD := hS.off hD
      have hD0 : H D = none := hD
      have gq : ∀ q, some q ∈ acc → Name1 q.2 := fun q hq => good _ (sub.subset (List.mem_map_of_mem (List.mem_filterMap.mpr ⟨some q, hq, rfl⟩)))
      refine ⟨_, rfl, _, rfl, D, rfl, ⟨_, SqL.of hD2⟩, fun D2 hD2n => lc_list (K := K) (a := D) (xs := acc.map sideV) (fun i H3 => Same H2 H3 ∧ H3 D2 = some (.lst ((((acc.take i).filterMap id).map lit).map V.str)))
        ⟨same_new hD2n, upd_same⟩ (fun i H3 hi hh => SqL.of (hh.1 _ _ hD2)) ?_ ?_⟩
      · rintro i x H3 hx ⟨sm, hd⟩
        obtain ⟨o, ho, rfl⟩ : ∃ o, acc[i]? = some o ∧ x = sideV o := by
          rw [List.getElem?_map] at hx
          cases e : acc[i]? with
          | none => rw [e] at hx; cases hx
          | some n => rw [e] at hx; exact ⟨n, rfl, (Option.some.inj hx).symm⟩
        have ilt : i < acc.length := (List.getElem?_eq_some_iff.mp ho).1
        have ll : ((acc.take i).filterMap id).length ≤ i := by
          have z1 := List.length_filterMap_le id (acc.take i)
          rw [List.length_take] at z1
          omega
        refine ⟨rfl, _, rfl, (by cases o <;> rfl), _, rfl, ?_⟩
        cases o with
        | none =>
          rw [show (!decide (sideV none = V.str (Str.ofString ""))) = false from by rw [decide_eq_true (show sideV none = V.str (Str.ofString "") from rfl)]; rfl]
          refine iteF ⟨sm, ?_⟩
          rw [List.take_succ, ho, List.filterMap_append]
          show H3 D2 = some (.lst ((((acc.take i).filterMap id ++ []).map lit).map V.str))
          rw [List.append_nil]
          exact hd
        | some q =>
          have ne : sideV (some q) ≠ V.str (Str.ofString "") := fun e => lit_ne (gq q (List.mem_of_getElem? ho)) (by injection e)
          rw [show (!decide (sideV (some q) = V.str (Str.ofString ""))) = true from by rw [decide_eq_false ne]; rfl]
          refine iteT ⟨_, rfl, _, hd, by rw [List.length_map, List.length_map, sizeLine_eq]; omega, fun b o h => (upd_ne (ne_of_none h hD2n)).trans (sm b o h), ?_⟩
          rw [upd_same, List.take_succ, ho, List.filterMap_append, List.map_append, List.map_append]
          rfl
      · rintro H3 ⟨sm, hd⟩
        rw [List.length_map, List.take_length] at hd
        have hS3 := hS2.same sm
        have hk3 : Kept S L H H3 := hk2.trans fun b o e _ _ => sm b o e
        have lq : (acc.filterMap id).length ≤ ns.length := by
          have z1 := List.length_filterMap_le id acc
          omega
        have offD2 := hS2.off hD2n
        refine ⟨S, L, D2, true, _, _, rfl, SqL.of hd, by rw [List.length_map, List.length_map]; omega, by rw [List.length_map, List.length_map]; omega, hS3, fun ys p H4 hp hnew hp4 hS4 hk4 => ?_⟩
        obtain ⟨ms, rfl, hpm⟩ := perm_inv hp _ rfl
        obtain ⟨qs, rfl, hpq⟩ := perm_inv hpm _ rfl
        have offp := hS3.off hnew
        have hL : Lits ns qs := ⟨(hpq.map Prod.snd).nodup_iff.mpr (sub.nodup nd), fun q hq => sub.subset (List.mem_map_of_mem (hpq.mem_iff.mp hq))⟩
        rw [List.length_map, List.length_map] at hS4
        exact k qs p _ H4 hL (hk3.none hnew offp.1 offp.2) hp4 (by omega) hS4 (hk3.trans hk4)
end
end K6
namespace K6
open PySem PySem.Spec PyProof.Rows L2 LamX NdefX EV
def opp (q : Bool × Str) : Bool × Str := (!q.1, q.2)
def spOpp : Sp := fun vs H Q _ => ∃ q : Bool × Str, vs = [.str (lit q)] ∧ Name1 q.2 ∧ Q (.str (lit (opp q))) H
theorem lit_len {q : Bool × Str} (g : Name1 q.2) : (lit q).length ≤ 9 := by
  obtain ⟨b, n⟩ := q
  have n8 : n.length ≤ 8 := g.2.1
  cases b
  · show n.length ≤ _
    omega
  · show (neg n).length ≤ _
    rw [neg_len]; omega
section
variable {P : Program} {w : World} {K : PySem.W.Frag} {mg : Str → Option Value} {base : Heap} {f fD fP : Addr} {fd fdD fdP : FuncData}
theorem scNeg : FnScope ["_law_one"] ["_law_one"] (defScope sNeg) := ⟨rfl, rfl, rfl, by decide +kernel, rfl, by decide +kernel, by decide +kernel⟩
theorem ok_neg (F : Fun K "_law_neg" "_law_neg" sNeg f fd) : FnOk P w K mg base CX0 1 f fd ["_law_one"] spOpp := by
  refine F.ok scNeg (fun vs H Q E h => ?_) (fun cdv A outer s H vs Q E hr h => ?_)
  · obtain ⟨q, rfl, _⟩ := h
    rfl
  · obtain ⟨q, rfl, good, k⟩ := h
    refine ⟨_, pss_one (ps_ret (pe_ifExp (pt_cmpR op_eq (pe_slice sl_str (pv 0) po_none (po_some pe_int)) pe_str (nomark _)) (pe_slice sl_str (pv 0) (po_some pe_int) po_none) (pe_op op_add_str pe_str (pv 0)))), ?_⟩
    have l9 := lit_len good
    have ll : (lit q).length ≤ sizeLine := by rw [sizeLine_eq]; omega
    refine ⟨_, rfl, _, rfl, lit q, rfl, ll, rfl, _, rfl, ?_⟩
    obtain ⟨b, n⟩ := q
    cases b
    · have e : decide (V.str (cutS (lit (false, n)) none (some 1)) = V.str (Str.ofString "-")) = false := decide_eq_false fun h => by
        injection h with h
        exact Bool.noConfusion ((dash_lit good).mp h)
      rw [e]
      refine iteF ⟨_, rfl, _, _, rfl, rfl, ?_, k⟩
      show 1 + (lit (false, n)).length ≤ sizeLine
      rw [sizeLine_eq]; omega
    · have e : decide (V.str (cutS (lit (true, n)) none (some 1)) = V.str (Str.ofString "-")) = true := decide_eq_true (by rw [(dash_lit (q := (true, n)) good).mpr rfl])
      rw [e]
      refine iteT ⟨_, rfl, _, rfl, lit (true, n), rfl, ll, ?_⟩
      rw [show cutS (lit (true, n)) (some 1) none = n from cut_neg n]
      exact k
end
end K6
namespace K6
open PySem PySem.Spec PyProof.Rows L2 LamX NdefX EV
/-! ### the other side; names together -/
theorem lit_iff {ns : List Str} {q : Bool × Str} (good : ∀ z ∈ ns, Name1 z) (g : Name1 q.2) : lit q ∈ lits ns ↔ q.2 ∈ ns := by
  refine ⟨fun h => ?_, lit_mem⟩
  obtain ⟨n, hn, e⟩ := lits_mem.mp h
  rcases e with e | e
  · have z := lit_inj (p := q) (q := (false, n)) g (good n hn) e
    rw [z]
    exact hn
  · have z := lit_inj (p := q) (q := (true, n)) g (good n hn) e
    rw [z]
    exact hn
section
variable {P : Program} {w : World} {K : PySem.W.Frag} {mg : Str → Option Value} {base : Heap} {f fI fN fO C : Addr} {fd fdI fdN fdO : FuncData}
theorem scOpp : FnScope ["literal"] ["literal"] (defScope sOpp) := ⟨rfl, rfl, rfl, by decide +kernel, rfl, by decide +kernel, by decide +kernel⟩
theorem ok_opp (F : Fun K "opposite" "opposite" sOpp f fd) : FnOk P w K mg base CX0 1 f fd ["literal"] spOpp := by
  refine F.ok scOpp (fun vs H Q E h => ?_) (fun cdv A outer s H vs Q E hr h => ?_)
  · obtain ⟨q, rfl, _⟩ := h
    rfl
  · obtain ⟨⟨b, n⟩, rfl, good, k⟩ := h
    have n8 := good.2.1
    replace n8 : n.length ≤ 8 := n8
    refine ⟨_, pss_cons (ps_if (pt_val (pe_m1 PySem.F.slot_str_startswith PySem.F.type_str_startswith mt_startswith (pv 0) pe_str)) (pss_one (ps_ret (pe_slice sl_str (pv 0) (po_some pe_int) po_none))) pss_nil) (pss_one (ps_ret (pe_op op_add_str pe_str (pv 0)))), ?_⟩
    refine ⟨_, rfl, ⟨_, rfl⟩, _, _, rfl, rfl, _, rfl, ?_⟩
    cases b
    · rw [show Txt.startswith (lit (false, n)) (Str.ofString "-") = false from starts_name good]
      refine iteF ⟨_, rfl, _, _, rfl, rfl, ?_, k⟩
      show 1 + n.length ≤ sizeLine
      rw [sizeLine_eq]; omega
    · rw [show Txt.startswith (lit (true, n)) (Str.ofString "-") = true from starts_neg n]
      refine iteT ⟨_, rfl, _, rfl, lit (true, n), rfl, ?_, ?_⟩
      · show (neg n).length ≤ sizeLine
        rw [neg_len, sizeLine_eq]
        omega
      · rw [show cutS (lit (true, n)) (some 1) none = n from cut_neg n]
        exact k
end
end K6
namespace K6
open PySem PySem.Spec PyProof.Rows L2 LamX NdefX EV
/-! ### a thing that is none of the names of a tuple -/
/-! ### the program's ways out -/
def spChkSetX (K : PySem.W.Frag) (CB : Addr) : Sp := fun vs H _ E => ∃ (PL : Addr) (x : V) (ns : List Str) (io : Option (List V)) (i : Nat), vs = [.ref PL, x] ∧ H PL = some (.dK (plc ns)) ∧ ns.length ≤ 60 ∧ ns.Nodup ∧ (∀ z ∈ ns, Name1 z) ∧ ItemAt H x io ∧ CutI ns io (some i) ∧ Told CB "index" (.int (i : Nat)) H E
section
variable {P : Program} {w : World} {K : PySem.W.Frag} {mg : Str → Option Value} {base : Heap} {f fI fJ fL fW fS C CM CB CG : Addr} {fd fdI fdJ fdL fdW fdS : FuncData}
theorem scChkSet : FnScope ["places", "setting", "wrong"] ["places", "setting"] (defScope sChkSetting) := ⟨rfl, rfl, rfl, by decide +kernel, rfl, by decide +kernel, by decide +kernel⟩
theorem ok_chkSetX (F : Fun K "check_setting" "check_setting" sChkSetting f fd) (X : XT K mg "BadSetting" "index" CB fJ) (GJ : FnOk P w K mg base CX0 1 fJ fdJ ["self", "index"] (spI1 K "index")) (bJ : L2.Binds K fdJ ["self", "index"] [])
    (GL : FnOk P w K mg base CX0 1 fL fdL ["thing"] (spIsList K)) (mL : mg "is_list" = some (.ref fL)) (kL : PySem.W.keepIn K (.ref fL) = true) (bL : L2.Binds K fdL ["thing"] [])
    (GW : FnOk P w K mg base CX0 2 fW fdW ["places", "things"] (spWrongX K)) (mW : mg "first_wrong" = some (.ref fW)) (kW : PySem.W.keepIn K (.ref fW) = true) (bW : L2.Binds K fdW ["places", "things"] []) :
    FnOk P w K mg base (L2.CX P w) 3 f fd ["places", "setting"] (spChkSetX K CB) := by
  refine F.okX scChkSet (fun vs H Q E h => ?_) (fun cdv A outer s H vs Q E hr h => ?_)
  · obtain ⟨PL, x, ns, io, i, rfl, _⟩ := h
    rfl
  · obtain ⟨PL, x, ns, io, i, rfl, hPL, n60, nd, good, item, cut, told⟩ := h
    have hr1 : Room 1 _ := hr.mono (by decide)
    have hr2 : Room 2 _ := hr
    refine ⟨_, pss_cons (ps_if (pt_not (pt_val (pe_call GL hr1 (by rfl) mL kL bL .nil pass0 (pa_cons (pv 1) pa_nil)))) (pss_one (ps_raise rfl (takes_of rfl rfl rfl rfl) (pmk_oex X.ox X.ini X.ty GJ hr2 bJ .nil pass0 (by rfl) X.g (pa_cons pe_int pa_nil)))) pss_nil)
      (pss_cons (ps_set (i := 2) scChkSet.nd rfl (.inl rfl) (pe_call GW hr2 (by rfl) mW kW bW .nil pass0 (pa_cons (pv 0) (pa_cons (pv 1) pa_nil))))
      (pss_one (ps_if (pt_cmpR op_notN (pv 2) pe_non rfl) (pss_one (ps_raise rfl (takes_of rfl rfl rfl rfl) (pmk_oex X.ox X.ini X.ty GJ hr2 bJ .nil pass0 (by rfl) X.g (pa_cons (pv 2) pa_nil)))) pss_nil))), ?_⟩
    obtain ⟨ty, hty, kit⟩ := item.kit (K := K)
    refine ⟨_, rfl, x, ty, io.isSome, rfl, hty, kit, fun H1 sm1 => ⟨_, rfl, ?_⟩⟩
    cases io with
    | none =>
      have e : some i = some 0 := cut
      obtain rfl := Option.some.inj e
      exact iteT ⟨by show 1 ≤ 1000; decide, fun a ha => ⟨a, CB, _, rfl, X.ox, X.n, upd_same, fun dx hdx nda => ⟨rfl, dx, _, upd_same, (upd_ne nda).trans upd_same, (upd_ne nda).symm.trans hdx, told.of sm1 dx _ upd_same (way_same ha hdx nda)⟩⟩⟩
    | some xs =>
      obtain ⟨Aa, b, rfl, hA, th, x20⟩ := item.seq (K := K)
      refine iteF ⟨_, rfl, _, rfl, PL, Aa, b, ns, xs, some i, rfl, sm1 _ _ hPL, (fun H' s' => hA H' (sm1.trans s')), n60, nd, good, (fun x hx => (th x hx).same sm1), cut, fun H2 sm2 => ?_⟩
      have sm02 := sm1.trans sm2
      refine ⟨_, rfl, rfl, _, rfl, ?_⟩
      rw [show (!decide (oV (some i) = V.non)) = true from by rw [decide_eq_false (fun e => nomatch e)]; rfl]
      exact iteT ⟨_, rfl, by show 1 ≤ 1000; decide, fun a ha => ⟨a, CB, _, rfl, X.ox, X.n, upd_same, fun dx hdx nda => ⟨rfl, dx, _, upd_same, (upd_ne nda).trans upd_same, (upd_ne nda).symm.trans hdx, told.of sm02 dx _ upd_same (way_same ha hdx nda)⟩⟩⟩
end
end K6
namespace K6
open PySem PySem.Spec PyProof.Rows L2 LamX NdefX EV
/-! ### a half-filled setting handed over -/
/-- a list or a tuple that stands in the heap -/
def HS (H : Hp) (A : Addr) (b : Bool) (xs : List V) : Prop := H A = some (if b = true then .lst xs else .tup xs)
theorem HS.same {H H' : Hp} {A : Addr} {b : Bool} {xs : List V} (h : HS H A b xs) (sm : Same H H') : HS H' A b xs := sm _ _ h
theorem HS.sq {K : PySem.W.Frag} {H : Hp} {A : Addr} {b : Bool} {xs : List V} (h : HS H A b xs) : Sq K b H A xs := by
  cases b
  · exact Sq.tup h
  · exact Sq.lst h
theorem HS.at2 {K : PySem.W.Frag} {H : Hp} {A : Addr} {b : Bool} {xs : List V} (h : HS H A b xs) : SqL K H A xs ∨ SqT K H A xs := by
  cases b
  · exact .inr (SqT.of h)
  · exact .inl (SqL.of h)
theorem HS.ty {K : PySem.W.Frag} {H : Hp} {A : Addr} {b : Bool} {xs : List V} (h : HS H A b xs) : TyX K H (.ref A) (.type (if b = true then "list" else "tuple")) := by
  cases b
  · exact .base (.tup h)
  · exact .base (.lst h)
theorem HS.ne {H : Hp} {A d : Addr} {b : Bool} {xs : List V} {ws : List (List Key × V)} (h : HS H A b xs) (hd : H d = some (.dT ws)) : A ≠ d := by
  cases b
  · exact ne_of h hd fun z => nomatch z
  · exact ne_of h hd fun z => nomatch z
theorem HS.ask {K : PySem.W.Frag} {H : Hp} {ns : List Str} {A : Addr} {b : Bool} {h : List (Bool × Str)} (a : HS H A b ((h.map lit).map V.str)) (hq : Lits ns h) : Ask K H ns true (.ref A) :=
  .seq _ (fun _ s' => (a.same s').ty) (kit_seq b) (fun _ s' => (a.same s').sq) fun _ _ => .ok hq
def spChkSet (K : PySem.W.Frag) : Sp := fun vs H Q _ => ∃ (PL : Addr) (x : V) (ns : List Str), vs = [.ref PL, x] ∧ H PL = some (.dK (plc ns)) ∧ ns.length ≤ 60 ∧ ns.Nodup ∧ (∀ z ∈ ns, Name1 z) ∧ Ask K H ns true x ∧ ∀ H', Same H H' → Q .non H'
section
variable {P : Program} {w : World} {K : PySem.W.Frag} {mg : Str → Option Value} {base : Heap} {f fC fL fW fI C : Addr} {fd fdC fdL fdW fdI : FuncData}
theorem ok_chkSet (F : Fun K "check_setting" "check_setting" sChkSetting f fd) (GL : FnOk P w K mg base CX0 1 fL fdL ["thing"] (spIsList K)) (mL : mg "is_list" = some (.ref fL)) (kL : PySem.W.keepIn K (.ref fL) = true) (bL : L2.Binds K fdL ["thing"] [])
    (GW : FnOk P w K mg base CX0 2 fW fdW ["places", "things"] (spWrong K)) (mW : mg "first_wrong" = some (.ref fW)) (kW : PySem.W.keepIn K (.ref fW) = true) (bW : L2.Binds K fdW ["places", "things"] []) :
    FnOk P w K mg base CX0 3 f fd ["places", "setting"] (spChkSet K) := by
  refine F.ok scChkSet (fun vs H Q E h => ?_) (fun cdv A' outer s H vs Q E hr h => ?_)
  · obtain ⟨PL, x, ns, rfl, _⟩ := h
    rfl
  · obtain ⟨PL, x, ns, rfl, hPL, n60, nd, good, ask, k⟩ := h
    have hr1 : Room 1 _ := hr.mono (by decide)
    refine ⟨_, pss_cons (ps_if (pt_not (pt_val (pe_call GL hr1 (by rfl) mL kL bL .nil pass0 (pa_cons (pv 1) pa_nil)))) (pss_one ps_none) pss_nil)
      (pss_cons (ps_set (i := 2) scChkSet.nd rfl (.inl rfl) (pe_call GW hr (by rfl) mW kW bW .nil pass0 (pa_cons (pv 0) (pa_cons (pv 1) pa_nil))))
      (pss_one (ps_if (pt_cmpR op_notN (pv 2) pe_non rfl) (pss_one ps_none) pss_nil))), ?_⟩
    generalize er : true = r at ask
    cases ask with
    | @seq b A xs _ t ty kit sq see =>
      subst er
      refine ⟨_, rfl, .ref A, t, true, rfl, ty, kit, fun H1 sm1 => ⟨_, rfl, iteF ⟨_, rfl, _, rfl, PL, A, b, ns, xs, true, rfl, sm1 _ _ hPL, sq H1 sm1, (fun H2 s2 => sq H2 (sm1.trans s2)), n60, nd, good, see H1 sm1, fun H2 sm2 => ?_⟩⟩⟩
      rw [if_pos rfl]
      exact ⟨_, rfl, rfl, _, rfl, iteF (k H2 (sm1.trans sm2))⟩
    | odd t ty kit => cases er
end
end K6
namespace K6
open PySem PySem.Spec PyProof.Rows L2 LamX NdefX EV
def spMade (K : PySem.W.Frag) (C : Addr) : Sp := fun vs H Q _ => ∃ (d ps ph pc : Addr) (sg hp : List Str) (ts : List Addr) (rs : List (List Str)), vs = [.ref d] ∧ CAt H d ps ph pc sg hp ts rs ∧ Draw1 sg hp rs ∧ ∀ y r H', Same H H' → CodeR K C H' y sg hp rs r → Q (.ref y) H'
section
variable {P : Program} {w : World} {K : PySem.W.Frag} {mg : Str → Option Value} {base : Heap} {f fI C : Addr} {fd fdI : FuncData}
theorem scMade : FnScope ["_law_c"] ["_law_c"] (defScope sMade) := ⟨rfl, rfl, rfl, by decide +kernel, rfl, by decide +kernel, by decide +kernel⟩
theorem ok_made (F : Fun K "_law_made" "_law_made" sMade f fd) (T : CTxt K mg C) (M : Mk K C fI) (GI : FnOk P w K mg base CX0 5 fI fdI psInit (spInit K C)) (bI : L2.Binds K fdI psInit []) :
    FnOk P w K mg base CX0 7 f fd ["_law_c"] (spMade K C) := by
  refine F.ok scMade (fun vs H Q E h => ?_) (fun cdv A' outer s H vs Q E hr h => ?_)
  · obtain ⟨d, ps, ph, pc, sg, hp, ts, rs, rfl, _⟩ := h
    rfl
  · obtain ⟨d, ps, ph, pc, sg, hp, ts, rs, rfl, ca, D, k⟩ := h
    have hu := hu_of hr
    have ok := D.okC
    refine ⟨_, pss_one (ps_ret (pe_make M GI hr (by rfl) T.mgC bI .nil pass0 (pa_cons (pe_dget hu (pv 0) pe_str (fun _ _ => rfl)) (pa_cons (pe_dget hu (pv 0) pe_str (fun _ _ => rfl)) (pa_cons (pe_dget hu (pv 0) pe_str (fun _ _ => rfl)) pa_nil))))), ?_⟩
    obtain ⟨g1, g2, g3⟩ := dget_c ca.d
    refine ⟨_, rfl, d, _, rfl, g1, _, rfl, d, _, rfl, g3, _, rfl, d, _, rfl, g2, fun y dy hy hdy _ => ?_⟩
    obtain ⟨qss, u1, u2, u3⟩ := handed_rows (K := K) D.nd D.good (ns := sg ++ hp) (fun x hx => hx) ca.r D.row
    have lq : qss.length = rs.length := by rw [u2, List.length_map]
    have r7 := D.r7
    refine make_ok (b1 := true) (b2 := true) (b3 := true) hy hdy (SqL.of ca.s) (SqL.of ca.c) (SqL.of ca.h) ok.n60 ok.nd ok.good u1 (by omega) fun r H' sm cx _ => ⟨rfl, ?_⟩
    rw [rows_id u2 D.row D.rnd] at cx
    exact k y r H' sm cx
end
/-! ### how a call ends -/
end K6
namespace K6
open PySem PySem.Spec PyProof.Rows L2 LamX NdefX EV
/-! ### things, as trees, that stand in the heap at addresses of N -/
def items : PyData → Option (List PyData)
  | .list ds => some ds
  | .tuple ds => some ds
  | _ => none
mutual
inductive KD (N : Addr → Prop) (H : Hp) : V → PyData → Prop
  | non : KD N H .non .none
  | bl (b : Bool) : KD N H (.bl b) (.bool b)
  | int (i : Int) : KD N H (.int i) (.int i)
  | str (z : Str) : KD N H (.str z) (.str z)
  | lst {a : Addr} {xs : List V} {ds : List PyData} (h : H a = some (.lst xs)) (n : N a) (t : KDA N H xs ds) : KD N H (.ref a) (.list ds)
  | tup {a : Addr} {xs : List V} {ds : List PyData} (h : H a = some (.tup xs)) (n : N a) (t : KDA N H xs ds) : KD N H (.ref a) (.tuple ds)
  | dct {a : Addr} (h : H a = some (.dK [])) (n : N a) : KD N H (.ref a) (.dict [])
inductive KDA (N : Addr → Prop) (H : Hp) : List V → List PyData → Prop
  | nil : KDA N H [] []
  | cons {v : V} {vs : List V} {d : PyData} {ds : List PyData} (h : KD N H v d) (t : KDA N H vs ds) : KDA N H (v :: vs) (d :: ds)
end
section
variable {N M : Addr → Prop} {H H' : Hp}
mutual
theorem KD.map (k : ∀ b o, H b = some o → N b → H' b = some o ∧ M b) : ∀ {v : V} {d : PyData}, KD N H v d → KD M H' v d
  | _, _, .non => .non
  | _, _, .bl b => .bl b
  | _, _, .int i => .int i
  | _, _, .str z => .str z
  | _, _, .lst h n t => .lst (k _ _ h n).1 (k _ _ h n).2 (KDA.map k t)
  | _, _, .tup h n t => .tup (k _ _ h n).1 (k _ _ h n).2 (KDA.map k t)
  | _, _, .dct h n => .dct (k _ _ h n).1 (k _ _ h n).2
theorem KDA.map (k : ∀ b o, H b = some o → N b → H' b = some o ∧ M b) : ∀ {vs : List V} {ds : List PyData}, KDA N H vs ds → KDA M H' vs ds
  | _, _, .nil => .nil
  | _, _, .cons h t => .cons (KD.map k h) (KDA.map k t)
end
theorem KDA.len : ∀ {vs : List V} {ds : List PyData}, KDA N H vs ds → vs.length = ds.length
  | _, _, .nil => rfl
  | _, _, .cons _ t => congrArg Nat.succ (KDA.len t)
theorem KDA.get : ∀ {vs : List V} {ds : List PyData}, KDA N H vs ds → ∀ {i : Nat} {v : V}, vs[i]? = some v → ∃ d, ds[i]? = some d ∧ KD N H v d
  | _, _, .nil, i, v, h => by simp at h
  | _, _, .cons h _, 0, v, h1 => by
    simp at h1
    subst h1
    exact ⟨_, rfl, h⟩
  | _, _, .cons _ t, i + 1, v, h1 => by
    obtain ⟨d, h2, h3⟩ := KDA.get t (by simpa using h1)
    exact ⟨d, by simpa using h2, h3⟩
theorem KDA.snoc {v : V} {d : PyData} (h : KD N H v d) : ∀ {vs : List V} {ds : List PyData}, KDA N H vs ds → KDA N H (vs ++ [v]) (ds ++ [d])
  | _, _, .nil => .cons h .nil
  | _, _, .cons a t => .cons a (KDA.snoc h t)
end
/-- what stays of the addresses of N -/
def KN (N : Addr → Prop) (H H' : Hp) : Prop := ∀ b o, H b = some o → N b → H' b = some o
theorem KN.refl {N : Addr → Prop} (H : Hp) : KN N H H := fun _ _ e _ => e
theorem KN.trans {N : Addr → Prop} {H H1 H2 : Hp} (a : KN N H H1) (b : KN N H1 H2) : KN N H H2 := fun x o e n => b x o (a x o e n) n
theorem KN.mono {N M : Addr → Prop} {H H' : Hp} (a : KN M H H') (i : ∀ b, N b → M b) : KN N H H' := fun x o e n => a x o e (i x n)
theorem KN.same {N : Addr → Prop} {H H' : Hp} (a : Same H H') : KN N H H' := fun x o e _ => a x o e
theorem KN.kept {N : Addr → Prop} {S L : Addr} {H H' : Hp} (k : Kept S L H H') (n : ∀ b, N b → b ≠ S ∧ b ≠ L) : KN N H H' := fun x o e m => k x o e (n x m).1 (n x m).2
section
variable {N M : Addr → Prop} {H H' : Hp}
theorem KD.step {v : V} {d : PyData} (a : KD N H v d) (k : KN N H H') : KD N H' v d := a.map fun b o e n => ⟨k b o e n, n⟩
theorem KDA.step {v : List V} {d : List PyData} (a : KDA N H v d) (k : KN N H H') : KDA N H' v d := a.map fun b o e n => ⟨k b o e n, n⟩
theorem KD.mono {v : V} {d : PyData} (a : KD N H v d) (i : ∀ b, N b → M b) : KD M H v d := a.map fun b o e n => ⟨e, i b n⟩
theorem KDA.mono {v : List V} {d : List PyData} (a : KDA N H v d) (i : ∀ b, N b → M b) : KDA M H v d := a.map fun b o e n => ⟨e, i b n⟩
/-- without a part of what is new -/
theorem KDA.cut {v : List V} {d : List PyData} {D : Addr} {o : HO} (a : KDA N H v d) (hD : H D = none) : KDA (fun b => N b ∧ b ≠ D) (upd H D o) v d := a.map fun b u e n => ⟨(upd_ne (ne_of_none e hD)).trans e, n, ne_of_none e hD⟩
theorem KD.cut {v : V} {d : PyData} {D : Addr} {o : HO} (a : KD N H v d) (hD : H D = none) : KD (fun b => N b ∧ b ≠ D) (upd H D o) v d := a.map fun b u e n => ⟨(upd_ne (ne_of_none e hD)).trans e, n, ne_of_none e hD⟩
theorem KDA.put {v : List V} {d : List PyData} {D : Addr} {o : HO} (a : KDA N H v d) (h : ∀ q, N q → q ≠ D) : KDA N (upd H D o) v d := a.map fun b u e n => ⟨(upd_ne (h b n)).trans e, n⟩
theorem KD.put {v : V} {d : PyData} {D : Addr} {o : HO} (a : KD N H v d) (h : ∀ q, N q → q ≠ D) : KD N (upd H D o) v d := a.map fun b u e n => ⟨(upd_ne (h b n)).trans e, n⟩
/-- a list or a tuple, seen as such -/
theorem KD.seq {v : V} {d : PyData} {ds : List PyData} (a : KD N H v d) (h : items d = some ds) : ∃ (p : Addr) (b : Bool) (xs : List V), v = .ref p ∧ HS H p b xs ∧ N p ∧ KDA N H xs ds := by
  cases a with
  | lst h1 n t => cases h; exact ⟨_, true, _, rfl, h1, n, t⟩
  | tup h1 n t => cases h; exact ⟨_, false, _, rfl, h1, n, t⟩
  | _ => cases h
theorem KD.ty {K : PySem.W.Frag} {v : V} {d : PyData} (h : KD N H v d) : ∃ t, (∀ H', Same H H' → TyX K H' v t) ∧ PySem.W.kitAny K t [.type "list", .type "tuple"] = some (items d).isSome := by
  have no : ∀ {a : String}, kitB a "list" = some false → kitB a "tuple" = some false → PySem.W.kitAny K (.type a) [.type "list", .type "tuple"] = some false := fun h1 h2 =>
    kitAny_cons (b := false) (kit_ty h1) (fun _ => kitAny_cons (b := false) (kit_ty h2) (fun _ => rfl) fun z => nomatch z) (fun z => nomatch z)
  cases h with
  | lst h n t => exact ⟨.type "list", fun _ sm => .base (.lst (sm _ _ h)), kit_seq true⟩
  | tup h n t => exact ⟨.type "tuple", fun _ sm => .base (.tup (sm _ _ h)), kit_seq false⟩
  | non => exact ⟨_, fun _ _ => .base .non, no (by decide +kernel) (by decide +kernel)⟩
  | int i => exact ⟨_, fun _ _ => .base (.int i), no (by decide +kernel) (by decide +kernel)⟩
  | bl b => exact ⟨_, fun _ _ => .base (.bl b), no (by decide +kernel) (by decide +kernel)⟩
  | str => exact ⟨_, fun _ _ => .base (.str _), no (by decide +kernel) (by decide +kernel)⟩
  | dct h n => exact ⟨_, fun _ sm => .base (.dK (sm _ _ h)), no (by decide +kernel) (by decide +kernel)⟩
end
/-! ### the same but for lists and tuples -/
mutual
inductive Like : PyData → PyData → Prop
  | same {d : PyData} (h : items d = none) : Like d d
  | seq {d d' : PyData} {ds ds' : List PyData} (h : items d = some ds) (h' : items d' = some ds') (t : LikeAll ds ds') : Like d d'
inductive LikeAll : List PyData → List PyData → Prop
  | nil : LikeAll [] []
  | cons {d d' : PyData} {ds ds' : List PyData} (h : Like d d') (t : LikeAll ds ds') : LikeAll (d :: ds) (d' :: ds')
end
theorem LikeAll.snoc {d d' : PyData} (h : Like d d') : ∀ {ds ds' : List PyData}, LikeAll ds ds' → LikeAll (ds ++ [d]) (ds' ++ [d'])
  | _, _, .nil => .cons h .nil
  | _, _, .cons a t => .cons a (LikeAll.snoc h t)
theorem LikeAll.len : ∀ {ds ds' : List PyData}, LikeAll ds ds' → ds.length = ds'.length
  | _, _, .nil => rfl
  | _, _, .cons _ t => congrArg Nat.succ (LikeAll.len t)
/-- no deeper than that, no list longer than 30 -/
def shal : Nat → PyData → Prop
  | 0, _ => False
  | n + 1, d => ∀ ds, items d = some ds → ds.length ≤ 30 ∧ ∀ x ∈ ds, shal n x
mutual
def cnt : PyData → Nat
  | .list ds => 1 + cntL ds
  | .tuple ds => 1 + cntL ds
  | _ => 0
def cntL : List PyData → Nat
  | [] => 0
  | d :: ds => cnt d + cntL ds
end
theorem cnt_items {d : PyData} {ds : List PyData} (h : items d = some ds) : cnt d = 1 + cntL ds := by
  cases d <;> simp [items] at h
  · subst h; rw [cnt]
  · subst h; rw [cnt]
theorem cntL_app : ∀ (ds es : List PyData), cntL (ds ++ es) = cntL ds + cntL es
  | [], es => by rw [cntL]; simp
  | d :: ds, es => by rw [List.cons_append, cntL, cntL, cntL_app ds es]; omega
theorem cntL_take {ds : List PyData} {i : Nat} {d : PyData} (h : ds[i]? = some d) : cntL (ds.take (i + 1)) = cntL (ds.take i) + cnt d := by
  rw [List.take_succ, h, cntL_app]
  show _ + cntL [d] = _
  rw [cntL, cntL]
  rfl
theorem cntL_le {ds : List PyData} {i : Nat} : cntL (ds.take i) ≤ cntL ds := by
  have z := cntL_app (ds.take i) (ds.drop i)
  rw [List.take_append_drop] at z
  omega
def spLoose (n : Nat) : Sp := fun vs H Q _ => ∃ (S L : Addr) (v : V) (d : PyData) (N : Addr → Prop) (c : Nat), vs = [.ref S, v] ∧ shal n d ∧ KD N H v d ∧ ¬ N S ∧ ¬ N L ∧ c + cnt d ≤ 90000 ∧ StreamAt H S L c ∧
  ∀ (v' : V) (d' : PyData) (c' : Nat) (H' : Hp), Like d d' → KD (fun b => N b ∨ H b = none) H' v' d' → c' ≤ c + cnt d → StreamAt H' S L c' → Kept S L H H' → Q v' H'
section
variable {P : Program} {w : World} {K : PySem.W.Frag} {mg : Str → Option Value} {base : Heap} {f fD : Addr} {fd fdD : FuncData}
abbrev nLoose : List Str := ["_law_stream", "_law_thing", "_law_found", "_law_one"]
theorem scLoose : FnScope nLoose ["_law_stream", "_law_thing"] (defScope sLoose) := ⟨rfl, rfl, rfl, by decide +kernel, rfl, by decide +kernel, by decide +kernel⟩
theorem ok_loose (F : Fun K "_law_loose" "_law_loose" sLoose f fd) (GD : FnOk P w K mg base CX0 1 fD fdD ["_law_stream", "_law_many"] spDraw) (mD : mg "_law_draw" = some (.ref fD)) (kD : PySem.W.keepIn K (.ref fD) = true) (bD : L2.Binds K fdD ["_law_stream", "_law_many"] [])
    (mF : mg "_law_loose" = some (.ref f)) (kF : PySem.W.keepIn K (.ref f) = true) (bF : L2.Binds K fd ["_law_stream", "_law_thing"] []) (mi : mg "isinstance" = none) (ml : mg "list" = none) (mt : mg "tuple" = none) :
    ∀ n, FnOk P w K mg base CX0 (n + 2) f fd ["_law_stream", "_law_thing"] (spLoose n)
  | 0 => by
    refine F.ok scLoose (fun vs H Q E h => ?_) (fun cdv A outer s H vs Q E hr h => ?_)
    · obtain ⟨S, L, v, d, N, c, rfl, _⟩ := h
      rfl
    · obtain ⟨S, L, v, d, N, c, rfl, sh, _⟩ := h
      exact sh.elim
  | n + 1 => by
    have GF := ok_loose F GD mD kD bD mF kF bF mi ml mt n
    refine F.ok scLoose (fun vs H Q E h => ?_) (fun cdv A outer s H vs Q E hr h => ?_)
    · obtain ⟨S, L, v, d, N, c, rfl, _⟩ := h
      rfl
    · obtain ⟨S, L, v, d, N, c, rfl, sh, kd, nS, nL, hc, hS, k⟩ := h
      have hr1 : Room 1 _ := hr.mono (by omega)
      refine ⟨_, pss_cons (ps_if (pt_val (pe_callB call_isiT (by rfl) mi (by decide +kernel) (pa_cons (pv 1) (pa_cons (pe_tup (pa_cons (pe_bltn (v := .ty "list") (by rfl) ml (by decide +kernel) rfl) (pa_cons (pe_bltn (v := .ty "tuple") (by rfl) mt (by decide +kernel) rfl) pa_nil))) pa_nil))))
        (pss_cons (ps_setLc (i := 2) (own := [("_law_one", 3)]) (g := gName 3) (tt := tYes) (by rfl) scLoose.nd rfl rfl (sw_true rfl rfl rfl (by decide +kernel)) (pi_seq (pv 1)) (blkOk_by (N := nLoose) (sc := defScope sLoose) (by decide +kernel))
          (fun _ _ _ _ _ => pg_name (i := 3) scLoose.nd rfl (.inl rfl)) (fun _ _ _ _ _ => pts_nil) (fun _ _ _ _ _ => pe_call GF hr (by rfl) mF kF bF .nil pass0 (pa_cons (pv 0) (pa_cons (pv 3) pa_nil))))
        (pss_one (ps_ret (pe_ifExp (pt_cmpR op_eq (pe_call GD hr1 (by rfl) mD kD bD .nil pass0 (pa_cons (pv 0) (pa_cons pe_int pa_nil))) pe_int (nomark _)) (pv 2) (pe_tupleOf (by rfl) mt (pv 2)))))) pss_nil)
        (pss_one (ps_ret (pv 1))), ?_⟩
      obtain ⟨t, ht, kit⟩ := kd.ty (K := K)
      refine ⟨_, rfl, by show 2 ≤ sizeLine; decide, fun tp htp => ⟨v, tp, _, t, _, _, rfl, upd_same, .cons (.ty "list") (.cons (.ty "tuple") .nil), ht _ (same_new htp), kit, ?_⟩⟩
      have sm1 : Same H _ := same_new (o := .tup [.ty "list", .ty "tuple"]) htp
      cases it : items d with
      | none => exact ⟨_, rfl, iteF ⟨_, rfl, k v d c _ (.same it) ((kd.step (KN.same sm1)).mono fun b n => .inl n) (by omega) (hS.new htp) ((Kept.refl H).new htp)⟩⟩
      | some ds =>
        obtain ⟨p, b, xs, rfl, hs, np, ka⟩ := kd.seq it
        obtain ⟨l30, sh'⟩ := sh ds it
        have hn : ∀ q, N q → q ≠ S ∧ q ≠ L := fun q n => ⟨fun e => nS (e ▸ n), fun e => nL (e ▸ n)⟩
        have lx := ka.len
        have ci := cnt_items it
        have hS1 := hS.new (o := .tup [.ty "list", .ty "tuple"]) htp
        have off0 := hS1
        have ka1 := ka.step (KN.same sm1)
        have hs1 := hs.same sm1
        have hk1 : Kept S L H _ := (Kept.refl H).new (o := .tup [.ty "list", .ty "tuple"]) htp
        have hM : ∀ D q, (N q ∨ H q = none) ∧ q ≠ D → q ≠ S ∧ q ≠ L := fun D q m => m.1.elim (hn q) fun e => hS.off e
        refine ⟨_, rfl, iteT ⟨_, rfl, b, p, xs, rfl, hs1.sq, fun D hD => lc_it walk_sq (fun i H2 => ∃ (vs : List V) (ds' : List PyData) (c2 : Nat), H2 D = some (.lst vs) ∧ vs.length = i ∧ KDA (fun q => (N q ∨ H q = none) ∧ q ≠ D) H2 vs ds' ∧ LikeAll (ds.take i) ds' ∧ c2 ≤ c + cntL (ds.take i) ∧ StreamAt H2 S L c2 ∧ Kept S L H H2 ∧ KDA (fun q => N q ∧ q ≠ D) H2 xs ds)
          ⟨[], [], c, upd_same, rfl, .nil, .nil, by omega, hS1.new hD, hk1.add hD (hS1.off hD), ka1.cut hD⟩ (fun i H2 hi ⟨vs, ds', c2, hD2, _, _, _, _, hS2, hk2, _⟩ => HS.sq (hk2 _ _ hs (hn p np).1 (hn p np).2)) ?_ ?_⟩⟩
        · rintro i x H2 H3 hi ⟨vs, ds', c2, hD2, lv, kv, lk, hc2, hS2, hk2, kx⟩ ⟨rfl, hx⟩
          have offD := hS1.off hD
          have hD0 := sm1.free hD
          obtain ⟨d1, hd1, kd1⟩ := kx.get hx
          have ct := cntL_take hd1
          have cl := @cntL_le ds (i + 1)
          refine ⟨rfl, _, rfl, _, rfl, S, L, x, d1, _, c2, rfl, sh' d1 (List.mem_of_getElem? hd1), kd1, fun h => nS h.1, fun h => nL h.1, by omega, hS2, fun v' d' c3 H4 lk1 kd' hc3 hS4 hk4 => ?_⟩
          have hD4 := hk4 _ _ hD2 offD.1 offD.2
          refine ⟨vs, hD4, by rw [lv, sizeLine_eq]; omega, vs ++ [v'], ds' ++ [d'], c3, upd_same, by rw [List.length_append, lv]; rfl, ?_, ?_, by omega, hS4.put offD.1 offD.2, kept_upd (hk2.trans hk4) hD0, ?_⟩
          · refine KDA.put ((kv.step (KN.kept hk4 (hM D))).snoc (kd'.mono ?_)) fun q m => m.2
            rintro q (⟨n, nd⟩ | e)
            · exact ⟨.inl n, nd⟩
            · exact ⟨.inr (hk2.none e (hS2.off e).1 (hS2.off e).2), fun e2 => by rw [e2, hD2] at e; cases e⟩
          · rw [List.take_succ, hd1]
            exact lk.snoc lk1
          · exact KDA.put (kx.step (KN.kept hk4 fun q n => hn q n.1)) fun q m => m.2
        · rintro H2 ⟨vs, ds', c2, hD2, lv, kv, lk, hc2, hS2, hk2, kx⟩
          have offD := hS1.off hD
          have hD0 := sm1.free hD
          rw [lx, List.take_length] at lk hc2
          refine ⟨_, rfl, S, L, 2, _, rfl, by decide, by decide, by omega, hS2, fun r H3 r0 r1 hS3 hk3 => ⟨rfl, _, rfl, ?_⟩⟩
          have hD3 := hk3 _ _ hD2 offD.1 offD.2
          have kv3 := kv.step (KN.kept hk3 (hM D))
          refine ite2 (fun _ => ?_) (fun _ => ?_)
          · exact ⟨_, rfl, k _ (.list ds') _ _ (.seq it rfl lk) (.lst hD3 (.inr hD0) (kv3.mono fun q m => m.1)) (by omega) hS3 (hk2.trans hk3)⟩
          · refine ⟨_, rfl, .inl ⟨D, _, rfl, SqL.of hD3, fun q hq => ?_⟩⟩
            have hq0 := (hk2.trans hk3).none hq (hS3.off hq).1 (hS3.off hq).2
            exact k _ (.tuple ds') _ _ (.seq it rfl lk) (.tup upd_same (.inr hq0) ((kv3.step (KN.same (same_new hq))).mono fun q m => m.1)) (by omega) (hS3.new hq) ((hk2.trans hk3).add hq (hS3.off hq))
end
end K6
/-! A dict comprehension set to a local name on one line. -/
namespace EV
open PySem PySem.Spec PyProof.Rows L2
section
variable {X : Cx} {pins : List (Addr × Obj)} {σ : L2.St} {H : Hp} {s : Shared}
theorem dc_core {kx vx tg iter : Expr} {ifs : List Expr} {scope : Scope} {own : List (Str × Nat)} {pos pos' : Pos} {wi : TI} {g : TG} {tt : TT} {tk tv : TE} {o0 : HO} {Q : VK} {use : Option (Value → Sem Unit)} {Qf : Value → Shared → Prop} (b0 : Bare0 o0) (calm : X.calm = true) (hu : X.A.units + 1 < cLine) (hN : X.N.Nodup) (I : Inv X pins σ H s) (hi : PI X tg iter wi) (ok : BlkOk X.N X.env.scope scope own)
    (hg : AllBlk X scope fun B => PG B tg g) (ht : AllBlk X scope fun B => PTs B ifs tt) (hk : AllBlk X scope fun B => PE B kx tk) (he : AllBlk X scope fun B => PE B vx tv)
    (fold : ∀ x, foldedSetIterable iter X.env x = pure x) (reading : tDcP o0 wi g tt tk tv (own.map (·.2)) σ H Q)
    (hRR : ∀ D C s' m H', Inv X pins σ H' s' → Q (.ref D) H' → s'.heap.Ns C m → FpOk X pins H' C → compPost (model X.prog X.w) X.A X.xe use Qf (.ref D) C (.ok .next) s') :
    wpAny (model X.prog X.w) X.A (comprehension (.DictComp kx vx [⟨tg, iter, ifs, 0⟩] scope pos) scope X.env pos' newDict false (eval iter X.env) use) Qf X.xe s := by
  have frees : ∀ y ∈ scope.names, y.2 = .free → ∃ c, X.env.cells.lookup y.1 = some c := fun y hy e => (ok.free y hy e).elim (fun q => I.ok.has _ (.inl q)) fun q => I.ok.has _ (.inr q)
  refine wpAny_comprehension_free (use := use) rfl fold (closure_ok frees) ok.kind (fun y hy e => (ok.uniq y hy).trans (congrArg some e)) (thn (hi.run pins s σ H _ I reading) fun xv s1 made => thn made fun itv s2 stands => ?_)
  obtain ⟨it, fp, tn, J, H2, rfl, I2, T, at0, fpk, rest⟩ := stands
  refine wpAny_newObj_type (newEnv_comp ?_)
  obtain ⟨D, eD⟩ : ∃ D, s2.heap.objs.size = D := ⟨_, rfl⟩
  rw [eD]
  have new : H2 D = none := I2.hok.fresh (Nat.le_of_eq eD)
  obtain ⟨W, ⟨m0, start⟩, turns⟩ := rest D new
  -- the empty dict stands
  obtain ⟨s3, e3⟩ : ∃ s3 : Shared, ({ s2 with heap := s2.heap.push { cls := .type "dict", data := .dict #[] } } : Shared) = s3 := ⟨_, rfl⟩
  have grow : ∀ b o, s2.heap.get? b = some o → s3.heap.get? b = some o := fun b o e => by
    rw [← e3]
    exact Heap.get?_push_of_some _ e
  have size3 : s3.heap.objs.size = s2.heap.objs.size + 1 := by
    rw [← e3]
    exact Heap.size_push ..
  have I3 : Inv X pins σ (upd H2 D o0) s3 := by
    rw [← e3]
    refine I2.laid (t' := s2.toks) (fun b o e => Heap.get?_push_of_some _ e) (Nat.le_of_eq eD) ?_
    rw [← eD]
    exact bare0_lay b0 I2.big
  have small : ∀ b ∈ fp, b < s2.heap.objs.size := fun b hb => (T.obj _ _ at0 b hb).elim fun o q => Heap.lt_size q.1
  have fp3 : ∀ b ∈ fp, FpOk X pins (upd H2 D o0) b ∧ b < s3.heap.objs.size := fun b hb => by
    have lt := small b hb
    have ne : b ≠ D := Nat.ne_of_lt (eD ▸ lt)
    exact ⟨⟨(upd_ne ne).trans (fpk b hb).1, (fpk b hb).2⟩, size3 ▸ Nat.lt_succ_of_lt lt⟩
  have at3 : tn 0 s3.heap := T.keep _ _ _ at0 fun b _ o e => grow b o e
  have I4 := block_start I3 ok hN fp3
  generalize eC : s3.heap.objs.size = C at I4
  generalize ecl : cellsFrom (C + 1) scope.names (cloFrom X.env.cells scope.names []) = cl at I4
  have pg := hg s3 (upd H2 D o0) C cl fp
  have pt := ht s3 (upd H2 D o0) C cl fp
  have pk := hk s3 (upd H2 D o0) C cl fp
  have pv := he s3 (upd H2 D o0) C cl fp
  have none3 : ∀ b ∈ fp, (upd H2 D o0) b = none := fun b hb => (fp3 b hb).1.1
  have h4s : ∀ b o, s3.heap.get? b = some o → (pushCells (s3.heap.push { cls := .type "dict", data := .dict #[] }) scope.names).get? b = some o := fun b o e => pushCells_keeps _ _ _ _ (Heap.get?_push_of_some _ e)
  rw [e3]
  show codeAny _ _ (.compStart (.DictComp kx vx [⟨tg, iter, ifs, 0⟩] scope pos) 0 (.ref it) (.ref D) (compEnvC scope (cellsFrom (s3.heap.objs.size + 1) scope.names (cloFrom X.env.cells scope.names [])) s3.heap.objs.size X.env)) (compPost (model X.prog X.w) X.A X.xe use Qf (.ref D) s3.heap.objs.size) { s3 with heap := pushCells (s3.heap.push { cls := .type "dict", data := .dict #[] }) scope.names }
  rw [eC, ecl]
  generalize eB : compEnvC scope cl C X.env = B at I4 pg pt pk pv ⊢
  have locB : B.locals = C := eB ▸ rfl
  have at4 : tn 0 (pushCells (s3.heap.push { cls := .type "dict", data := .dict #[] }) scope.names) := T.keep _ _ _ at3 fun b _ o e => h4s b o e
  generalize e4 : ({ s3 with heap := pushCells (s3.heap.push { cls := .type "dict", data := .dict #[] }) scope.names } : Shared) = s4 at I4 ⊢
  have at4 : tn 0 s4.heap := e4 ▸ at4
  -- the iterator's own objects, seen from the block
  have own4 : ∀ {σ' : L2.St} {G : Hp} {s' : Shared}, Inv (X.blk s3 (upd H2 D o0) scope B fp) [] σ' G s' → (∀ b ∈ fp, G b = none) → ∀ b ∈ fp, FpOk (X.blk s3 (upd H2 D o0) scope B fp) [] G b := fun {σ' G s'} J' z b hb =>
    ⟨z b hb, (J'.ok.exf b hb).1, J'.ok.exfs b hb, .inl hb, fun x c e => (J'.ok.exf b hb).2 x c e, fun p hp => by simp [Cx.blk] at hp⟩
  have walk : codeAny (model X.prog X.w) X.A (.compLoop (.DictComp kx vx [⟨tg, iter, ifs, 0⟩] scope pos) 0 (.ref it) (.ref D) B) (compPost (model X.prog X.w) X.A X.xe use Qf (.ref D) C) s4 := by
    refine compLoop_anyD (fun n s5 => ∃ i G, Inv (X.blk s3 (upd H2 D o0) scope B fp) [] (wipe σ (own.map (·.2))) G s5 ∧ tn i s5.heap ∧ (∀ b ∈ fp, G b = none) ∧ W i n G) ?_ m0 ⟨0, _, I4, at4, none3, start⟩
    rintro n s5 ⟨i, G, I5, at5, none5, w5⟩
    rcases turns i n G w5 with ⟨over, found⟩ | ⟨more, Nx, next, step⟩
    · -- no further item: the def's own frame again
      refine thnF (T.done (X.blk s3 (upd H2 D o0) scope B fp) rfl rfl rfl calm i [] s5 _ G (fun _ _ => False) I5 (own4 I5 none5) at5 over) fun r s6 fin => ?_
      obtain ⟨rfl, I6⟩ := fin
      have back : Inv X pins σ G s6 := I3.call' (ch := fp) I6.os I6.base I6.hok I6.bare fun b hb => ⟨(fp3 b hb).1.2.2.2.1, (fp3 b hb).1.2.1, (fp3 b hb).1.2.2.2.2.1, (fp3 b hb).1.2.2.2.2.2⟩
      have freeC : G C = none := locB ▸ (show G B.locals = none from I6.free)
      obtain ⟨m, ns, _⟩ := I6.loc
      have nsC : s6.heap.Ns C m := locB ▸ (show s6.heap.Ns B.locals m from ns)
      obtain ⟨f0, f1, f2, f3, f4, f5⟩ := I3.fpOk (Nat.le_of_eq eC) freeC
      exact hRR D C s6 m G back found nsC ⟨freeC, f1, f2, f3, f4, f5⟩
    · refine thnF (T.item (X.blk s3 (upd H2 D o0) scope B fp) rfl rfl rfl calm i [] s5 _ G (fun _ _ => False) I5 (own4 I5 none5) at5 more) fun r s6 got => ?_
      obtain ⟨u, rfl, later⟩ := got
      refine thnF later fun _ s7 st => ?_
      obtain ⟨x, G7, I7, rx, y7, at7, none7⟩ := st
      have I8 := I7.pinned (own4 I7 none7) (T.obj _ _ at7)
      refine thnF (pg.run _ s7 _ G7 x u _ I8 rx (step x G7 y7)) fun _ s8 ⟨σ8, G8, I9, same8, q8⟩ => ?_
      -- what the turn leaves
      have goOn : ∀ {s9 : Shared} {G9 : Hp}, Inv (X.blk s3 (upd H2 D o0) scope B fp) ([] ++ pinsAt fp s7.heap) σ8 G9 s9 → Nx G9 → ∃ m, m < n ∧ ∃ j G', Inv (X.blk s3 (upd H2 D o0) scope B fp) [] (wipe σ (own.map (·.2))) G' s9 ∧ tn j s9.heap ∧ (∀ b ∈ fp, G' b = none) ∧ W j m G' := by
        intro s9 G9 J nx
        obtain ⟨m, lt, w9⟩ := next G9 nx
        have stood : ∀ b ∈ fp, ∀ o, s7.heap.get? b = some o → s9.heap.get? b = some o ∧ G9 b = none := fun b hb o e => by
          have z := J.pin (b, o) (List.mem_append_right _ (List.mem_append_right _ (mem_pinsAt hb e)))
          exact ⟨z.1, z.2.1⟩
        have len8 : (wipe σ (own.map (·.2))).length = σ8.length := same8 ▸ wipe_length ..
        refine ⟨m, lt, i + 1, G9, (J.unpinned (pins := [])).weak len8 (fun j v e => (wipe_some (same8.symm ▸ e)).1), T.keep _ _ _ at7 fun b hb o e => (stood b hb o e).1, fun b hb => ?_, w9⟩
        obtain ⟨o, e, _⟩ := T.obj _ _ at7 b hb
        exact (stood b hb o e).2
      refine thnF (pt.run _ s8 σ8 G8 _ I9 q8) fun b s9 ⟨G9, I10, q9⟩ => ?_
      by_cases kept : b = true
      · have q9 : tk σ8 G9 fun y H4 => tv σ8 H4 fun z H5 => ∃ H6, DPut H5 D y z H6 ∧ Nx H6 := by
          have q9 := show (if b = true then _ else _) from q9
          rwa [if_pos kept] at q9
        rw [if_pos kept]
        refine thnF (pk.run _ s9 σ8 G9 _ I10 q9) fun ku s10 ⟨y, G10, I11, ry, q10⟩ => ?_
        refine thnF (pv.run _ s10 σ8 G10 _ I11 q10) fun vu s11 ⟨z, G11, I12, rz, G12, put, nx⟩ => ?_
        exact lay_entry (X := X.blk s3 (upd H2 D o0) scope B fp) hu I12 put ry rz fun s12 I13 => goOn I13 nx
      · have q9 : Nx G9 := by
          have q9 := show (if b = true then _ else _) from q9
          rwa [if_neg kept] at q9
        rw [if_neg kept]
        exact goOn I10 q9
  exact codeAny_compStart_dict walk (T.self X.A 0 _ _ _ at4 walk)

/-- name = {..} on one line, the name a local -/
theorem ps_setDc {i : Nat} {y : Str} {py : Pos} {kx vx tg iter : Expr} {ifs : List Expr} {scope : Scope} {own : List (Str × Nat)} {pos spos : Pos} {wi : TI} {g : TG} {tt : TT} {tk tv : TE} {o0 : HO} (b0 : Bare0 o0) (calm : X.calm = true) (hu : X.A.units + 1 < cLine) (hN : X.N.Nodup) (hy : X.N[i]? = some y) (hyl : X.env.scope.names.lookup y = some .local)
    (hsw : swapsWith (.DictComp kx vx [⟨tg, iter, ifs, 0⟩] scope pos) (some (.Name y py)) spos.line X.env = pure true) (hi : PI X tg iter wi) (ok : BlkOk X.N X.env.scope scope own)
    (hg : AllBlk X scope fun B => PG B tg g) (ht : AllBlk X scope fun B => PTs B ifs tt) (hk : AllBlk X scope fun B => PE B kx tk) (he : AllBlk X scope fun B => PE B vx tv)
    (fold : ∀ x, foldedSetIterable iter X.env x = pure x := by intro _; rfl) :
    PS X (.Assign [.Name y py] (.DictComp kx vx [⟨tg, iter, ifs, 0⟩] scope pos) spos) (tAsg (tDcP o0 wi g tt tk tv (own.map (·.2))) (gName i)) := by
  refine ⟨fun pins s σ H D I h => ?_⟩
  rw [exec_Assign_Name_used _ _ _ _ hsw]
  refine wpAny_bind (wpAny_standAt (wpAny_bind ?_))
  show wpAny _ X.A (do let _ ← comprehension (.DictComp kx vx [⟨tg, iter, ifs, 0⟩] scope pos) scope X.env (firstIterPos [⟨tg, iter, ifs, 0⟩] pos) newDict false (eval iter X.env) (some (assign (.Name y py) X.env))) _ _ s
  have h : tDcP o0 wi g tt tk tv (own.map (·.2)) σ H (fun x H1 => gName i x σ H1 D.nx) := h
  refine wpAny_bind (thn (dc_core (Qf := fun _ s' => SP X pins D .next s') b0 calm hu hN I hi ok hg ht hk he fold h fun L C s' m H' I' q hn f => ?_) fun _ s' hq => wpAny_pure (wpAny_pure hq))
  show wpAny _ _ (assign (.Name y py) X.env (.ref L)) _ _ _
  refine wpAny_assign_Name (store_ok2 (v := V.ref L) I' hN hy (.inl hyl) rfl (fun s2 I2 ⟨a, sb, ha⟩ => ?_) (.inr hyl))
  obtain ⟨f0, f1, f2, f3, f4, f5⟩ := f
  have haC : C ≠ a := by
    rcases ha with z | z
    · rw [z]; exact f1
    · exact fun e => f4 y a z e.symm
  refine ⟨m, hn.sameBut sb haC, fun h3 sb3 => ?_⟩
  exact ⟨_, H', I2.turned (t' := s2.toks) (fun b o hb e => (sb3.2 b hb).trans e) f0 f1 f3 f4 f5, q⟩
theorem sw_trueD {kx vx : Expr} {gs : List Comprehension} {scope : Scope} {pos py : Pos} {y : Str} {l : Nat} {env : Env} (hk : env.scope.kind = .function) (hy : env.scope.names.lookup y = some .local) (hl : (py.line == pos.line) = true)
    (ha : (scope.names.any fun (n, k) => n == y && (k == .local || k == .cell)) = false) : swapsWith (.DictComp kx vx gs scope pos) (some (.Name y py)) l env = pure true := by
  have ky : env.kindOf y = some .local := hy
  have hb : env.blockKind = .function := by unfold Env.blockKind; rw [hk]; rfl
  unfold swapsWith
  simp only [hb, ky, ha, Expr.pos, hl]
  rfl
end
end EV
namespace K6
open PySem PySem.Spec PyProof.Rows L2 LamX NdefX EV
/-! ### right pairs, each behind those ahead of it -/
/-- the opposite of a literal -/
def oth (z : Str) : Str := if cutS z none (some 1) = Str.ofString "-" then cutS z (some 1) none else neg z
theorem oth_lit {q : Bool × Str} (g : Name1 q.2) : oth (lit q) = lit (opp q) := by
  unfold oth
  obtain ⟨b, n⟩ := q
  cases b
  · rw [if_neg fun h => Bool.noConfusion ((dash_lit g).mp h)]
    rfl
  · rw [if_pos ((dash_lit (q := (true, n)) g).mpr rfl)]
    exact cut_neg n
def ixOf (m : Nat) : PyData → Option Nat
  | .int k => if 0 ≤ k ∧ k < m then some k.toNat else none
  | _ => none
def leftOf (so r : List Str) : List Str := r.filter fun z => decide (oth z ∉ so)
def endR (left so : List Str) : PyData → Option (Option Str)
  | .none => if left = [] then some none else none
  | .str z => if left = [z] ∧ z ∉ so then some (some z) else none
  | _ => none
/-- what a pair is: wrong (none), a clause that is denied whole (some none), a literal that is drawn -/
def stepR (rs : List (List Str)) (so : List Str) (d : PyData) : Option (Option Str) :=
  match items d with
  | some [i, l] => match ixOf rs.length i with
    | none => none
    | some k => endR (leftOf so (rs.getD k [])) so l
  | _ => none
def goR (rs : List (List Str)) : List Str → Bool → List PyData → Bool
  | _, _, [] => true
  | _, true, _ :: _ => false
  | so, false, d :: ds => match stepR rs so d with
    | none => false
    | some none => goR rs so true ds
    | some (some z) => goR rs (so ++ [z]) false ds
def areB (rs : List (List Str)) (so : List Str) (d : PyData) : Bool := match items d with
  | none => false
  | some ds => goR rs so false ds
theorem items_cases {d : PyData} {ds : List PyData} (h : items d = some ds) : d = .list ds ∨ d = .tuple ds := by
  cases d <;> simp [items] at h
  · exact .inl (by rw [h])
  · exact .inr (by rw [h])
theorem ixOf_like {m : Nat} {d d' : PyData} (h : Like d d') : ixOf m d = ixOf m d' := by
  cases h with
  | same h => rfl
  | seq h h' t => cases d <;> simp [items] at h <;> cases d' <;> simp [items] at h' <;> rfl
theorem stepR_like {rs : List (List Str)} {so : List Str} {d d' : PyData} (h : Like d d') : stepR rs so d = stepR rs so d' := by
  cases h with
  | same h => rfl
  | seq h h' t =>
    unfold stepR
    rw [h, h']
    cases t with
    | nil => rfl
    | cons h1 t1 =>
      cases t1 with
      | nil => rfl
      | cons h2 t2 =>
        cases t2 with
        | cons h3 t3 => rfl
        | nil =>
          show (match ixOf rs.length _ with | none => _ | some k => _) = (match ixOf rs.length _ with | none => _ | some k => _)
          rw [ixOf_like h1]
          cases h2 with
          | same h => rfl
          | seq h h' t => rcases items_cases h with rfl | rfl <;> rcases items_cases h' with rfl | rfl <;> rfl
theorem goR_like {rs : List (List Str)} : ∀ {ds ds' : List PyData}, LikeAll ds ds' → ∀ so b, goR rs so b ds = goR rs so b ds'
  | _, _, .nil, _, _ => by rfl
  | _, _, .cons h t, so, true => by rfl
  | _, _, .cons h t, so, false => by
    unfold goR
    rw [stepR_like h]
    split
    · rfl
    · exact goR_like t _ _
    · exact goR_like t _ _
theorem areB_like {rs : List (List Str)} {so : List Str} {d d' : PyData} (h : Like d d') : areB rs so d = areB rs so d' := by
  unfold areB
  cases h with
  | same h => rfl
  | seq h h' t => rw [h, h']; exact goR_like t _ _
/-! ### is_index -/
def isI : PyData → Bool
  | .int _ => true
  | .bool _ => true
  | _ => false
def isB : PyData → Bool
  | .bool _ => true
  | _ => false
theorem KD.isT {N : Addr → Prop} {K : PySem.W.Frag} {H : Hp} {v : V} {d : PyData} (h : KD N H v d) : ∃ t, (∀ H', Same H H' → TyX K H' v t) ∧ PySem.W.kitOne K t (.type "int") = some (isI d) ∧ PySem.W.kitOne K t (.type "bool") = some (isB d) := by
  cases h with
  | lst h n t => exact ⟨.type "list", fun _ sm => .base (.lst (sm _ _ h)), kit_ty (show kitB "list" "int" = some false by decide +kernel), kit_ty (show kitB "list" "bool" = some false by decide +kernel)⟩
  | tup h n t => exact ⟨.type "tuple", fun _ sm => .base (.tup (sm _ _ h)), kit_ty (show kitB "tuple" "int" = some false by decide +kernel), kit_ty (show kitB "tuple" "bool" = some false by decide +kernel)⟩
  | non => exact ⟨_, fun _ _ => .base .non, kit_ty (show kitB "NoneType" "int" = some false by decide +kernel), kit_ty (show kitB "NoneType" "bool" = some false by decide +kernel)⟩
  | int i => exact ⟨_, fun _ _ => .base (.int i), kit_ty (show kitB "int" "int" = some true by decide +kernel), kit_ty (show kitB "int" "bool" = some false by decide +kernel)⟩
  | bl b => exact ⟨_, fun _ _ => .base (.bl b), kit_ty (show kitB "bool" "int" = some true by decide +kernel), kit_ty (show kitB "bool" "bool" = some true by decide +kernel)⟩
  | str z => exact ⟨_, fun _ _ => .base (.str z), kit_ty (show kitB "str" "int" = some false by decide +kernel), kit_ty (show kitB "str" "bool" = some false by decide +kernel)⟩
  | dct h n => exact ⟨_, fun _ sm => .base (.dK (sm _ _ h)), kit_ty (show kitB "dict" "int" = some false by decide +kernel), kit_ty (show kitB "dict" "bool" = some false by decide +kernel)⟩
def spIsIndex (K : PySem.W.Frag) (C : Addr) : Sp := fun vs H Q _ => ∃ (x : Addr) (v : V) (sg hp : List Str) (rs : List (List Str)) (N : Addr → Prop) (d : PyData), vs = [.ref x, v] ∧ CodeAt K C H x sg hp rs ∧ KD N H v d ∧ Q (.bl (ixOf rs.length d).isSome) H
section
variable {P : Program} {w : World} {K : PySem.W.Frag} {mg : Str → Option Value} {base : Heap} {f C : Addr} {fd : FuncData}
theorem scIsIndex : FnScope ["code", "thing"] ["code", "thing"] (defScope sIsIndex) := ⟨rfl, rfl, rfl, by decide +kernel, rfl, by decide +kernel, by decide +kernel⟩
theorem ok_isIndex (F : Fun K "is_index" "is_index" sIsIndex f fd) (T : CTxt K mg C) (mi : mg "isinstance" = none) (mn : mg "int" = none) (mb : mg "bool" = none) : FnOk P w K mg base CX0 1 f fd ["code", "thing"] (spIsIndex K C) := by
  refine F.ok scIsIndex (fun vs H Q E h => ?_) (fun cdv A outer s H vs Q E hr h => ?_)
  · obtain ⟨x, v, sg, hp, rs, N, d, rfl, _⟩ := h
    rfl
  · obtain ⟨x, v, sg, hp, rs, N, d, rfl, ⟨dx, a, b, pl, r, hx, _, _, _, hr4⟩, kd, k⟩ := h
    refine ⟨_, pss_one (ps_ret (pe_and (pe_callB call_isi (by rfl) mi (by decide +kernel) (pa_cons (pv 1) (pa_cons (pe_bltn (v := .ty "int") (by rfl) mn (by decide +kernel) rfl) pa_nil)))
      (pe_and (pe_not (pe_callB call_isi (by rfl) mi (by decide +kernel) (pa_cons (pv 1) (pa_cons (pe_bltn (v := .ty "bool") (by rfl) mb (by decide +kernel) rfl) pa_nil))))
      (pe_one (pe_chain op_le op_lt pe_int (pv 1) (pe_callB call_len_dT (by rfl) T.len PySem.boot_len (pa_cons (pe_fld (pv 0) rfl) pa_nil))))))), ?_⟩
    obtain ⟨t, ty, k1, k2⟩ := kd.isT (K := K)
    refine ⟨_, rfl, v, .ty "int", t, .type "int", _, rfl, .ty "int", ty _ (Same.refl H), k1, _, rfl, ?_⟩
    have no : ∀ {b : Bool}, b = false → (ixOf rs.length d) = none → (Q (.bl b) H) := fun e1 e2 => by
      rw [e2] at k
      rw [e1]
      exact k
    cases d with
    | int i =>
      cases kd
      refine iteT ⟨_, rfl, .int i, .ty "bool", t, .type "bool", _, rfl, .ty "bool", ty _ (Same.refl H), k2, _, rfl, _, rfl, iteT ⟨_, rfl, ?_⟩⟩
      refine ⟨0, i, rfl, rfl, _, rfl, ?_⟩
      by_cases h0 : 0 ≤ i
      · rw [decide_eq_true h0]
        refine iteT ⟨_, rfl, x, C, dx, _, _, rfl, hx, T.cl, T.n4, fl4 .., r, _, rfl, hr4, i, _, rfl, rfl, ?_⟩
        have e : (ixOf rs.length (PyData.int i)).isSome = decide (i < (((rs.map rowKv).length : Nat) : Int)) := by
          rw [List.length_map]
          show (if 0 ≤ i ∧ i < (rs.length : Nat) then some i.toNat else none).isSome = _
          by_cases h1 : i < (rs.length : Nat)
          · rw [if_pos ⟨h0, h1⟩, decide_eq_true h1]
            rfl
          · rw [if_neg fun z => h1 z.2, decide_eq_false h1]
            rfl
        rw [e] at k
        exact k
      · rw [decide_eq_false h0]
        exact iteF (no rfl (if_neg fun z => h0 z.1))
    | bool b =>
      cases kd
      exact iteT ⟨_, rfl, .bl b, .ty "bool", t, .type "bool", _, rfl, .ty "bool", ty _ (Same.refl H), k2, _, rfl, _, rfl, iteF (no rfl rfl)⟩
    | _ => exact iteF (no rfl rfl)
end
end K6
namespace K6
open PySem PySem.Spec PyProof.Rows L2 LamX NdefX EV
/-! ### are_drawings -/
/-- what may stand in a pair: no deeper than a list of one text -/
inductive Plain : PyData → Prop
  | non : Plain .none
  | bl (b : Bool) : Plain (.bool b)
  | int (i : Int) : Plain (.int i)
  | str {z : Str} (f : Fit z) : Plain (.str z)
  | one {d : PyData} {z : Str} (h : items d = some [.str z]) (f : Fit z) : Plain d
theorem Plain.lay {d : PyData} (h : Plain d) : d.canLay0 = true ∧ d.depth ≤ 2 := by
  cases h with
  | non => exact ⟨rfl, by decide⟩
  | bl b => exact ⟨rfl, Nat.zero_le _⟩
  | int i => exact ⟨rfl, Nat.zero_le _⟩
  | str f => exact ⟨f.ok, Nat.zero_le _⟩
  | one h f =>
    rcases items_cases h with rfl | rfl
    · refine ⟨?_, by simp [PyData.depth, PyData.depthAll]⟩
      simp only [PyData.canLay0, PyData.canLayAll0, f.ok, Bool.and_self]
    · refine ⟨?_, by simp [PyData.depth, PyData.depthAll]⟩
      simp only [PyData.canLay0, PyData.canLayAll0, f.ok, Bool.and_self]
theorem Plain.shaped1 {d : PyData} (h : Plain d) : SeqAt.shaped (.list [d]) = true := by
  obtain ⟨h1, h2⟩ := h.lay
  refine Bool.and_eq_true_iff.mpr ⟨?_, decide_eq_true ?_⟩
  · simp only [PyData.canLay0, PyData.canLayAll0, h1, Bool.and_self]
  · simp only [PyData.depth, PyData.depthAll]
    omega
theorem KD.dp {N : Addr → Prop} {K : PySem.W.Frag} {H : Hp} {v : V} {d : PyData} (k : KD N H v d) (p : Plain d) : Dp K H v d := by
  cases p with
  | non => cases k; exact .non
  | bl b => cases k; exact .bl b
  | int i => cases k; exact .int i
  | str f => cases k; exact .str _
  | one h f =>
    rcases items_cases h with rfl | rfl
    · cases k with
      | lst h n t =>
        cases t with
        | cons a t =>
          cases t
          cases a
          exact .lst (SqL.of h) (.cons (.str _) .nil)
    · cases k with
      | tup h n t =>
        cases t with
        | cons a t =>
          cases t
          cases a
          exact .tup (SqT.of h) (.cons (.str _) .nil)
theorem eqv_left (ls : List Str) {d : PyData} : PyData.eqv (.list (ls.map PyData.str)) (.list [d]) = (match d with | .str z => decide (ls = [z]) | _ => false) := by
  cases ls with
  | nil => cases d <;> simp [PyData.eqv, PyData.eqvAll]
  | cons x r =>
    cases r with
    | nil => cases d <;> simp [PyData.eqv, PyData.eqvAll, Bool.beq_eq_decide_eq]
    | cons y r => cases d <;> simp [PyData.eqv, PyData.eqvAll]
theorem lits_nd : ∀ {qs : List (Bool × Str)}, (∀ q ∈ qs, Name1 q.2) → (qs.map Prod.snd).Nodup → (qs.map lit).Nodup
  | [], _, _ => List.nodup_nil
  | q :: r, g, nd => by
    obtain ⟨n1, n2⟩ := List.nodup_cons.mp nd
    refine List.nodup_cons.mpr ⟨fun m => ?_, lits_nd (fun q' h => g q' (List.mem_cons_of_mem _ h)) n2⟩
    obtain ⟨q', h', e⟩ := List.mem_map.mp m
    have z := lit_inj (g q' (List.mem_cons_of_mem _ h')) (g q List.mem_cons_self) e
    exact n1 (List.mem_map.mpr ⟨q', h', by rw [z]⟩)
theorem drop_at {α : Type} {xs : List α} {i : Nat} {x : α} (h : xs[i]? = some x) : xs.drop i = x :: xs.drop (i + 1) := by
  obtain ⟨il, e⟩ := List.getElem?_eq_some_iff.mp h
  rw [List.drop_eq_getElem_cons il, e]
theorem ix_hs {K : PySem.W.Frag} {H : Hp} {p : Addr} {b : Bool} {xs : List V} {i : Nat} {v : V} {Q : VK} (h : HS H p b xs) (e : xs[i]? = some v) (q : Q v H) : rIx K (.ref p) (.int (i : Nat)) H Q := by
  cases b
  · exact .inr (.inl ⟨p, xs, _, v, rfl, rfl, SqT.of h, atI_nat e, q⟩)
  · exact .inl ⟨p, xs, _, v, rfl, rfl, SqL.of h, atI_nat e, q⟩
theorem row_lit {ns r : List Str} (good : ∀ z ∈ ns, Name1 z) (h : RowOf ns r) {z : Str} (hz : z ∈ r) : ∃ q : Bool × Str, z = lit q ∧ Name1 q.2 := by
  obtain ⟨qs, hq, rfl⟩ := h
  obtain ⟨n, hn, e⟩ := lits_mem.mp (List.mem_filter.mp hz).1
  rcases e with rfl | rfl
  · exact ⟨(false, _), rfl, good _ hn⟩
  · exact ⟨(true, n), rfl, good _ hn⟩
theorem leftOf_step {so r : List Str} {j : Nat} {z : Str} (h : r[j]? = some z) : leftOf so (r.take (j + 1)) = leftOf so (r.take j) ++ if oth z ∉ so then [z] else [] := by
  unfold leftOf
  rw [List.take_succ, h, List.filter_append]
  congr 1
  by_cases e : oth z ∈ so
  · simp [e]
  · simp [e]
theorem leftOf_len {so r : List Str} : (leftOf so r).length ≤ r.length := List.length_filter_le _ _
theorem ixOf_some {m k : Nat} {d : PyData} (h : ixOf m d = some k) : d = .int (k : Nat) ∧ k < m := by
  cases d with
  | int i =>
    have h : (if 0 ≤ i ∧ i < m then some i.toNat else none) = some k := h
    by_cases c : 0 ≤ i ∧ i < m
    · rw [if_pos c] at h
      have e := Option.some.inj h
      refine ⟨?_, by omega⟩
      rw [← e, Int.toNat_of_nonneg c.1]
    · rw [if_neg c] at h
      cases h
  | _ => cases h
theorem stepR_len {rs : List (List Str)} {so : List Str} {e : PyData} {es : List PyData} (h : items e = some es) (n : es.length ≠ 2) : stepR rs so e = none := by
  unfold stepR
  rw [h]
  match es, n with
  | [], _ => rfl
  | [_], _ => rfl
  | [_, _], n => exact (n rfl).elim
  | _ :: _ :: _ :: _, _ => rfl
theorem stepR_two {rs : List (List Str)} {so : List Str} {e i l : PyData} (h : items e = some [i, l]) : stepR rs so e = match ixOf rs.length i with
    | none => none
    | some k => endR (leftOf so (rs.getD k [])) so l := by
  unfold stepR
  rw [h]
  all_goals rfl
def spAre (K : PySem.W.Frag) (C : Addr) : Sp := fun vs H Q _ => ∃ (x A : Addr) (b : Bool) (v : V) (sg hp : List Str) (rs : List (List Str)) (qs : List (Bool × Str)) (N : Addr → Prop) (d : PyData), vs = [.ref x, .ref A, v] ∧ CodeAt K C H x sg hp rs ∧ OkC sg hp rs ∧
  HS H A b ((qs.map lit).map V.str) ∧ Lits (sg ++ hp) qs ∧ KD N H v d ∧ (∀ ds, items d = some ds → ds.length ≤ 60 ∧ ∀ e ∈ ds, ∀ es, items e = some es → ∀ y ∈ es, Plain y) ∧ ∀ H', Same H H' → Q (.bl (areB rs (qs.map lit) d)) H'
section
variable {P : Program} {w : World} {K : PySem.W.Frag} {mg : Str → Option Value} {base : Heap} {f fS fL fX fO f3 C : Addr} {fd fdS fdL fdX fdO fd3 : FuncData}
abbrev nAre : List Str := ["code", "setting", "thing", "clauses", "literal", "so", "is_over", "pair", "left", "part"]
theorem scAre : FnScope nAre ["code", "setting", "thing"] (defScope sAre) := ⟨rfl, rfl, rfl, by decide +kernel, rfl, by decide +kernel, by decide +kernel⟩
theorem ok_are (F : Fun K "are_drawings" "are_drawings" sAre f fd) (T : CTxt K mg C)
    (GS : FnOk P w K mg base CX0 3 fS fdS ["places", "setting"] (spChkSet K)) (mS : mg "check_setting" = some (.ref fS)) (kS : PySem.W.keepIn K (.ref fS) = true) (bS : L2.Binds K fdS ["places", "setting"] [])
    (GL : FnOk P w K mg base CX0 1 fL fdL ["thing"] (spIsList K)) (mL : mg "is_list" = some (.ref fL)) (kL : PySem.W.keepIn K (.ref fL) = true) (bL : L2.Binds K fdL ["thing"] [])
    (GX : FnOk P w K mg base CX0 1 fX fdX ["code", "thing"] (spIsIndex K C)) (mX : mg "is_index" = some (.ref fX)) (kX : PySem.W.keepIn K (.ref fX) = true) (bX : L2.Binds K fdX ["code", "thing"] [])
    (GO : FnOk P w K mg base CX0 1 fO fdO ["literal"] spOpp) (mO : mg "opposite" = some (.ref fO)) (kO : PySem.W.keepIn K (.ref fO) = true) (bO : L2.Binds K fdO ["literal"] [])
    (G3 : FnOk P w K mg base CX0 1 f3 fd3 ["self"] (spClauses K C)) (m3 : Meth K C "clauses" f3) (b3 : L2.Binds K fd3 ["self"] []) :
    FnOk P w K mg base CX0 4 f fd ["code", "setting", "thing"] (spAre K C) := by
  refine F.ok scAre (fun vs H Q E h => ?_) (fun cdv A' outer s H vs Q E hr h => ?_)
  · obtain ⟨x, A, b, v, sg, hp, rs, qs, N, d, rfl, _⟩ := h
    rfl
  · obtain ⟨x, A, b, v, sg, hp, rs, qs, N, d, rfl, ca, ok, hA, hq, kd, pl2, k⟩ := h
    have hu := hu_of hr
    have hr1 : Room 1 _ := hr.mono (by decide)
    have ca0 := ca
    obtain ⟨dx, a, b', pl, r, hx, ha, hb, hpl, hr4⟩ := ca
    refine ⟨_, (pss_cons (ps_expr (pe_call GS hr (by rfl) mS kS bS .nil pass0 (pa_cons (pe_fld (pv 0) rfl) (pa_cons (pv 1) pa_nil))))
      (pss_cons (ps_if (pt_not (pt_val (pe_call GL hr1 (by rfl) mL kL bL .nil pass0 (pa_cons (pv 2) pa_nil)))) (pss_one (ps_ret pe_bl)) pss_nil)
      (pss_cons (ps_set (i := 3) scAre.nd rfl (.inl rfl) (pe_meth0 (pv 0) T.cl m3 G3 hr1 b3 .nil pass0))
      (pss_cons (ps_set (i := 5) scAre.nd rfl (.inr rfl) (pe_dcP (own := [("literal", 4)]) .k rfl hu scAre.nd (pi_seq (pv 1)) (blkOk_by (N := nAre) (sc := defScope sAre) (by decide +kernel)) (fun _ _ _ _ _ => pg_name (i := 4) scAre.nd rfl (.inl rfl)) (fun _ _ _ _ _ => pts_nil) (fun _ _ _ _ _ => pv 4) (fun _ _ _ _ _ => pe_bl)))
      (pss_cons (ps_set (i := 6) scAre.nd rfl (.inl rfl) pe_bl)
      (pss_cons (ps_for PassesOwn.never rfl (pi_seq (pv 2)) (pg_name (i := 7) scAre.nd rfl (.inl rfl)) (pss_cons (ps_if (PW.pt (pw_or (pt_val (pv 6)) (pw_or (pt_not (pt_val (pe_call GL hr1 (by rfl) mL kL bL .nil pass0 (pa_cons (pv 7) pa_nil)))) (pw_or (pt_cmpR op_ne (pe_callB call_len_seq (by rfl) T.len PySem.boot_len (pa_cons (pv 7) pa_nil)) pe_int (nomark _)) (pw_or1 (pt_not (pt_val (pe_call GX hr1 (by rfl) mX kX bX .nil pass0 (pa_cons (pv 0) (pa_cons (pe_ix ix_seq (pv 7) pe_int (fun _ _ => rfl)) pa_nil)))))))))) (pss_one (ps_ret pe_bl)) pss_nil)
      (pss_cons (ps_set (i := 4) scAre.nd rfl (.inl rfl) (pe_ix ix_seq (pv 7) pe_int (fun _ _ => rfl)))
      (pss_cons (ps_setLc (i := 8) (own := [("part", 9)]) (g := gName 9) (by rfl) scAre.nd rfl rfl (sw_true rfl rfl rfl (by decide +kernel)) (pi_seq (pe_ix ix_list (pv 3) (pe_ix ix_seq (pv 7) pe_int (fun _ _ => rfl)) (fun _ _ => rfl))) (blkOk_by (N := nAre) (sc := defScope sAre) (by decide +kernel)) (fun _ _ _ _ _ => pg_name (i := 9) scAre.nd rfl (.inl rfl)) (fun _ _ _ _ _ => pts_one (pt_cmp (pc_dnotin hu (pe_call GO hr1 (by rfl) mO kO bO .nil pass0 (pa_cons (pv 9) pa_nil)) (pv 5)))) (fun _ _ _ _ _ => pv 9))
      (pss_one (ps_if (pt_cmpR op_isN (pv 4) pe_non rfl) (pss_cons (ps_set (i := 6) scAre.nd rfl (.inl rfl) pe_bl)
      (pss_one (ps_if (pt_truth (pv 8) (fun _ => rfl)) (pss_one (ps_ret pe_bl)) pss_nil))) (pss_one (ps_if (PW.pt (pw_or (pt_cmpR (op_neD hr.units) (pv 8) (pe_lst (pa_cons (pv 4) pa_nil)) (nomark _)) (pw_or1 (pt_cmp (pc_din hu (pv 4) (pv 5)))))) (pss_one (ps_ret pe_bl)) (pss_one (ps_dput hu (pv 5) (pv 4) pe_bl rfl))))))))))
      (pss_one (ps_ret pe_bl)))))))), ?_⟩
    --REST
    obtain ⟨t, ty, kit⟩ := kd.ty (K := K)
    refine ⟨_, rfl, x, C, dx, _, _, rfl, hx, T.cl, T.n3, fl3 .., _, rfl, pl, .ref A, sg ++ hp, rfl, hpl, ok.n60, ok.nd, ok.good, hA.ask hq, fun H1 sm1 => ⟨_, rfl, v, t, _, rfl, fun H' sm => ty H' (sm1.trans sm), kit, fun H2' sm2 => ⟨_, rfl, ?_⟩⟩⟩
    have sm02 := sm1.trans sm2
    cases it : items d with
    | none =>
      have z := k H2' sm02
      unfold areB at z
      rw [it] at z
      exact iteT z
    | some ds =>
      obtain ⟨l60, plain⟩ := pl2 ds it
      obtain ⟨p, bp, xs, rfl, hs, np, ka⟩ := kd.seq it
      have lx := ka.len
      have z0 : ∀ H', Same H H' → Q (.bl (goR rs (qs.map lit) false ds)) H' := fun H' sm => by
        have z := k H' sm
        unfold areB at z
        rw [it] at z
        exact z
      have ndq := lits_nd (fun q h => ok.good _ (hq.sub q h)) hq.nd
      refine iteF ⟨_, rfl, x, dx, _, rfl, sm02 _ _ hx, by rw [fl_eq]; rfl, x, sg, hp, rs, rfl, ?_, fun cl ts hcl hts => ?_⟩
      · exact ⟨dx, a, b', pl, r, sm02 _ _ hx, fun H' sm => ha H' (sm02.trans sm), fun H' sm => hb H' (sm02.trans sm), sm02 _ _ hpl, sm02 _ _ hr4⟩
      have sm3 : Same H (upd H2' cl (.lst (ts.map V.ref))) := sm02.trans (same_new hcl)
      refine ⟨_, rfl, b, A, _, rfl, (hA.same sm3).sq, fun D hD => dc_it walk_sq (fun i H5 => Same (upd H2' cl (.lst (ts.map V.ref))) H5 ∧ H5 D = some (.dK (((qs.map lit).take i).map seenKv))) ⟨same_new hD, upd_same⟩ (fun i H5 _ hh => (hA.same (sm3.trans hh.1)).sq) ?_ ?_⟩
      · rintro i y H5 H6 hi ⟨sm5, hD5⟩ ⟨rfl, hy⟩
        obtain ⟨z, hz, rfl⟩ := get_map hy
        have nb := not_before ndq hz
        have ilt := (List.getElem?_eq_some_iff.mp hz).1
        have few := hq.few
        have n60 := ok.n60
        rw [List.length_map] at ilt
        refine ⟨rfl, _, rfl, _, DPut.k (k := Sum.inr z) hD5 (by rw [List.length_map, List.length_take, sizeLine_eq]; omega), fun c o h => (upd_ne (ne_of_none h hD)).trans (sm5 c o h), ?_⟩
        rw [upd_same, putK_new (seen_none _ nb), List.take_succ, hz, List.map_append]
        rfl
      · rintro H5 ⟨sm5, hD5⟩
        rw [List.length_map, List.take_length] at hD5
        have sm05 := sm3.trans sm5
        have hcl5 : H5 cl = some (.lst (ts.map V.ref)) := sm5 _ _ upd_same
        have hts5 : RowsAt H5 ts rs := Paired.mapP hts fun t r z => sm5 _ _ ((upd_ne (ne_of_none z hcl)).trans z)
        have hs5 := hs.same sm05
        have lq : ((qs.map lit)).length = qs.length := List.length_map _
        refine ⟨_, rfl, bp, p, xs, rfl, hs5.sq, for_it walk_sq (fun i σ H2 => ∃ (so : List Str) (ov : Bool) (o4 o7 o8 o9 : Option V), σ = [some (.ref x), some (.ref A), some (.ref p), some (.ref cl), o4, some (.ref D), some (.bl ov), o7, o8, o9] ∧ Same (upd H2' cl (.lst (ts.map V.ref))) H2 ∧ H2 D = some (.dK (so.map seenKv)) ∧ so.length ≤ qs.length + i ∧ goR rs (qs.map lit) false ds = goR rs so ov (ds.drop i))
          ⟨qs.map lit, false, _, _, _, _, rfl, sm5, hD5, by rw [lq]; omega, by rw [List.drop_zero]⟩ (fun i σ H2 _ ⟨_, _, _, _, _, _, _, sm, _⟩ => (hs.same (sm3.trans sm)).sq) ?_ ?_⟩
        · rintro i y σ H6 H7 hi ⟨so, ov, o4, o7, o8, o9, rfl, sm6, hD6, lso, eq⟩ ⟨rfl, hy⟩
          obtain ⟨e, he, ke⟩ := ka.get hy
          have sm06 := sm3.trans sm6
          have ke7 := ke.step (KN.same sm06)
          have dr : ds.drop i = e :: ds.drop (i + 1) := drop_at he
          rw [dr] at eq
          have ie6 := (List.getElem?_eq_some_iff.mp he).1
          have pe := plain e (List.mem_of_getElem? he)
          have fin : goR rs (qs.map lit) false ds = false → ∀ H', Same H H' → Q (.bl false) H' := fun q H' sm => by
            have z := z0 H' sm
            rw [q] at z
            exact z
          cases ov with
          | true => exact ⟨_, rfl, _, rfl, iteT (iteT (fin eq _ sm06))⟩
          | false =>
            replace eq : goR rs (qs.map lit) false ds = match stepR rs so e with
              | none => false
              | some none => goR rs so true (ds.drop (i + 1))
              | some (some z) => goR rs (so ++ [z]) false (ds.drop (i + 1)) := eq
            obtain ⟨t2, ty2, kit2⟩ := ke7.ty (K := K)
            refine ⟨_, rfl, _, rfl, iteF ⟨_, rfl, y, t2, _, rfl, ty2, kit2, fun H8 sm8 => ⟨_, rfl, ?_⟩⟩⟩
            have sm08 := sm06.trans sm8
            have bad : stepR rs so e = none → Q (.bl false) H8 := fun q => fin (by rw [eq, q]) _ sm08
            cases ie : items e with
            | none => exact iteT (iteT (bad (by unfold stepR; rw [ie])))
            | some es =>
              obtain ⟨pp, bb, ys, rfl, hps, npp, kes⟩ := (ke7.step (KN.same sm8)).seq ie
              have lys := kes.len
              refine iteF ⟨_, rfl, _, _, rfl, hps.at2, rfl, _, rfl, ?_⟩
              by_cases l2 : ys.length = 2
              case neg =>
                rw [show (!decide (V.int (ys.length : Nat) = V.int 2)) = true from by rw [decide_eq_false (fun q => l2 (by injection q with q; omega))]; rfl]
                exact iteT (iteT (bad (stepR_len ie (by omega))))
              case pos =>
              rw [show (!decide (V.int (ys.length : Nat) = V.int 2)) = false from by rw [l2]; rfl]
              obtain ⟨d0, d1, rfl⟩ : ∃ d0 d1, es = [d0, d1] := by
                match es, lys.symm.trans l2 with
                | [a, b], _ => exact ⟨a, b, rfl⟩
              obtain ⟨v0, v1, rfl⟩ : ∃ v0 v1, ys = [v0, v1] := by
                match ys, l2 with
                | [a, b], _ => exact ⟨a, b, rfl⟩
              have st2 := stepR_two (rs := rs) (so := so) ie
              cases kes with
              | cons k0 kt =>
              cases kt with
              | cons k1 kt2 =>
              have pl1 : Plain d1 := pe _ ie d1 (List.mem_cons_of_mem _ List.mem_cons_self)
              refine iteF ⟨_, rfl, _, rfl, ix_hs (i := 0) hps rfl ⟨x, v0, sg, hp, rs, N, d0, rfl, ca0.same sm08, k0, _, rfl, ?_⟩⟩
              cases hx0 : ixOf rs.length d0 with
              | none => exact iteT (bad (by rw [st2, hx0]))
              | some kk =>
                obtain ⟨rfl, kl⟩ := ixOf_some hx0
                cases k0
                rw [hx0] at st2
                replace st2 : stepR rs so e = endR (leftOf so (rs.getD kk [])) so d1 := st2
                have hcl8 : H8 cl = some (.lst (ts.map V.ref)) := sm8 _ _ (sm6 _ _ upd_same)
                have hts8 : RowsAt H8 ts rs := Paired.mapP hts fun t r z => sm8 _ _ (sm6 _ _ ((upd_ne (ne_of_none z hcl)).trans z))
                have hD8 := sm8 _ _ hD6
                have tl : kk < ts.length := by rw [Paired.length hts]; exact kl
                obtain ⟨tk, htk⟩ : ∃ tk, ts[kk]? = some tk := ⟨_, List.getElem?_eq_getElem tl⟩
                obtain ⟨rk, hrk, htup⟩ := hts8.get kk tk htk
                rw [show rs.getD kk [] = rk by rw [List.getD_eq_getElem?_getD, hrk]; rfl] at st2
                have rkrow := ok.row rk (List.mem_of_getElem? hrk)
                have rk120 : rk.length ≤ 120 := by
                  obtain ⟨qs', _, rfl⟩ := rkrow
                  have z1 := asc_len (sg ++ hp) (qs'.map lit)
                  have z2 := ok.n60
                  omega
                refine iteF ⟨_, rfl, ix_hs (i := 1) hps rfl ⟨_, rfl, _, rfl, ix_hs (i := 0) hps rfl ⟨cl, _, _, .ref tk, rfl, rfl, SqL.of hcl8, atI_nat (by rw [List.getElem?_map, htk]; rfl), false, tk, _, rfl, Sq.tup htup, fun D2 hD2 => lc_it walk_sq (fun j H9 => Same H8 H9 ∧ H9 D2 = some (.lst ((leftOf so (rk.take j)).map V.str))) ⟨same_new hD2, upd_same⟩ (fun j H9 _ hh => Sq.tup (hh.1 _ _ htup)) ?_ ?_⟩⟩⟩
                · rintro j y H9 H10 hj ⟨sm9, hD9⟩ ⟨rfl, hy9⟩
                  obtain ⟨z, hz, rfl⟩ := get_map hy9
                  obtain ⟨q, rfl, gq⟩ := row_lit ok.good rkrow (List.mem_of_getElem? hz)
                  have hDD := sm9 _ _ hD8
                  have gz := DGet.k (k := Sum.inr (lit (opp q))) hDD
                  have lst := leftOf_step (so := so) hz
                  rw [oth_lit gq] at lst
                  by_cases mq : lit (opp q) ∈ so
                  · rw [seen_some _ mq] at gz
                    refine ⟨rfl, _, rfl, q, rfl, gq, _, rfl, D, _, rfl, gz, _, rfl, iteF ⟨sm9, ?_⟩⟩
                    rw [hD9, lst, if_neg (fun h => h mq), List.append_nil]
                  · rw [seen_none _ mq] at gz
                    refine ⟨rfl, _, rfl, q, rfl, gq, _, rfl, D, _, rfl, gz, _, rfl, iteT ⟨_, rfl, _, hD9, ?_, fun c o h => (upd_ne (ne_of_none h hD2)).trans (sm9 c o h), ?_⟩⟩
                    · have z1 := @leftOf_len so (rk.take j)
                      have z2 := List.length_take_le' j rk
                      rw [List.length_map, sizeLine_eq]
                      omega
                    · rw [upd_same, lst, if_pos mq, List.map_append]
                      rfl
                · rintro H9 ⟨sm9, hD9⟩
                  rw [List.length_map, List.take_length] at hD9
                  have sm09 := sm08.trans sm9
                  have hDD := sm9 _ _ hD8
                  have bad9 : stepR rs so e = none → Q (.bl false) H9 := fun q => fin (by rw [eq, q]) _ sm09
                  refine ⟨_, rfl, rfl, _, rfl, ?_⟩
                  by_cases hn : d1 = .none
                  · subst hn
                    cases k1
                    refine iteT ⟨_, rfl, _, .inl ⟨_, SqL.of hD9, rfl⟩, ?_⟩
                    by_cases hl : leftOf so rk = []
                    · rw [hl]
                      refine iteF ⟨so, true, _, _, _, _, rfl, (sm6.trans sm8).trans sm9, hDD, by omega, ?_⟩
                      rw [eq, st2]
                      show (match (if leftOf so rk = [] then some none else none) with
                        | none => false
                        | some none => goR rs so true (ds.drop (i + 1))
                        | some (some z) => goR rs (so ++ [z]) false (ds.drop (i + 1))) = _
                      rw [if_pos hl]
                    · rw [show (!((leftOf so rk).map V.str).isEmpty) = true from by cases q : leftOf so rk with
                        | nil => exact (hl q).elim
                        | cons a b => rfl]
                      exact iteT (bad9 (by rw [st2]; exact if_neg hl))
                  · have nv : v1 ≠ .non := by
                      rintro rfl
                      cases k1
                      exact hn rfl
                    rw [decide_eq_false nv]
                    refine iteF ⟨_, rfl, _, rfl, by show 1 ≤ sizeLine; decide, fun l hl => ⟨_, _, .lst (SqL.of ((same_new hl) _ _ hD9)) (dp_strs _), .lst (SqL.of upd_same) (.cons ((k1.step (KN.same (sm9.trans (same_new hl)))).dp pl1) .nil), ?_, pl1.shaped1, _, rfl, ?_⟩⟩
                    · exact shaped_strs _ fun z hz => by
                        obtain ⟨q, rfl, gq⟩ := row_lit ok.good rkrow (List.mem_filter.mp hz).1
                        exact gq.fit.lit
                    have bad10 : stepR rs so e = none → Q (.bl false) (upd H9 l (.lst [v1])) := fun q => fin (by rw [eq, q]) _ (sm09.trans (same_new hl))
                    rw [eqv_left]
                    cases d1 with
                    | none => exact (hn rfl).elim
                    | str z =>
                      cases k1
                      by_cases hl1 : leftOf so rk = [z]
                      · rw [show (!(match PyData.str z with | .str z => decide (leftOf so rk = [z]) | _ => false)) = false from by
                          show (!decide (leftOf so rk = [z])) = false
                          rw [decide_eq_true hl1]
                          rfl]
                        have hD10 := (same_new (o := .lst [V.str z]) hl) _ _ hDD
                        have gz := DGet.k (k := Sum.inr z) hD10
                        by_cases mz : z ∈ so
                        · rw [seen_some _ mz] at gz
                          refine iteF ⟨_, rfl, _, rfl, D, _, rfl, gz, _, rfl, iteT (bad10 ?_)⟩
                          rw [st2]
                          exact if_neg fun h => h.2 mz
                        · rw [seen_none _ mz] at gz
                          have nDl : D ≠ l := ne_of_none hDD hl
                          refine iteF ⟨_, rfl, _, rfl, D, _, rfl, gz, _, rfl, iteF ⟨_, rfl, _, rfl, D, _, rfl, DPut.k (k := Sum.inr z) hD10 ?_, so ++ [z], false, _, _, _, _, rfl, ?_, ?_, ?_, ?_⟩⟩
                          · have few := hq.few
                            have n60 := ok.n60
                            rw [List.length_map, sizeLine_eq]
                            omega
                          · exact fun c o h => (upd_ne (ne_of_none h hD)).trans ((((sm6.trans sm8).trans sm9).trans (same_new hl)) c o h)
                          · rw [upd_same, putK_new (seen_none _ mz), List.map_append]
                            rfl
                          · rw [List.length_append]
                            show so.length + 1 ≤ _
                            omega
                          · rw [eq, st2]
                            show (match (if leftOf so rk = [z] ∧ z ∉ so then some (some z) else none) with
                              | none => false
                              | some none => goR rs so true (ds.drop (i + 1))
                              | some (some z) => goR rs (so ++ [z]) false (ds.drop (i + 1))) = _
                            rw [if_pos ⟨hl1, mz⟩]
                      · rw [show (!(match PyData.str z with | .str z => decide (leftOf so rk = [z]) | _ => false)) = true from by
                          show (!decide (leftOf so rk = [z])) = true
                          rw [decide_eq_false hl1]
                          rfl]
                        exact iteT (iteT (bad10 (by rw [st2]; exact if_neg fun h => hl1 h.1)))
                    | _ => exact iteT (iteT (bad10 (by rw [st2]; rfl)))
        · rintro σ H6 ⟨so, ov, o4, o7, o8, o9, rfl, sm6, hD6, lso, eq⟩
          rw [lx, List.drop_length] at eq
          have z := z0 H6 (sm3.trans sm6)
          rw [eq] at z
          exact z
end
end K6
namespace K6
open PySem PySem.Spec PyProof.Rows L2 LamX NdefX EV
/-! ### the law's own look at pairs -/
/-- a, b, .. = a list or a tuple -/
theorem pg_tl {X : Cx} {pos : Pos} {es : List Expr} {k : Nat} {t : TGs} {n : Nat} (hc : X.calm = true) (h : PGs X es t)
    (hn : (assignEach es X.env).length = n := by rfl) (hst : (assignEach es X.env).findIdx? (·.1) = none := by rfl) : PG X (.Tuple es k pos) (fun v σ H Q => gLst X.K n t v σ H Q ∨ gTup X.K n t v σ H Q) :=
  ⟨fun pins s σ H v u Q I r hw => hw.elim (fun q => (pg_lst hc h hn hst).run pins s σ H v u Q I r q) fun q => (pg_tup hc h hn hst).run pins s σ H v u Q I r q⟩
theorem HS.tl {K : PySem.W.Frag} {H : Hp} {p : Addr} {b : Bool} {xs : List V} {n : Nat} {t : TGs} {σ : L2.St} {Q : L2.St → Hp → Prop} (h : HS H p b xs) (l : xs.length = n) (q : t xs σ H Q) : gLst K n t (.ref p) σ H Q ∨ gTup K n t (.ref p) σ H Q := by
  cases b
  · exact .inr ⟨p, xs, rfl, SqT.of h, l, q⟩
  · exact .inl ⟨p, xs, rfl, SqL.of h, l, q⟩
def spRight (K : PySem.W.Frag) : Sp := fun vs H Q _ => ∃ (CL A p : Addr) (bt : Bool) (xs : List V) (ts : List Addr) (sg hp : List Str) (rs : List (List Str)) (qs : List (Bool × Str)) (N : Addr → Prop) (ds : List PyData), vs = [.ref CL, .ref A, .ref p] ∧
  H CL = some (.lst (ts.map V.ref)) ∧ RowsAt H ts rs ∧ OkC sg hp rs ∧ H A = some (.lst ((qs.map lit).map V.str)) ∧ Lits (sg ++ hp) qs ∧ HS H p bt xs ∧ KDA N H xs ds ∧ ds.length ≤ 60 ∧ (∀ e ∈ ds, ∀ es, items e = some es → ∀ y ∈ es, Plain y) ∧
  ∀ H', Same H H' → Q (.bl (goR rs (qs.map lit) false ds)) H'
section
variable {P : Program} {w : World} {K : PySem.W.Frag} {mg : Str → Option Value} {base : Heap} {f fN : Addr} {fd fdN : FuncData}
abbrev nRight : List Str := ["_law_clauses", "_law_half_here", "_law_things", "_law_so", "_law_is_over", "_law_thing", "_law_index", "_law_literal", "_law_left", "_law_one"]
theorem scRight : FnScope nRight ["_law_clauses", "_law_half_here", "_law_things"] (defScope sRight) := ⟨rfl, rfl, rfl, by decide +kernel, rfl, by decide +kernel, by decide +kernel⟩
theorem ok_right (F : Fun K "_law_are_right" "_law_are_right" sRight f fd) (GN : FnOk P w K mg base CX0 1 fN fdN ["_law_one"] spOpp) (mN : mg "_law_neg" = some (.ref fN)) (kN : PySem.W.keepIn K (.ref fN) = true) (bN : L2.Binds K fdN ["_law_one"] [])
    (mi : mg "isinstance" = none) (ml : mg "list" = none) (mt : mg "tuple" = none) (mn : mg "int" = none) (mb : mg "bool" = none) (mlen : mg "len" = none) :
    FnOk P w K mg base CX0 2 f fd ["_law_clauses", "_law_half_here", "_law_things"] (spRight K) := by
  refine F.ok scRight (fun vs H Q E h => ?_) (fun cdv A' outer s H vs Q E hr h => ?_)
  · obtain ⟨CL, A, p, bt, xs, ts, sg, hp, rs, qs, N, ds, rfl, _⟩ := h
    rfl
  · obtain ⟨CL, A, p, bt, xs, ts, sg, hp, rs, qs, N, ds, rfl, hCL, hts, ok, hA, hq, hs, ka, l60, plain, k⟩ := h
    have hu := hu_of hr
    --PSS
    refine ⟨_, (pss_cons (ps_asg (pe_tup (pa_cons (pe_callTy call_list_of (by rfl) ml (by decide +kernel) (pa_cons (pv 1) pa_nil)) (pa_cons pe_bl pa_nil))) (pg_tup rfl (pgs_cons (pg_name (i := 3) scRight.nd rfl (.inr rfl)) (pgs_cons (pg_name (i := 4) scRight.nd rfl (.inl rfl)) pgs_nil))))
      (pss_cons (ps_for PassesOwn.never rfl (pi_seq (pv 2)) (pg_name (i := 5) scRight.nd rfl (.inl rfl)) (pss_cons (ps_if (PW.pt (pw_or (pt_val (pv 4)) (pw_or (pt_not (pt_val (pe_callB call_isiT (by rfl) mi (by decide +kernel) (pa_cons (pv 5) (pa_cons (pe_tup (pa_cons (pe_bltn (v := .ty "list") (by rfl) ml (by decide +kernel) rfl) (pa_cons (pe_bltn (v := .ty "tuple") (by rfl) mt (by decide +kernel) rfl) pa_nil))) pa_nil))))) (pw_or1 (pt_cmpR op_ne (pe_callB call_len_seq (by rfl) mlen PySem.boot_len (pa_cons (pv 5) pa_nil)) pe_int (nomark _)))))) (pss_one (ps_ret pe_bl)) pss_nil)
      (pss_cons (ps_asg (pv 5) (pg_tl rfl (pgs_cons (pg_name (i := 6) scRight.nd rfl (.inl rfl)) (pgs_cons (pg_name (i := 7) scRight.nd rfl (.inl rfl)) pgs_nil))))
      (pss_cons (ps_if (PW.pt (pw_or (pt_not (pt_val (pe_callB call_isi (by rfl) mi (by decide +kernel) (pa_cons (pv 6) (pa_cons (pe_bltn (v := .ty "int") (by rfl) mn (by decide +kernel) rfl) pa_nil))))) (pw_or (pt_val (pe_callB call_isi (by rfl) mi (by decide +kernel) (pa_cons (pv 6) (pa_cons (pe_bltn (v := .ty "bool") (by rfl) mb (by decide +kernel) rfl) pa_nil)))) (pw_or1 (pt_not (pt_chain op_le op_lt pe_int (pv 6) (pe_callB call_len_seq (by rfl) mlen PySem.boot_len (pa_cons (pv 0) pa_nil)))))))) (pss_one (ps_ret pe_bl)) pss_nil)
      (pss_cons (ps_setLc (i := 8) (own := [("_law_one", 9)]) (g := gName 9) (by rfl) scRight.nd rfl rfl (sw_true rfl rfl rfl (by decide +kernel)) (pi_seq (pe_ix ix_list (pv 0) (pv 6) (fun _ _ => rfl))) (blkOk_by (N := nRight) (sc := defScope sRight) (by decide +kernel)) (fun _ _ _ _ _ => pg_name (i := 9) scRight.nd rfl (.inl rfl)) (fun _ _ _ _ _ => pts_one (show PT _ _ (tTest (tOp (rIn K true) _ _)) from pt_cmpR op_notIn_seq (pe_call GN hr (by rfl) mN kN bN .nil pass0 (pa_cons (pv 9) pa_nil)) (pv 3) rfl)) (fun _ _ _ _ _ => pv 9))
      (pss_cons (ps_set (i := 4) scRight.nd rfl (.inl rfl) (pe_cmpR op_isN (pv 7) pe_non rfl))
      (pss_cons (ps_if (PW.pt (pw_and (pt_cmpR op_isN (pv 7) pe_non rfl) (pw_and1 (pt_cmpR (op_neD hr.units) (pv 8) (pe_lst pa_nil) (nomark _))))) (pss_one (ps_ret pe_bl)) pss_nil)
      (pss_cons (ps_if (PW.pt (pw_and (pt_cmpR op_notN (pv 7) pe_non rfl) (pw_and1 (PW.pt (pw_or (pt_cmpR (op_neD hr.units) (pv 8) (pe_lst (pa_cons (pv 7) pa_nil)) (nomark _)) (pw_or1 (pt_cmpR op_in_seq (pv 7) (pv 3) rfl))))))) (pss_one (ps_ret pe_bl)) pss_nil)
      (pss_one (ps_expr (pe_bm PySem.F.plainAttrs_list PySem.F.slot_list_append PySem.F.type_list_append mt_append (pv 3) (pa_cons (pv 7) pa_nil))))))))))))
      (pss_one (ps_ret pe_bl)))), ?_⟩
    --REST
    have lx := ka.len
    have ndq := lits_nd (fun q h => ok.good _ (hq.sub q h)) hq.nd
    have few := hq.few
    have n60 := ok.n60
    refine ⟨_, rfl, A, _, rfl, .inl (SqL.of hA), fun D hD => ⟨by show 2 ≤ sizeLine; decide, fun t ht => ⟨t, _, rfl, SqT.of upd_same, rfl, _, _, rfl, _, _, rfl, rfl, ?_⟩⟩⟩
    have sm0 : Same H _ := (same_new (o := .lst ((qs.map lit).map V.str)) hD).trans (same_new (o := .tup [.ref D, .bl false]) ht)
    have hD0 := (same_new (o := .tup [.ref D, .bl false]) ht) _ _ (show upd H D (.lst ((qs.map lit).map V.str)) D = some _ from upd_same)
    have lq : ((qs.map lit)).length = qs.length := List.length_map _
    refine ⟨_, rfl, bt, p, xs, rfl, (hs.same sm0).sq, for_it walk_sq (fun i σ H2 => ∃ (so : List Str) (ov : Bool) (sl : List V) (o5 o6 o7 o8 o9 : Option V), σ = [some (.ref CL), some (.ref A), some (.ref p), some (.ref D), some (.bl ov), o5, o6, o7, o8, o9] ∧ Same H H2 ∧ H2 D = some (.lst sl) ∧ sl.length ≤ qs.length + i ∧ (ov = false → sl = so.map V.str) ∧ goR rs (qs.map lit) false ds = goR rs so ov (ds.drop i))
      ⟨qs.map lit, false, _, _, _, _, _, _, rfl, sm0, hD0, by rw [List.length_map, lq]; omega, fun _ => rfl, by rw [List.drop_zero]⟩ (fun i σ H2 _ ⟨_, _, _, _, _, _, _, _, _, sm, _⟩ => (hs.same sm).sq) ?_ ?_⟩
    · rintro i y σ H6 H7 hi ⟨so, ov, sl, o5, o6, o7, o8, o9, rfl, sm06, hD6, lsl, esl, eq⟩ ⟨rfl, hy⟩
      obtain ⟨e, he, ke⟩ := ka.get hy
      have ke7 := ke.step (KN.same sm06)
      have dr : ds.drop i = e :: ds.drop (i + 1) := drop_at he
      rw [dr] at eq
      have ie6 := (List.getElem?_eq_some_iff.mp he).1
      have pe := plain e (List.mem_of_getElem? he)
      have fin : goR rs (qs.map lit) false ds = false → ∀ H', Same H H' → Q (.bl false) H' := fun q H' sm => by
        have z := k H' sm
        rw [q] at z
        exact z
      cases ov with
      | true => exact ⟨_, rfl, _, rfl, iteT (iteT (fin eq _ sm06))⟩
      | false =>
        obtain rfl := esl rfl
        replace eq : goR rs (qs.map lit) false ds = match stepR rs so e with
          | none => false
          | some none => goR rs so true (ds.drop (i + 1))
          | some (some z) => goR rs (so ++ [z]) false (ds.drop (i + 1)) := eq
        obtain ⟨t2, ty2, kit2⟩ := ke7.ty (K := K)
        refine ⟨_, rfl, _, rfl, iteF ⟨_, rfl, by show 2 ≤ sizeLine; decide, fun tp htp => ⟨y, tp, _, t2, _, _, rfl, upd_same, .cons (.ty "list") (.cons (.ty "tuple") .nil), ty2 _ (same_new htp), kit2, _, rfl, ?_⟩⟩⟩
        have sm8 := same_new (o := .tup [.ty "list", .ty "tuple"]) htp
        have sm08 := sm06.trans sm8
        have hD8 := sm8 _ _ hD6
        have bad : ∀ H', Same H H' → stepR rs so e = none → Q (.bl false) H' := fun H' sm q => fin (by rw [eq, q]) _ sm
        cases ie : items e with
        | none => exact iteT (iteT (bad _ sm08 (by unfold stepR; rw [ie])))
        | some es =>
          obtain ⟨pp, bb, ys, rfl, hps, npp, kes⟩ := (ke7.step (KN.same sm8)).seq ie
          have lys := kes.len
          refine iteF ⟨_, rfl, _, _, rfl, hps.at2, rfl, _, rfl, ?_⟩
          by_cases l2 : ys.length = 2
          case neg =>
            rw [show (!decide (V.int (ys.length : Nat) = V.int 2)) = true from by rw [decide_eq_false (fun q => l2 (by injection q with q; omega))]; rfl]
            exact iteT (bad _ sm08 (stepR_len ie (by omega)))
          case pos =>
          rw [show (!decide (V.int (ys.length : Nat) = V.int 2)) = false from by rw [l2]; rfl]
          obtain ⟨d0, d1, rfl⟩ : ∃ d0 d1, es = [d0, d1] := by
            match es, lys.symm.trans l2 with
            | [a, b], _ => exact ⟨a, b, rfl⟩
          obtain ⟨v0, v1, rfl⟩ : ∃ v0 v1, ys = [v0, v1] := by
            match ys, l2 with
            | [a, b], _ => exact ⟨a, b, rfl⟩
          have st2 := stepR_two (rs := rs) (so := so) ie
          cases kes with
          | cons k0 kt =>
          cases kt with
          | cons k1 kt2 =>
          have pl1 : Plain d1 := pe _ ie d1 (List.mem_cons_of_mem _ List.mem_cons_self)
          obtain ⟨t3, ty3, ki, kb⟩ := k0.isT (K := K)
          have hCL8 := sm08 _ _ hCL
          have ltr := Paired.length hts
          refine iteF ⟨_, rfl, hps.tl rfl ⟨_, _, rfl, _, _, rfl, rfl, _, rfl, v0, .ty "int", t3, .type "int", _, rfl, .ty "int", ty3 _ (Same.refl _), ki, _, rfl, ?_⟩⟩
          cases hx0 : ixOf rs.length d0 with
          | none =>
            have bad' := bad _ sm08 (by rw [st2, hx0])
            cases d0 with
            | int i0 =>
              cases k0
              refine iteF ⟨_, rfl, .int i0, .ty "bool", t3, .type "bool", _, rfl, .ty "bool", ty3 _ (Same.refl _), kb, _, rfl, iteF ⟨_, rfl, 0, i0, rfl, rfl, _, rfl, ?_⟩⟩
              by_cases h0 : 0 ≤ i0
              · rw [decide_eq_true h0]
                refine iteT ⟨_, rfl, CL, _, rfl, .inl (SqL.of hCL8), i0, _, rfl, rfl, _, rfl, ?_⟩
                have z : ¬ (0 ≤ i0 ∧ i0 < (rs.length : Nat)) := fun c => by
                  have hx0 : (if 0 ≤ i0 ∧ i0 < (rs.length : Nat) then some i0.toNat else none) = none := hx0
                  rw [if_pos c] at hx0
                  cases hx0
                rw [decide_eq_false (show ¬ i0 < ((ts.map V.ref).length : Nat) by rw [List.length_map, ltr]; exact fun c => z ⟨h0, c⟩)]
                exact iteT bad'
              · rw [decide_eq_false h0]
                exact iteF ⟨_, rfl, iteT bad'⟩
            | bool b =>
              cases k0
              exact iteF ⟨_, rfl, .bl b, .ty "bool", t3, .type "bool", _, rfl, .ty "bool", ty3 _ (Same.refl _), kb, _, rfl, iteT (iteT bad')⟩
            | _ => exact iteT (iteT bad')
          | some kk =>
            obtain ⟨rfl, kl⟩ := ixOf_some hx0
            cases k0
            rw [hx0] at st2
            replace st2 : stepR rs so e = endR (leftOf so (rs.getD kk [])) so d1 := st2
            have hts8 : RowsAt _ ts rs := Paired.mapP hts fun t r z => sm08 _ _ z
            have tl : kk < ts.length := by rw [ltr]; exact kl
            obtain ⟨tk, htk⟩ : ∃ tk, ts[kk]? = some tk := ⟨_, List.getElem?_eq_getElem tl⟩
            obtain ⟨rk, hrk, htup⟩ := hts8.get kk tk htk
            rw [show rs.getD kk [] = rk by rw [List.getD_eq_getElem?_getD, hrk]; rfl] at st2
            have rkrow := ok.row rk (List.mem_of_getElem? hrk)
            have rk120 : rk.length ≤ 120 := by
              obtain ⟨qs', _, rfl⟩ := rkrow
              have z1 := asc_len (sg ++ hp) (qs'.map lit)
              omega
            refine iteF ⟨_, rfl, .int kk, .ty "bool", t3, .type "bool", _, rfl, .ty "bool", ty3 _ (Same.refl _), kb, _, rfl, iteF ⟨_, rfl, 0, kk, rfl, rfl, _, rfl, ?_⟩⟩
            rw [decide_eq_true (Int.natCast_nonneg kk)]
            refine iteT ⟨_, rfl, CL, _, rfl, .inl (SqL.of hCL8), kk, _, rfl, rfl, _, rfl, ?_⟩
            rw [decide_eq_true (show (kk : Int) < ((ts.map V.ref).length : Nat) by rw [List.length_map]; omega)]
            refine iteF ⟨_, rfl, _, rfl, CL, _, _, .ref tk, rfl, rfl, SqL.of hCL8, atI_nat (by rw [List.getElem?_map, htk]; rfl), false, tk, _, rfl, Sq.tup htup, fun D2 hD2 => lc_it walk_sq (fun j H9 => Same _ H9 ∧ H9 D2 = some (.lst ((leftOf so (rk.take j)).map V.str))) ⟨same_new hD2, upd_same⟩ (fun j H9 _ hh => Sq.tup (hh.1 _ _ htup)) ?_ ?_⟩
            · rintro j y H9 H10 hj ⟨sm9, hD9⟩ ⟨rfl, hy9⟩
              obtain ⟨z, hz, rfl⟩ := get_map hy9
              obtain ⟨q, rfl, gq⟩ := row_lit ok.good rkrow (List.mem_of_getElem? hz)
              have hDD := sm9 _ _ hD8
              have lst := leftOf_step (so := so) hz
              rw [oth_lit gq] at lst
              refine ⟨rfl, _, rfl, q, rfl, gq, _, rfl, D, _, rfl, .inl (SqL.of hDD), rfl, flat_str so, _, rfl, ?_⟩
              rw [if_pos rfl, inV_str]
              by_cases mq : lit (opp q) ∈ so
              · rw [decide_eq_true mq]
                refine iteF ⟨sm9, ?_⟩
                rw [hD9, lst, if_neg (fun h => h mq), List.append_nil]
              · rw [decide_eq_false mq]
                refine iteT ⟨_, rfl, _, hD9, ?_, fun c o h => (upd_ne (ne_of_none h hD2)).trans (sm9 c o h), ?_⟩
                · have z1 := @leftOf_len so (rk.take j)
                  have z2 := List.length_take_le' j rk
                  rw [List.length_map, sizeLine_eq]
                  omega
                · rw [upd_same, lst, if_pos mq, List.map_append]
                  rfl
            · rintro H9 ⟨sm9, hD9⟩
              rw [List.length_map, List.take_length] at hD9
              have sm09 := sm08.trans sm9
              have hDD := sm9 _ _ hD8
              have fitL : ∀ z ∈ leftOf so rk, Fit z := fun z hz => by
                obtain ⟨q, rfl, gq⟩ := row_lit ok.good rkrow (List.mem_filter.mp hz).1
                exact gq.fit.lit
              refine ⟨_, rfl, rfl, _, rfl, rfl, _, rfl, ?_⟩
              by_cases hn : d1 = .none
              · subst hn
                cases k1
                refine iteT ⟨_, rfl, Nat.zero_le _, fun l hl => ⟨_, _, .lst (SqL.of ((same_new hl) _ _ hD9)) (dp_strs _), .lst (SqL.of upd_same) .nil, shaped_strs _ fitL, by decide, _, rfl, ?_⟩⟩
                rw [eqv_nilS]
                have sm11 := sm09.trans (same_new (o := .lst []) hl)
                by_cases hl1 : leftOf so rk = []
                · rw [decide_eq_true hl1]
                  have hD11 := (same_new (o := .lst []) hl) _ _ hDD
                  refine iteF ⟨_, rfl, rfl, _, rfl, iteF (iteF ⟨_, rfl, .inl ⟨rfl, _, SqL.of hD11⟩, _, rfl, D, _, _, rfl, rfl, hD11, ?_, so, true, _, _, _, _, _, _, rfl, ?_, upd_same, ?_, (fun h => nomatch h), ?_⟩)⟩
                  · rw [sizeLine_eq]; omega
                  · exact fun c o h => (upd_ne (ne_of_none h hD)).trans (sm11 c o h)
                  · rw [List.length_append]
                    show _ + 1 ≤ _
                    omega
                  · rw [eq, st2]
                    show (match (if leftOf so rk = [] then some none else none) with
                      | none => false
                      | some none => goR rs so true (ds.drop (i + 1))
                      | some (some z) => goR rs (so ++ [z]) false (ds.drop (i + 1))) = _
                    rw [if_pos hl1]
                · rw [decide_eq_false hl1]
                  exact iteT (bad _ sm11 (by rw [st2]; exact if_neg hl1))
              · have nv : v1 ≠ .non := by
                  rintro rfl
                  cases k1
                  exact hn rfl
                rw [decide_eq_false nv]
                refine iteF (iteF ⟨_, rfl, rfl, _, rfl, ?_⟩)
                rw [decide_eq_false nv]
                refine iteT ⟨_, rfl, _, rfl, by show 1 ≤ sizeLine; decide, fun l hl => ⟨_, _, .lst (SqL.of ((same_new hl) _ _ hD9)) (dp_strs _), .lst (SqL.of upd_same) (.cons ((k1.step (KN.same (sm9.trans (same_new hl)))).dp pl1) .nil), shaped_strs _ fitL, pl1.shaped1, _, rfl, ?_⟩⟩
                have sm11 := sm09.trans (same_new (o := .lst [v1]) hl)
                have bad10 : stepR rs so e = none → Q (.bl false) (upd H9 l (.lst [v1])) := bad _ sm11
                rw [eqv_left]
                cases d1 with
                | none => exact (hn rfl).elim
                | str z =>
                  cases k1
                  by_cases hl1 : leftOf so rk = [z]
                  · rw [show (!(match PyData.str z with | .str z => decide (leftOf so rk = [z]) | _ => false)) = false from by
                      show (!decide (leftOf so rk = [z])) = false
                      rw [decide_eq_true hl1]
                      rfl]
                    have hD10 := (same_new (o := .lst [V.str z]) hl) _ _ hDD
                    refine iteF ⟨_, rfl, _, rfl, D, _, rfl, .inl (SqL.of hD10), rfl, flat_str so, _, rfl, ?_⟩
                    rw [if_neg (by decide), inV_str]
                    by_cases mz : z ∈ so
                    · rw [decide_eq_true mz]
                      refine iteT (bad10 ?_)
                      rw [st2]
                      exact if_neg fun h => h.2 mz
                    · rw [decide_eq_false mz]
                      refine iteF ⟨_, rfl, .inl ⟨rfl, _, SqL.of hD10⟩, _, rfl, D, _, _, rfl, rfl, hD10, ?_, so ++ [z], false, _, _, _, _, _, _, rfl, ?_, upd_same, ?_, (fun _ => ?_), ?_⟩
                      · rw [sizeLine_eq]; omega
                      · exact fun c o h => (upd_ne (ne_of_none h hD)).trans (sm11 c o h)
                      · rw [List.length_append]
                        show _ + 1 ≤ _
                        omega
                      · rw [List.map_append]
                        rfl
                      · rw [eq, st2]
                        show (match (if leftOf so rk = [z] ∧ z ∉ so then some (some z) else none) with
                          | none => false
                          | some none => goR rs so true (ds.drop (i + 1))
                          | some (some z) => goR rs (so ++ [z]) false (ds.drop (i + 1))) = _
                        rw [if_pos ⟨hl1, mz⟩]
                  · rw [show (!(match PyData.str z with | .str z => decide (leftOf so rk = [z]) | _ => false)) = true from by
                      show (!decide (leftOf so rk = [z])) = true
                      rw [decide_eq_false hl1]
                      rfl]
                    exact iteT (iteT (bad10 (by rw [st2]; exact if_neg fun h => hl1 h.1)))
                | _ => exact iteT (iteT (bad10 (by rw [st2]; rfl)))
    · rintro σ H6 ⟨so, ov, sl, o5, o6, o7, o8, o9, rfl, sm06, hD6, lsl, esl, eq⟩
      rw [lx, List.drop_length] at eq
      have z := k H6 sm06
      rw [eq] at z
      exact z
end
end K6
namespace K6
open PySem PySem.Spec PyProof.Rows L2 LamX NdefX EV
/-! ### the law's walk: pairs in an order of its own -/
def lD : Option Str → PyData
  | none => .none
  | some z => .str z
def lV : Option Str → V
  | none => .non
  | some z => .str z
/-- a pair that the law draws -/
def PairD (d : PyData) : Prop := ∃ (i : Nat) (l : Option Str), d = .tuple [.int (i : Nat), lD l] ∧ (∀ z, l = some z → Fit z) ∧ i ≤ 1000
theorem PairD.plain {d : PyData} (h : PairD d) : ∀ es, items d = some es → ∀ y ∈ es, Plain y := by
  obtain ⟨i, l, rfl, f, _⟩ := h
  intro es e y hy
  cases e
  rcases List.mem_cons.mp hy with rfl | hy
  · exact .int _
  · rcases List.mem_cons.mp hy with rfl | hy
    · cases l with
      | none => exact .non
      | some z => exact .str (f z rfl)
    · cases hy
theorem pairs_lay : ∀ {ds : List PyData}, (∀ d ∈ ds, PairD d) → PyData.canLayAll0 ds = true ∧ PyData.depthAll ds ≤ 2
  | [], _ => ⟨rfl, by decide⟩
  | d :: ds, h => by
    obtain ⟨h1, h2⟩ := pairs_lay (ds := ds) fun x hx => h x (List.mem_cons_of_mem _ hx)
    obtain ⟨i, l, rfl, f, _⟩ := h d List.mem_cons_self
    have z : PyData.canLay0 (lD l) = true ∧ PyData.depth (lD l) = 0 := by
      cases l with
      | none => exact ⟨rfl, rfl⟩
      | some z => exact ⟨(f z rfl).ok, rfl⟩
    refine ⟨?_, ?_⟩
    · simp only [PyData.canLayAll0, PyData.canLay0, z.1, h1, Bool.and_self]
    · simp only [PyData.depthAll, PyData.depth, z.2]
      omega
theorem shaped_pairs {ds : List PyData} (h : ∀ d ∈ ds, PairD d) : SeqAt.shaped (.list ds) = true := by
  obtain ⟨h1, h2⟩ := pairs_lay h
  refine Bool.and_eq_true_iff.mpr ⟨?_, decide_eq_true ?_⟩
  · simp only [PyData.canLay0, h1]
  · simp only [PyData.depth]
    omega
theorem KD.pair {N : Addr → Prop} {K : PySem.W.Frag} {H : Hp} {v : V} {d : PyData} (k : KD N H v d) (h : PairD d) : Dp K H v d ∧ ∃ (t : Addr) (i : Nat) (l : Option Str), v = .ref t ∧ d = .tuple [.int (i : Nat), lD l] ∧ H t = some (.tup [.int (i : Nat), lV l]) := by
  obtain ⟨i, l, rfl, f, _⟩ := h
  cases k with
  | tup h n t =>
    cases t with
    | cons a t =>
      cases a
      cases t with
      | cons b t =>
        cases t
        cases l with
        | none => cases b; exact ⟨.tup (SqT.of h) (.cons (.int _) (.cons .non .nil)), _, i, none, rfl, rfl, h⟩
        | some z => cases b; exact ⟨.tup (SqT.of h) (.cons (.int _) (.cons (.str z) .nil)), _, i, some z, rfl, rfl, h⟩
theorem KDA.dps {N : Addr → Prop} {K : PySem.W.Frag} {H : Hp} : ∀ {vs : List V} {ds : List PyData}, KDA N H vs ds → (∀ d ∈ ds, PairD d) → DpAll K H vs ds
  | _, _, .nil, _ => .nil
  | _, _, .cons a t, h => .cons (a.pair (h _ List.mem_cons_self)).1 (KDA.dps t fun x hx => h x (List.mem_cons_of_mem _ hx))
theorem eqv_nilD (ds : List PyData) : PyData.eqv (.list ds) (.list []) = decide (ds = []) := by
  cases ds <;> simp [PyData.eqv, PyData.eqvAll]
def OutW (H : Hp) (S L CL A D G : Addr) (c i : Nat) (σ : L2.St) (H2 : Hp) : Prop := ∃ (sl xs : List V) (ds : List PyData) (c2 : Nat) (o5 o6 o7 o8 o9 o10 : Option V), σ = [some (.ref S), some (.ref CL), some (.ref A), some (.ref D), some (.ref G), o5, o6, o7, o8, o9, o10] ∧
  H2 D = some (.lst sl) ∧ sl.length ≤ 60 + i ∧ sl.all flatV = true ∧ H2 G = some (.lst xs) ∧ KDA (fun b => H b = none ∧ b ≠ D ∧ b ≠ G) H2 xs ds ∧ ds.length ≤ i ∧ (∀ d ∈ ds, PairD d) ∧ c2 ≤ c + i ∧ StreamAt H2 S L c2 ∧ Kept S L H H2
def InW (H H2 : Hp) (S CL A D G E : Addr) (j : Nat) (σ : L2.St) (H4 : Hp) : Prop := ∃ (o5 : Option V) (ys : List V) (es : List PyData) (o7 o8 o9 o10 : Option V), σ = [some (.ref S), some (.ref CL), some (.ref A), some (.ref D), some (.ref G), o5, some (.ref E), o7, o8, o9, o10] ∧
  H4 E = some (.lst ys) ∧ ys.length ≤ j ∧ KDA (fun b => H b = none ∧ b ≠ D ∧ b ≠ G ∧ b ≠ E) H4 ys es ∧ (∀ d ∈ es, PairD d) ∧ Same H2 H4
theorem KDA.last {N : Addr → Prop} {K : PySem.W.Frag} {H : Hp} {vs : List V} {ds : List PyData} (k : KDA N H vs ds) (p : ∀ d ∈ ds, PairD d) (n : ds ≠ []) : ∃ (vi : List V) (t : Addr) (i : Nat) (l : Option Str), vs = vi ++ [.ref t] ∧ H t = some (.tup [.int (i : Nat), lV l]) := by
  have ll := k.len
  rcases List.eq_nil_or_concat vs with rfl | ⟨vi, v, rfl⟩
  · cases ds with
    | nil => exact (n rfl).elim
    | cons a b => cases ll
  · rw [List.concat_eq_append] at *
    obtain ⟨d, hd, kd⟩ := k.get (i := vi.length) (v := v) (by rw [List.getElem?_append_right (Nat.le_refl _), Nat.sub_self]; rfl)
    obtain ⟨_, t, i, l, rfl, _, h⟩ := kd.pair (K := K) (p d (List.mem_of_getElem? hd))
    exact ⟨vi, t, i, l, rfl, h⟩
theorem g2_read {K : PySem.W.Frag} {H4 : Hp} {E G : Addr} {ys xs : List V} {es ds : List PyData} {N M : Addr → Prop} {Qg : Bool → Hp → Prop} {a0 a1 a2 a3 a5 a7 a8 a9 a10 : Option V} (hE : H4 E = some (.lst ys)) (hG : H4 G = some (.lst xs)) (ky : KDA N H4 ys es) (pes : ∀ d ∈ es, PairD d)
    (kx : KDA M H4 xs ds) (pds : ∀ d ∈ ds, PairD d) (h : ∀ b H5, Same H4 H5 → (b = false → es ≠ []) → Qg b H5) :
    (tOr (tTest (tOp (rEqD K) (tVar 6) (tLst tNil))) (tAnd (tTest (tOp (rNeD K) (tVar 4) (tLst tNil))) (tTest (tOp (fun x y H Q => y = V.non ∧ Q (V.bl (decide (x = V.non))) H) (tOp (rIxT K) (tOp (rIxL K) (tVar 4) (tUn (rU fun i => V.int (-i)) (tC (V.int 1)))) (tC (V.int 1))) (tC V.non)))))
      [a0, a1, a2, a3, some (.ref G), a5, some (.ref E), a7, a8, a9, a10] H4 Qg := by
  refine ⟨_, rfl, Nat.zero_le _, fun l1 hl1 => ?_⟩
  have s1 := same_new (o := .lst []) hl1
  refine ⟨_, _, .lst (SqL.of (s1 _ _ hE)) ((ky.step (KN.same s1)).dps pes), .lst (SqL.of upd_same) .nil, shaped_pairs pes, by decide, _, rfl, ?_⟩
  rw [eqv_nilD]
  by_cases e0 : es = []
  · rw [decide_eq_true e0]
    exact iteT (h true _ s1 (fun h => nomatch h))
  · rw [decide_eq_false e0]
    refine iteF ⟨_, rfl, Nat.zero_le _, fun l2 hl2 => ?_⟩
    have s12 := s1.trans (same_new (o := .lst []) hl2)
    refine ⟨_, _, .lst (SqL.of (s12 _ _ hG)) ((kx.step (KN.same s12)).dps pds), .lst (SqL.of upd_same) .nil, shaped_pairs pds, by decide, _, rfl, ?_⟩
    rw [eqv_nilD]
    by_cases e1 : ds = []
    · rw [decide_eq_true e1]
      exact iteF (h false _ s12 (fun _ => e0))
    · rw [decide_eq_false e1]
      obtain ⟨vi, t, i, l, rfl, ht⟩ := (kx.step (KN.same s12)).last (K := K) pds e1
      exact iteT ⟨_, rfl, 1, rfl, G, _, -1, .ref t, rfl, rfl, SqL.of (s12 _ _ hG), atI_last _ _, t, _, 1, lV l, rfl, rfl, SqT.of ht, rfl, rfl, _, rfl, h _ _ s12 (fun _ => e0)⟩
def spWalk (K : PySem.W.Frag) : Sp := fun vs H Q _ => ∃ (S L CL A : Addr) (ts : List Addr) (sg hp : List Str) (rs : List (List Str)) (qs : List (Bool × Str)) (c : Nat), vs = [.ref S, .ref CL, .ref A] ∧ H CL = some (.lst (ts.map V.ref)) ∧ CL ≠ S ∧ CL ≠ L ∧ RowsAt H ts rs ∧ OkC sg hp rs ∧ rs.length ≤ 900 ∧
  H A = some (.lst ((qs.map lit).map V.str)) ∧ Lits (sg ++ hp) qs ∧ c ≤ 90000 ∧ StreamAt H S L c ∧
  ∀ (p : Addr) (xs : List V) (ds : List PyData) (c' : Nat) (H' : Hp), H p = none → H' p = some (.lst xs) → KDA (fun b => H b = none ∧ b ≠ p) H' xs ds → ds.length ≤ 12 → (∀ d ∈ ds, PairD d) → c' ≤ c + 12 → StreamAt H' S L c' → Kept S L H H' → Q (.ref p) H'
section
variable {P : Program} {w : World} {K : PySem.W.Frag} {mg : Str → Option Value} {base : Heap} {f fN fP : Addr} {fd fdN fdP : FuncData}
abbrev nWalk : List Str := ["_law_stream", "_law_clauses", "_law_half_here", "_law_so", "_law_found", "_law_turn", "_law_some", "_law_index", "_law_clause_here", "_law_left", "_law_one"]
theorem scWalk : FnScope nWalk ["_law_stream", "_law_clauses", "_law_half_here"] (defScope sWalk) := ⟨rfl, rfl, rfl, by decide +kernel, rfl, by decide +kernel, by decide +kernel⟩
theorem ok_walk (F : Fun K "_law_walk" "_law_walk" sWalk f fd) (GN : FnOk P w K mg base CX0 1 fN fdN ["_law_one"] spOpp) (mN : mg "_law_neg" = some (.ref fN)) (kN : PySem.W.keepIn K (.ref fN) = true) (bN : L2.Binds K fdN ["_law_one"] [])
    (GP : FnOk P w K mg base CX0 2 fP fdP ["_law_stream", "_law_things"] (spPickL K)) (mP : mg "_law_pick" = some (.ref fP)) (kP : PySem.W.keepIn K (.ref fP) = true) (bP : L2.Binds K fdP ["_law_stream", "_law_things"] [])
    (ml : mg "list" = none) (mr : mg "range" = none) (me : mg "enumerate" = none) (mlen : mg "len" = none) :
    FnOk P w K mg base CX0 3 f fd ["_law_stream", "_law_clauses", "_law_half_here"] (spWalk K) := by
  refine F.ok scWalk (fun vs H Q E h => ?_) (fun cdv A' outer s H vs Q E hr h => ?_)
  · obtain ⟨S, L, CL, A, ts, sg, hp, rs, qs, c, rfl, _⟩ := h
    rfl
  · obtain ⟨S, L, CL, A, ts, sg, hp, rs, qs, c, rfl, hCL, nCS, nCL, hts, ok, r900, hA, hq, hc, hS, k⟩ := h
    have hu := hu_of hr
    have hr1 : Room 1 _ := hr.mono (by decide)
    --PSS
    refine ⟨_, (pss_cons (ps_asg (pe_tup (pa_cons (pe_callTy call_list_of (by rfl) ml (by decide +kernel) (pa_cons (pv 2) pa_nil)) (pa_cons (pe_lst pa_nil) pa_nil))) (pg_tup rfl (pgs_cons (pg_name (i := 3) scWalk.nd rfl (.inr rfl)) (pgs_cons (pg_name (i := 4) scWalk.nd rfl (.inl rfl)) pgs_nil))))
      (pss_cons (ps_for PassesOwn.never rfl (pi_range1 (by rfl) mr (pa_cons pe_int pa_nil)) (pg_name (i := 5) scWalk.nd rfl (.inl rfl)) (pss_cons (ps_set (i := 6) scWalk.nd rfl (.inl rfl) (pe_lst pa_nil))
      (pss_cons (ps_for PassesOwn.never rfl (pi_enumB (by rfl) me (pa_cons (pv 1) pa_nil)) (pg_tup rfl (pgs_cons (pg_name (i := 7) scWalk.nd rfl (.inl rfl)) (pgs_cons (pg_name (i := 8) scWalk.nd rfl (.inl rfl)) pgs_nil))) (pss_cons (ps_setLc (i := 9) (own := [("_law_one", 10)]) (g := gName 10) (by rfl) scWalk.nd rfl rfl (sw_true rfl rfl rfl (by decide +kernel)) (pi_seq (pv 8)) (blkOk_by (N := nWalk) (sc := defScope sWalk) (by decide +kernel)) (fun _ _ _ _ _ => pg_name (i := 10) scWalk.nd rfl (.inl rfl)) (fun _ _ _ _ _ => pts_one (show PT _ _ (tTest (tOp (rIn K true) _ _)) from pt_cmpR op_notIn_seq (pe_call GN hr1 (by rfl) mN kN bN .nil pass0 (pa_cons (pv 10) pa_nil)) (pv 3) rfl)) (fun _ _ _ _ _ => pv 10))
      (pss_one (ps_if (PW.pt (pw_or (pt_cmpR (op_eqD hr.units) (pv 9) (pe_lst pa_nil) (nomark _)) (pw_or1 (PW.pt (pw_and (pt_cmpR op_eq (pe_callB call_len_seq (by rfl) mlen PySem.boot_len (pa_cons (pv 9) pa_nil)) pe_int (nomark _)) (pw_and1 (pt_cmpR op_notIn_seq (pe_ix ix_list (pv 9) pe_int (fun _ _ => rfl)) (pv 3) rfl))))))) (pss_one (ps_expr (pe_bm PySem.F.plainAttrs_list PySem.F.slot_list_append PySem.F.type_list_append mt_append (pv 6) (pa_cons (pe_tup (pa_cons (pv 7) (pa_cons (pe_ifExp (pt_cmpR (op_neD hr.units) (pv 9) (pe_lst pa_nil) (nomark _)) (pe_ix ix_list (pv 9) pe_int (fun _ _ => rfl)) pe_non) pa_nil))) pa_nil)))) pss_nil))))
      (pss_cons (ps_if (PW.pt (pw_or (pt_cmpR (op_eqD hr.units) (pv 6) (pe_lst pa_nil) (nomark _)) (pw_or1 (PW.pt (pw_and (pt_cmpR (op_neD hr.units) (pv 4) (pe_lst pa_nil) (nomark _)) (pw_and1 (pt_cmpR op_isN (pe_ix (show IxR _ (rIxT K) from ix_tup) (pe_ix ix_list (pv 4) (pe_un un_neg pe_int) (fun _ _ => rfl)) pe_int (fun _ _ => rfl)) pe_non rfl))))))) (pss_one (ps_ret (pv 4))) pss_nil)
      (pss_cons (ps_expr (pe_bm PySem.F.plainAttrs_list PySem.F.slot_list_append PySem.F.type_list_append mt_append (pv 4) (pa_cons (pe_call GP hr (by rfl) mP kP bP .nil pass0 (pa_cons (pv 0) (pa_cons (pv 6) pa_nil))) pa_nil)))
      (pss_one (ps_expr (pe_bm PySem.F.plainAttrs_list PySem.F.slot_list_append PySem.F.type_list_append mt_append (pv 3) (pa_cons (pe_ix (show IxR _ (rIxT K) from ix_tup) (pe_ix ix_list (pv 4) (pe_un un_neg pe_int) (fun _ _ => rfl)) pe_int (fun _ _ => rfl)) pa_nil)))))))))
      (pss_one (ps_ret (pv 4))))), ?_⟩
    --REST
    have two := hS.two
    have few := hq.few
    have n60 := ok.n60
    refine ⟨_, rfl, A, _, rfl, .inl (SqL.of hA), fun D hD => ⟨Nat.zero_le _, fun G hG => ⟨by show 2 ≤ sizeLine; decide, fun t ht => ⟨t, _, rfl, SqT.of upd_same, rfl, _, _, rfl, _, _, rfl, rfl, ?_⟩⟩⟩⟩
    have s1 := same_new (o := .lst ((qs.map lit).map V.str)) hD
    have s2 := same_new (o := .lst []) hG
    have s3 := same_new (o := .tup [.ref D, .ref G]) ht
    have sm0 : Same H _ := (s1.trans s2).trans s3
    have hG0 : H G = none := s1.free hG
    have hD3 := (s2.trans s3) _ _ (show upd H D (.lst ((qs.map lit).map V.str)) D = some _ from upd_same)
    have nDG : D ≠ G := ne_of_none (show upd H D (.lst ((qs.map lit).map V.str)) D = some _ from upd_same) hG
    have offD := hS.off hD
    have offG := hS.off hG0
    refine ⟨_, rfl, by decide, by decide, for_range (lo := 0) (n := 12) (OutW H S L CL A D G c)
      ⟨_, [], [], c, _, _, _, _, _, _, rfl, hD3, by rw [List.length_map, List.length_map]; omega, flat_str _, s3 _ _ upd_same, .nil, Nat.le_refl _, (fun _ h => nomatch h), by omega, hS.same sm0, fun b o e _ _ => sm0 b o e⟩ ?_ ?_⟩
    · rintro i σ H2 hi ⟨sl, xs, ds, c2, o5, o6, o7, o8, o9, o10, rfl, hD2', lsl, fsl, hG2, kx, lds, pds, hc2, hS2, hk2⟩
      refine ⟨Nat.zero_le _, fun E hE => ?_⟩
      have hCL2 := hk2 _ _ hCL nCS nCL
      have hts2 := hts.kept two hk2
      have sE := same_new (o := .lst []) hE
      have hE0 : H E = none := hk2.none hE (hS2.off hE).1 (hS2.off hE).2
      have nDE : D ≠ E := ne_of_none hD2' hE
      have nGE : G ≠ E := ne_of_none hG2 hE
      refine ⟨_, rfl, true, CL, _, rfl, SqL.of (sE _ _ hCL2), for_it walk_enumB (InW H H2 S CL A D G E) ⟨_, [], [], _, _, _, _, rfl, upd_same, Nat.le_refl _, .nil, (fun _ h => nomatch h), sE⟩ (fun j σ H4 _ ⟨_, _, _, _, _, _, _, _, _, _, _, _, sm⟩ => SqL.of (sm _ _ hCL2)) ?_ ?_⟩
      · rintro j x σ H4 H5 hj ⟨p5, ys, es, p7, p8, p9, p10, rfl, hE4, lys, ky, pes, sm4⟩ ⟨t4, v1, v2, rfl, ht4, rfl, hv1, hv2⟩
        obtain rfl := Option.some.inj hv1
        have jlt : j < ts.length := by rw [List.length_map] at hj; exact hj
        obtain ⟨tj, htj⟩ : ∃ tj, ts[j]? = some tj := ⟨_, List.getElem?_eq_getElem jlt⟩
        obtain rfl : v2 = .ref tj := by
          have hv2 : (ts.map V.ref)[j]? = some v2 := hv2
          rw [List.getElem?_map, htj] at hv2
          exact (Option.some.inj hv2).symm
        obtain ⟨rj, hrj, htup⟩ := hts2.get j tj htj
        have ltr := Paired.length hts
        have sm5 : Same H2 (upd H4 t4 (.tup [.int (j : Nat), .ref tj])) := sm4.trans (same_new ht4)
        have rrow := ok.row rj (List.mem_of_getElem? hrj)
        have r120 : rj.length ≤ 120 := by
          obtain ⟨qs', _, rfl⟩ := rrow
          have z1 := asc_len (sg ++ hp) (qs'.map lit)
          omega
        have nEt : E ≠ t4 := ne_of_none hE4 ht4
        have hE5 : upd H4 t4 (.tup [.int (j : Nat), .ref tj]) E = some (.lst ys) := (upd_ne nEt).trans hE4
        have ky5 := ky.step (KN.same (same_new (o := .tup [.int (j : Nat), .ref tj]) ht4))
        generalize hH5 : upd H4 t4 (.tup [.int (j : Nat), .ref tj]) = H5 at *
        have ht5 : H5 t4 = some (.tup [.int (j : Nat), .ref tj]) := by rw [← hH5]; exact upd_same
        refine ⟨t4, _, rfl, SqT.of ht5, rfl, _, _, rfl, _, _, rfl, rfl, _, rfl, false, tj, _, rfl, Sq.tup (sm5 _ _ htup), fun D2 hD2 => lc_it walk_sq (fun m H9 => ∃ ls : List Str, Same H5 H9 ∧ H9 D2 = some (.lst (ls.map V.str)) ∧ (∀ z ∈ ls, Fit z) ∧ ls.length ≤ m) ⟨[], same_new hD2, upd_same, (fun _ h => nomatch h), Nat.le_refl _⟩ (fun m H9 _ ⟨_, sm9, _⟩ => Sq.tup (sm9 _ _ (sm5 _ _ htup))) ?_ ?_⟩
        · rintro m y H9 H10 hm ⟨ls, sm9, hD9, fls, lls⟩ ⟨rfl, hy9⟩
          obtain ⟨z, hz, rfl⟩ := get_map hy9
          obtain ⟨q, rfl, gq⟩ := row_lit ok.good rrow (List.mem_of_getElem? hz)
          have hDD := (sm5.trans sm9) _ _ hD2'
          have mlt : m < rj.length := (List.getElem?_eq_some_iff.mp hz).1
          refine ⟨rfl, _, rfl, q, rfl, gq, _, rfl, D, _, rfl, .inl (SqL.of hDD), rfl, fsl, _, rfl, ?_⟩
          refine ite2 (fun _ => ?_) (fun _ => ⟨ls, sm9, hD9, fls, by omega⟩)
          refine ⟨_, rfl, _, hD9, by rw [List.length_map, sizeLine_eq]; omega, ls ++ [lit q], fun c o h => (upd_ne (ne_of_none h hD2)).trans (sm9 c o h), ?_, fun z hz => ?_, by rw [List.length_append]; show ls.length + 1 ≤ _; omega⟩
          · rw [upd_same, List.map_append]
            rfl
          · rcases List.mem_append.mp hz with hz | hz
            · exact fls z hz
            · rw [List.mem_singleton.mp hz]
              exact gq.fit.lit
        · rintro H9 ⟨ls, sm9, hD9, fls, lls⟩
          have sm29 := sm5.trans sm9
          have hE9 := sm9 _ _ hE5
          have ky9 := ky5.step (KN.same sm9)
          -- a further pair
          have fin : ∀ (l : Option Str) (H10 : Hp) (t2 : Addr) (o5 o7 o8 o9 o10 : Option V), Same H9 H10 → (∀ z, l = some z → Fit z) → H10 t2 = none →
              InW H H2 S CL A D G E (j + 1) [some (.ref S), some (.ref CL), some (.ref A), some (.ref D), some (.ref G), o5, some (.ref E), o7, o8, o9, o10] (upd (upd H10 t2 (.tup [.int (j : Nat), lV l])) E (.lst (ys ++ [.ref t2]))) := fun l H10 t2 o5 o7 o8 o9 o10 sm10 fl ht2 => by
            have sm210 := sm29.trans sm10
            have ne : t2 ≠ E := (ne_of_none (sm10 _ _ hE9) ht2).symm
            refine ⟨_, ys ++ [.ref t2], es ++ [.tuple [.int (j : Nat), lD l]], _, _, _, _, rfl, upd_same, by rw [List.length_append]; show ys.length + 1 ≤ _; omega, ?_, fun d hd => ?_, fun b o e => ?_⟩
            · refine KDA.put ?_ fun q m => m.2.2.2
              have t20 := hk2.none (sm210.free ht2) (hS2.off (sm210.free ht2)).1 (hS2.off (sm210.free ht2)).2
              refine KDA.snoc (.tup upd_same ⟨t20, (ne_of_none (sm210 _ _ hD2') ht2).symm, (ne_of_none (sm210 _ _ hG2) ht2).symm, ne⟩ (.cons (.int _) (.cons ?_ .nil))) ((ky9.step (KN.same sm10)).step (KN.same (same_new ht2)))
              cases l with
              | none => exact .non
              | some z => exact .str z
            · rcases List.mem_append.mp hd with hd | hd
              · exact pes d hd
              · rw [List.mem_singleton.mp hd]
                exact ⟨j, l, rfl, fl, by omega⟩
            · exact (upd_ne (ne_of_none e hE)).trans ((same_new ht2) _ _ (sm210 _ _ e))
          have stay : ∀ (H10 : Hp) (o5 o7 o8 o9 o10 : Option V), Same H9 H10 → InW H H2 S CL A D G E (j + 1) [some (.ref S), some (.ref CL), some (.ref A), some (.ref D), some (.ref G), o5, some (.ref E), o7, o8, o9, o10] H10 := fun H10 o5 o7 o8 o9 o10 sm10 =>
            ⟨_, ys, es, _, _, _, _, rfl, sm10 _ _ hE9, by omega, ky9.step (KN.same sm10), pes, sm29.trans sm10⟩
          have ysz : ys.length < sizeLine := by rw [sizeLine_eq]; omega
          refine ⟨_, rfl, Nat.zero_le _, fun l1 hl1 => ⟨_, _, .lst (SqL.of ((same_new hl1) _ _ hD9)) (dp_strs _), .lst (SqL.of upd_same) .nil, shaped_strs _ fls, by decide, _, rfl, ?_⟩⟩
          rw [eqv_nilS]
          have s91 := same_new (o := .lst []) hl1
          by_cases e0 : ls = []
          · rw [decide_eq_true e0]
            refine iteT (iteT ⟨_, rfl, .inl ⟨rfl, _, SqL.of (s91 _ _ hE9)⟩, _, rfl, _, rfl, Nat.zero_le _, fun l2 hl2 => ⟨_, _, .lst (SqL.of ((s91.trans (same_new hl2)) _ _ hD9)) (dp_strs _), .lst (SqL.of upd_same) .nil, shaped_strs _ fls, by decide, _, rfl, ?_⟩⟩)
            rw [eqv_nilS, decide_eq_true e0]
            have s92 := s91.trans (same_new (o := .lst []) hl2)
            exact iteF ⟨by show 2 ≤ sizeLine; decide, fun t2 ht2 => ⟨E, _, _, rfl, rfl, ((s92.trans (same_new ht2)) _ _ hE9), ysz, fin none _ t2 _ _ _ _ _ s92 (fun _ h => nomatch h) ht2⟩⟩
          · rw [decide_eq_false e0]
            refine iteF ⟨_, rfl, D2, _, rfl, .inl (SqL.of (s91 _ _ hD9)), rfl, _, rfl, ?_⟩
            by_cases e1 : ls.length = 1
            · rw [show decide (V.int (((ls.map V.str).length : Nat) : Int) = V.int 1) = true from decide_eq_true (by rw [List.length_map, e1]; rfl)]
              obtain ⟨z, rfl⟩ : ∃ z, ls = [z] := by
                match ls, e1 with
                | [z], _ => exact ⟨z, rfl⟩
              refine iteT ⟨_, rfl, D2, _, 0, .str z, rfl, rfl, SqL.of (s91 _ _ hD9), rfl, _, rfl, D, _, rfl, .inl (SqL.of ((sm29.trans s91) _ _ hD2')), rfl, fsl, _, rfl, ?_⟩
              refine ite2 (fun _ => ?_) (fun _ => ?_)
              · refine ⟨_, rfl, .inl ⟨rfl, _, SqL.of (s91 _ _ hE9)⟩, _, rfl, _, rfl, Nat.zero_le _, fun l2 hl2 => ⟨_, _, .lst (SqL.of ((s91.trans (same_new hl2)) _ _ hD9)) (dp_strs _), .lst (SqL.of upd_same) .nil, shaped_strs _ fls, by decide, _, rfl, ?_⟩⟩
                rw [eqv_nilS, decide_eq_false e0]
                have s92 := s91.trans (same_new (o := .lst []) hl2)
                exact iteT ⟨_, rfl, D2, _, 0, .str z, rfl, rfl, SqL.of (s92 _ _ hD9), rfl, by show 2 ≤ sizeLine; decide, fun t2 ht2 => ⟨E, _, _, rfl, rfl, ((s92.trans (same_new ht2)) _ _ hE9), ysz, fin (some z) _ t2 _ _ _ _ _ s92 (fun y h => by rw [← Option.some.inj h]; exact fls z List.mem_cons_self) ht2⟩⟩
              · exact stay _ _ _ _ _ _ s91
            · rw [show decide (V.int (((ls.map V.str).length : Nat) : Int) = V.int 1) = false from decide_eq_false (fun h => e1 (by rw [List.length_map] at h; injection h with h; omega))]
              exact iteF (iteF (stay _ _ _ _ _ _ s91))
      · rintro σ H4 ⟨p5, ys, es, p7, p8, p9, p10, rfl, hE4, lys, ky, pes, sm4⟩
        have kx4 := kx.step (KN.same sm4)
        have hG4 := sm4 _ _ hG2
        refine g2_read hE4 hG4 ky pes kx4 pds fun b H5 sm45 neb => ?_
        have sm25 := sm4.trans sm45
        have hS5 := hS2.same sm25
        have hE5 := sm45 _ _ hE4
        have hG5 := sm45 _ _ hG4
        have kx5 := kx4.step (KN.same sm45)
        refine ite2 (fun _ => ?_) (fun eb => ?_)
        · exact ⟨_, rfl, k G xs ds c2 H5 hG0 hG5 (kx5.mono fun b h => ⟨h.1, h.2.2⟩) (by omega) pds (by omega) hS5 (hk2.trans fun b o e _ _ => sm25 b o e)⟩
        · have ne := neb (by simpa using eb)
          have ky5 := ky.step (KN.same sm45)
          have hD5 := sm25 _ _ hD2'
          have offE := hS.off hE0
          have pos : 0 < ys.length := by
            rw [ky.len]
            cases es with
            | nil => exact (ne rfl).elim
            | cons a b => exact Nat.succ_pos _
          have ltr := Paired.length hts
          have ysz : ys.length ≤ 1000 := by rw [List.length_map] at lys; omega
          refine ⟨_, rfl, .inl ⟨rfl, _, SqL.of hG5⟩, _, rfl, _, rfl, S, L, E, ys, c2, rfl, SqL.of hE5, (fun H' hk => SqL.of (hk _ _ hE5 offE.1 offE.2)), pos, ysz, by omega, hS5, fun ii v H6 hv hS6 hk6 => ?_⟩
          have hG6 := hk6 _ _ hG5 offG.1 offG.2
          have hD6 := hk6 _ _ hD5 offD.1 offD.2
          obtain ⟨d, hd, kd⟩ := ky5.get hv
          have pd := pes d (List.mem_of_getElem? hd)
          have oM : ∀ q, H q = none → q ≠ S ∧ q ≠ L := fun q h => hS.off h
          have kd6 := (kd.step (KN.kept hk6 fun q m => oM q m.1)).mono (M := fun b => H b = none ∧ b ≠ D ∧ b ≠ G) fun q m => ⟨m.1, m.2.1, m.2.2.1⟩
          have kx6 := kx5.step (KN.kept hk6 fun q m => oM q m.1)
          have lxs := kx.len
          have kx7 := KDA.put (D := G) (o := .lst (xs ++ [v])) (kx6.snoc kd6) fun q m => m.2.2
          obtain ⟨_, tt, pi, l, rfl, rfl, htt⟩ := kd6.pair (K := K) pd
          have nGt : tt ≠ G := ne_of htt hG6 fun z => nomatch z
          refine ⟨G, _, _, rfl, rfl, hG6, by rw [sizeLine_eq]; omega, _, rfl, .inl ⟨rfl, _, SqL.of ((upd_ne nDG).trans hD6)⟩, _, rfl, 1, rfl, G, _, -1, .ref tt, rfl, rfl, SqL.of upd_same, atI_last _ _, tt, _, 1, lV l, rfl, rfl, SqT.of ((upd_ne nGt).trans htt), rfl, D, _, _, rfl, rfl, (upd_ne nDG).trans hD6, by rw [sizeLine_eq]; omega, ?_⟩
          refine ⟨_, _, _, c2 + 1, _, _, _, _, _, _, rfl, upd_same, by rw [List.length_append]; show sl.length + 1 ≤ _; omega, ?_, (upd_ne nDG.symm).trans upd_same, kx7.put fun q m => m.2.1, by rw [List.length_append]; show ds.length + 1 ≤ _; omega, fun d hd => ?_, by omega, (hS6.put offG.1 offG.2).put offD.1 offD.2, ?_⟩
          · rw [List.all_append, fsl]
            cases l <;> rfl
          · rcases List.mem_append.mp hd with hd | hd
            · exact pds d hd
            · rw [List.mem_singleton.mp hd]
              exact pd
          · exact kept_upd (kept_upd ((hk2.trans fun b o e _ _ => sm25 b o e).trans hk6) hG0) hD
    · rintro σ H2 ⟨sl, xs, ds, c2, o5, o6, o7, o8, o9, o10, rfl, hD2, lsl, fsl, hG2, kx, lds, pds, hc2, hS2, hk2⟩
      exact ⟨_, rfl, k G xs ds c2 H2 hG0 hG2 (kx.mono fun b h => ⟨h.1, h.2.2⟩) lds pds hc2 hS2 hk2⟩
end
end K6
namespace K6
open PySem PySem.Spec PyProof.Rows L2 LamX NdefX EV
/-! ### pairs with one thing otherwise -/
/-- no list, or a short one of plain things -/
def GoodD (d : PyData) : Prop := ∀ es, items d = some es → es.length ≤ 3 ∧ ∀ y ∈ es, Plain y
theorem atI_h {α : Type} {x : α} {l : List α} : atI (x :: l) 0 = some x := by
  unfold atI ixN
  rw [if_pos (by decide), if_pos (by rw [List.length_cons]; omega)]
  rfl
theorem PairD.good {d : PyData} (h : PairD d) : GoodD d := fun es e => ⟨by
  obtain ⟨i, l, rfl, _⟩ := h
  cases e
  show 2 ≤ 3
  decide, h.plain es e⟩
theorem GoodD.shal {d : PyData} (h : GoodD d) : shal 3 d := fun es e => ⟨by have := (h es e).1; omega, fun y hy fs ef => by
  cases (h es e).2 y hy with
  | one h1 f =>
    rw [h1] at ef
    cases ef
    refine ⟨by show 1 ≤ 30; decide, fun x hx => ?_⟩
    rw [List.mem_singleton.mp hx]
    exact fun gs eg => nomatch eg
  | _ => cases ef⟩
def oddDs (m : Nat) (n : Str) : List PyData := [.none, .int 5, .str (Str.ofString "ab"), .tuple [.int 0], .tuple [.int 0, .int 1, .int 2], .tuple [.int 0, .str n, .str n], .tuple [.bool true, .str n], .tuple [.int (-1), .none],
  .tuple [.int (m : Nat), .none], .tuple [.int 0, .bool true], .tuple [.str (Str.ofString "0"), .str n], .tuple [.int 0, .list [.str n]], .tuple [.none, .none], .dict [], .tuple [.int 0, .none]]
theorem GoodD.none {d : PyData} (h : items d = Option.none) : GoodD d := fun es e => by rw [h] at e; cases e
theorem GoodD.tup {es : List PyData} (l : es.length ≤ 3) (h : ∀ y ∈ es, Plain y) : GoodD (.tuple es) := fun fs e => by cases e; exact ⟨l, h⟩
theorem plain2 {a b : PyData} (ha : Plain a) (hb : Plain b) : ∀ y ∈ [a, b], Plain y := fun y hy => by
  rcases List.mem_cons.mp hy with rfl | hy
  · exact ha
  · rw [List.mem_singleton.mp hy]
    exact hb
theorem oddDs_good {m : Nat} {n : Str} (fn : Fit n) : ∀ d ∈ oddDs m n, GoodD d := by
  intro d hd
  unfold oddDs at hd
  simp only [List.mem_cons, List.not_mem_nil, or_false] at hd
  rcases hd with rfl | rfl | rfl | rfl | rfl | rfl | rfl | rfl | rfl | rfl | rfl | rfl | rfl | rfl | rfl
  · exact .none rfl
  · exact .none rfl
  · exact .none rfl
  · exact .tup (by decide) fun y hy => by rw [List.mem_singleton.mp hy]; exact .int _
  · refine .tup (by decide) fun y hy => ?_
    rcases List.mem_cons.mp hy with rfl | hy
    · exact .int _
    · exact plain2 (.int _) (.int _) y hy
  · refine .tup (by show 3 ≤ 3; decide) fun y hy => ?_
    rcases List.mem_cons.mp hy with rfl | hy
    · exact .int _
    · exact plain2 (.str fn) (.str fn) y hy
  · exact .tup (by show 2 ≤ 3; decide) (plain2 (.bl _) (.str fn))
  · exact .tup (by show 2 ≤ 3; decide) (plain2 (.int _) .non)
  · exact .tup (by show 2 ≤ 3; decide) (plain2 (.int _) .non)
  · exact .tup (by show 2 ≤ 3; decide) (plain2 (.int _) (.bl _))
  · exact .tup (by show 2 ≤ 3; decide) (plain2 (.str (fit_of (by decide))) (.str fn))
  · exact .tup (by show 2 ≤ 3; decide) (plain2 (.int _) (.one rfl fn))
  · exact .tup (by show 2 ≤ 3; decide) (plain2 .non .non)
  · exact .none rfl
  · exact .tup (by show 2 ≤ 3; decide) (plain2 (.int _) .non)
theorem upd_at {H : Hp} {p : Addr} {o : HO} (h : H p = none) : upd H p o p = some o := upd_same
theorem KD.newL {N : Addr → Prop} {H : Hp} {t : Addr} {n : Str} (nt : N t) (h : H t = none) : KD N (upd H t (.lst [.str n])) (.ref t) (.list [.str n]) := .lst upd_same nt (.cons (.str n) .nil)
section
variable {N : Addr → Prop} {H : Hp}
theorem KDA.app : ∀ {xs ys : List V} {ds es : List PyData}, KDA N H xs ds → KDA N H ys es → KDA N H (xs ++ ys) (ds ++ es)
  | _, _, _, _, .nil, b => b
  | _, _, _, _, .cons h t, b => .cons h (KDA.app t b)
theorem KDA.take : ∀ (i : Nat) {xs : List V} {ds : List PyData}, KDA N H xs ds → KDA N H (xs.take i) (ds.take i)
  | 0, _, _, _ => by rw [List.take_zero, List.take_zero]; exact .nil
  | i + 1, _, _, .nil => .nil
  | i + 1, _, _, .cons h t => .cons h (KDA.take i t)
theorem KDA.drop : ∀ (i : Nat) {xs : List V} {ds : List PyData}, KDA N H xs ds → KDA N H (xs.drop i) (ds.drop i)
  | 0, _, _, a => a
  | i + 1, _, _, .nil => .nil
  | i + 1, _, _, .cons h t => KDA.drop i t
theorem KDA.set {v : V} {d : PyData} (k : KD N H v d) : ∀ (i : Nat) {xs : List V} {ds : List PyData}, KDA N H xs ds → KDA N H (xs.set i v) (ds.set i d)
  | _, _, _, .nil => .nil
  | 0, _, _, .cons _ t => .cons k t
  | i + 1, _, _, .cons h t => .cons h (KDA.set k i t)
theorem KDA.perm : ∀ {ys xs : List V}, ys.Perm xs → ∀ {ds : List PyData}, KDA N H xs ds → ∃ es, KDA N H ys es ∧ es.Perm ds := by
  intro ys xs p
  induction p with
  | nil => exact fun k => ⟨_, k, .refl _⟩
  | cons x p ih =>
    intro ds k
    cases k with
    | cons h t =>
      obtain ⟨es, k1, p1⟩ := ih t
      exact ⟨_, .cons h k1, p1.cons _⟩
  | swap x y l =>
    intro ds k
    cases k with
    | cons h t =>
      cases t with
      | cons h2 t2 => exact ⟨_, .cons h2 (.cons h t2), .swap _ _ _⟩
  | trans p q ih1 ih2 =>
    intro ds k
    obtain ⟨es, k1, p1⟩ := ih2 k
    obtain ⟨fs, k2, p2⟩ := ih1 k1
    exact ⟨fs, k2, p2.trans p1⟩
end
theorem Plain.cnt1 {d : PyData} (h : Plain d) : cnt d ≤ 1 := by
  cases h with
  | one h f =>
    rw [cnt_items h]
    simp [cntL, cnt]
  | _ => simp [cnt]
theorem plain_cnt : ∀ {es : List PyData}, (∀ y ∈ es, Plain y) → cntL es ≤ es.length
  | [], _ => by rw [cntL]; exact Nat.le_refl _
  | d :: es, h => by
    have z := plain_cnt (es := es) fun y hy => h y (List.mem_cons_of_mem _ hy)
    have y := (h d List.mem_cons_self).cnt1
    rw [cntL, List.length_cons]
    omega
theorem GoodD.cnt4 {d : PyData} (h : GoodD d) : cnt d ≤ 4 := by
  cases e : items d with
  | none =>
    cases d <;> simp [items] at e <;> simp [cnt]
  | some es =>
    have z := h es e
    have y := plain_cnt z.2
    rw [cnt_items e]
    omega
theorem good_cnt : ∀ {es : List PyData}, (∀ y ∈ es, GoodD y) → cntL es ≤ 4 * es.length
  | [], _ => by rw [cntL]; exact Nat.zero_le _
  | d :: es, h => by
    have z := good_cnt (es := es) fun y hy => h y (List.mem_cons_of_mem _ hy)
    have y := (h d List.mem_cons_self).cnt4
    rw [cntL, List.length_cons]
    omega
def spBent (K : PySem.W.Frag) : Sp := fun vs H Q _ => ∃ (S L p T : Addr) (xs : List V) (ds : List PyData) (ns : List Str) (m : Nat) (N : Addr → Prop) (c : Nat), vs = [.ref S, .ref p, .ref T, .int (m : Nat)] ∧ H p = some (.lst xs) ∧ p ≠ S ∧ p ≠ L ∧ KDA N H xs ds ∧ ¬ N S ∧ ¬ N L ∧ (∀ d ∈ ds, PairD d) ∧ ds.length ≤ 12 ∧
  H T = some (.lst (ns.map V.str)) ∧ T ≠ S ∧ T ≠ L ∧ ns ≠ [] ∧ ns.length ≤ 60 ∧ (∀ z ∈ ns, Name1 z) ∧ m ≤ 900 ∧ c ≤ 90000 ∧ StreamAt H S L c ∧
  ∀ (p' : Addr) (es : List PyData) (c' : Nat) (H' : Hp), KD (fun b => N b ∨ H b = none) H' (.ref p') (.list es) → es.length ≤ 24 → (∀ d ∈ es, GoodD d) → c' ≤ c + 20 → StreamAt H' S L c' → Kept S L H H' → Q (.ref p') H'
section
variable {P : Program} {w : World} {K : PySem.W.Frag} {mg : Str → Option Value} {base : Heap} {f fD fP fM : Addr} {fd fdD fdP fdM : FuncData}
abbrev nBent : List Str := ["_law_stream", "_law_pairs", "_law_names_here", "_law_many", "_law_found", "_law_way", "_law_at", "_law_odd"]
theorem scBent : FnScope nBent ["_law_stream", "_law_pairs", "_law_names_here", "_law_many"] (defScope sBent) := ⟨rfl, rfl, rfl, by decide +kernel, rfl, by decide +kernel, by decide +kernel⟩
theorem ok_bent (F : Fun K "_law_bent" "_law_bent" sBent f fd) (GD : FnOk P w K mg base CX0 1 fD fdD ["_law_stream", "_law_many"] spDraw) (mD : mg "_law_draw" = some (.ref fD)) (kD : PySem.W.keepIn K (.ref fD) = true) (bD : L2.Binds K fdD ["_law_stream", "_law_many"] [])
    (GP : FnOk P w K mg base CX0 2 fP fdP ["_law_stream", "_law_things"] (spPickL K)) (mP : mg "_law_pick" = some (.ref fP)) (kP : PySem.W.keepIn K (.ref fP) = true) (bP : L2.Binds K fdP ["_law_stream", "_law_things"] [])
    (GM : FnOk P w K mg base CX0 2 fM fdM ["_law_stream", "_law_things"] (spMixed K)) (mM : mg "_law_mixed" = some (.ref fM)) (kM : PySem.W.keepIn K (.ref fM) = true) (bM : L2.Binds K fdM ["_law_stream", "_law_things"] [])
    (ml : mg "list" = none) (mlen : mg "len" = none) :
    FnOk P w K mg base CX0 3 f fd ["_law_stream", "_law_pairs", "_law_names_here", "_law_many"] (spBent K) := by
  refine F.ok scBent (fun vs H Q E h => ?_) (fun cdv A' outer s H vs Q E hr h => ?_)
  · obtain ⟨S, L, p, T, xs, ds, ns, m, N, c, rfl, _⟩ := h
    rfl
  · obtain ⟨S, L, p, T, xs, ds, ns, m, N, c, rfl, hp, npS, npL, ka, nS, nL, pds, l12, hT, nTS, nTL, ne, n60, good, hm, hc, hS, k⟩ := h
    have hu := hu_of hr
    have hr1 : Room 1 _ := hr.mono (by decide)
    --PSS
    refine ⟨_, (pss_cons (ps_par3 (i := 4) (j := 5) (l := 6) rfl scBent.nd rfl rfl rfl (by decide) (by decide) (by decide) (by rfl) (by rfl) (by rfl) (pa_cons (pe_callTy call_list_of (by rfl) ml (by decide +kernel) (pa_cons (pv 1) pa_nil)) (pa_cons (pe_call GD hr1 (by rfl) mD kD bD .nil pass0 (pa_cons (pv 0) (pa_cons pe_int pa_nil))) (pa_cons (pe_call GD hr1 (by rfl) mD kD bD .nil pass0 (pa_cons (pv 0) (pa_cons (pe_op op_add (pe_callB call_len_seq (by rfl) mlen PySem.boot_len (pa_cons (pv 1) pa_nil)) pe_int) pa_nil))) pa_nil))) (by rfl))
      (pss_cons (ps_set (i := 7) scBent.nd rfl (.inl rfl) (pe_lst (pa_cons pe_non (pa_cons pe_int (pa_cons pe_str (pa_cons (pe_tup (pa_cons pe_int pa_nil)) (pa_cons (pe_tup (pa_cons pe_int (pa_cons pe_int (pa_cons pe_int pa_nil)))) (pa_cons (pe_tup (pa_cons pe_int (pa_cons (pe_ix ix_list (pv 2) pe_int (fun _ _ => rfl)) (pa_cons (pe_ix ix_list (pv 2) pe_int (fun _ _ => rfl)) pa_nil)))) (pa_cons (pe_tup (pa_cons pe_bl (pa_cons (pe_ix ix_list (pv 2) pe_int (fun _ _ => rfl)) pa_nil))) (pa_cons (pe_tup (pa_cons (pe_un un_neg pe_int) (pa_cons pe_non pa_nil))) pa_nil))))))))))
      (pss_cons (ps_set (i := 7) scBent.nd rfl (.inl rfl) (pe_op op_cat (pv 7) (pe_lst (pa_cons (pe_tup (pa_cons (pv 3) (pa_cons pe_non pa_nil))) (pa_cons (pe_tup (pa_cons pe_int (pa_cons pe_bl pa_nil))) (pa_cons (pe_tup (pa_cons pe_str (pa_cons (pe_ix ix_list (pv 2) pe_int (fun _ _ => rfl)) pa_nil))) (pa_cons (pe_tup (pa_cons pe_int (pa_cons (pe_lst (pa_cons (pe_ix ix_list (pv 2) pe_int (fun _ _ => rfl)) pa_nil)) pa_nil))) (pa_cons (pe_tup (pa_cons pe_non (pa_cons pe_non pa_nil))) (pa_cons pe_dnewK (pa_cons (pe_tup (pa_cons pe_int (pa_cons pe_non pa_nil))) pa_nil))))))))))
      (pss_cons (ps_if (pt_cmpR op_lt (pv 5) pe_int (nomark _)) (pss_one (ps_expr (pe_bm PySem.F.plainAttrs_list PySem.F.slot_list_insert PySem.F.type_list_insert mt_insert (pv 4) (pa_cons (pv 6) (pa_cons (pe_call GP hr (by rfl) mP kP bP .nil pass0 (pa_cons (pv 0) (pa_cons (pv 7) pa_nil))) pa_nil))))) (pss_one (ps_if (pt_cmpR op_eq (pv 5) pe_int (nomark _)) (pss_one (ps_expr (pe_bm PySem.F.plainAttrs_list PySem.F.slot_list_insert PySem.F.type_list_insert mt_insert (pv 4) (pa_cons (pv 6) (pa_cons (pe_tup (pa_cons (pe_call GD hr1 (by rfl) mD kD bD .nil pass0 (pa_cons (pv 0) (pa_cons (pe_op op_add (pv 3) pe_int) pa_nil))) (pa_cons (pe_call GP hr (by rfl) mP kP bP .nil pass0 (pa_cons (pv 0) (pa_cons (pv 2) pa_nil))) pa_nil))) pa_nil))))) (pss_one (ps_if (pt_cmpR op_eq (pv 5) pe_int (nomark _)) (pss_one (ps_set (i := 4) scBent.nd rfl (.inl rfl) (pe_op op_cat (pv 4) (pe_slice sl_list (pv 4) po_none (po_some pe_int))))) (pss_one (ps_if (pt_cmpR op_eq (pv 5) pe_int (nomark _)) (pss_one (ps_set (i := 4) scBent.nd rfl (.inl rfl) (pe_call GM hr (by rfl) mM kM bM .nil pass0 (pa_cons (pv 0) (pa_cons (pv 4) pa_nil))))) (pss_one (ps_if (pt_cmpR op_eq (pv 5) pe_int (nomark _)) (pss_one (ps_set (i := 4) scBent.nd rfl (.inl rfl) (pe_slice sl_list (pv 4) (po_some pe_int) po_none))) (pss_one (ps_if (PW.pt (pw_and (pt_cmpR op_eq (pv 5) pe_int (nomark _)) (pw_and1 (pt_cmpR op_lt (pv 6) (pe_callB call_len_seq (by rfl) mlen PySem.boot_len (pa_cons (pv 4) pa_nil)) (nomark _))))) (pss_one (ps_asg (pe_tup (pa_cons (pe_ix (show IxR _ (rIxT K) from ix_tup) (pe_ix ix_list (pv 4) (pv 6) (fun _ _ => rfl)) pe_int (fun _ _ => rfl)) (pa_cons pe_non pa_nil))) (pg_sub (pv 4) (pv 6) set_list))) pss_nil)))))))))))
      (pss_one (ps_ret (pv 4))))))), ?_⟩
    --REST
    have hn : ∀ q, N q → q ≠ S ∧ q ≠ L := fun q n => ⟨fun e => nS (e ▸ n), fun e => nL (e ▸ n)⟩
    have lx := ka.len
    obtain ⟨n, r, rfl⟩ : ∃ n r, ns = n :: r := by
      cases ns with
      | nil => exact (ne rfl).elim
      | cons n r => exact ⟨n, r, rfl⟩
    refine ⟨_, rfl, p, _, rfl, .inl (SqL.of hp), fun G hG => ⟨_, rfl, S, L, 9, c, rfl, by decide, by decide, by omega, hS.new hG, fun wy H2 w0 w1 hS2 hk2 => ⟨_, rfl, _, rfl, p, _, rfl, .inl (SqL.of (hk2 _ _ ((same_new hG) _ _ hp) npS npL)), _, _, rfl, rfl, S, L, _, _, rfl, by omega, by omega, by omega, hS2, fun at_ H3 a0 a1 hS3 hk3 => ⟨_, _, _, rfl, ?_⟩⟩⟩⟩
    have offG := hS.off hG
    have hk03 : Kept S L H H3 := (((Kept.refl H).new hG).trans hk2).trans hk3
    have hT3 := hk03 _ _ hT nTS nTL
    have hG3 : H3 G = some (.lst xs) := (hk2.trans hk3) _ _ upd_same offG.1 offG.2
    have ka3 : KDA (fun q => (N q ∨ H q = none) ∧ q ≠ G) H3 xs ds := ((ka.cut (o := .lst xs) hG).step (KN.kept (hk2.trans hk3) fun q m => hn q m.1)).mono fun q m => ⟨.inl m.1, m.2⟩
    have hnone : ∀ q, H3 q = none → H q = none := fun q e => hk03.none e (hS3.off e).1 (hS3.off e).2
    clear hk2 hk3 hS2
    refine ⟨by show 1 ≤ sizeLine; decide, fun t1 h1 => ⟨by show 3 ≤ sizeLine; decide, fun t2 h2 => ?_⟩⟩
    have s2 := (same_new (o := .tup [.int 0]) h1).trans (same_new (o := .tup [.int 0, .int 1, .int 2]) h2)
    refine ⟨_, rfl, T, _, 0, _, rfl, rfl, SqL.of (s2 _ _ hT3), atI_h, _, rfl, T, _, 0, _, rfl, rfl, SqL.of (s2 _ _ hT3), atI_h, by show 3 ≤ sizeLine; decide, fun t3 h3 => ?_⟩
    have s3 := s2.trans (same_new (o := .tup [.int 0, .str n, .str n]) h3)
    refine ⟨_, rfl, T, _, 0, _, rfl, rfl, SqL.of (s3 _ _ hT3), atI_h, by show 2 ≤ sizeLine; decide, fun t4 h4 => ⟨1, rfl, by show 2 ≤ sizeLine; decide, fun t5 h5 => ⟨by show 8 ≤ sizeLine; decide, fun p1 hp1 => ?_⟩⟩⟩
    have acc0 : KDA (fun q => H3 q = none) H3 [.non, .int 5, .str (Str.ofString "ab")] [.none, .int 5, .str (Str.ofString "ab")] := .cons .non (.cons (.int 5) (.cons (.str _) .nil))
    have acc1 := KDA.snoc (.tup upd_same h1 (.cons (.int 0) .nil)) (acc0.step (KN.same (same_new (o := .tup [.int 0]) h1)))
    have acc2 := KDA.snoc (.tup upd_same ((same_new (o := .tup [.int 0]) h1).free h2) (.cons (.int 0) (.cons (.int 1) (.cons (.int 2) .nil)))) (acc1.step (KN.same (same_new (o := .tup [.int 0, .int 1, .int 2]) h2)))
    have acc3 := KDA.snoc (.tup upd_same (s2.free h3) (.cons (.int 0) (.cons (.str n) (.cons (.str n) .nil)))) (acc2.step (KN.same (same_new (o := .tup [.int 0, .str n, .str n]) h3)))
    have acc4 := KDA.snoc (.tup upd_same (s3.free h4) (.cons (.bl true) (.cons (.str n) .nil))) (acc3.step (KN.same (same_new (o := .tup [.bl true, .str n]) h4)))
    have s4 := s3.trans (same_new (o := .tup [.bl true, .str n]) h4)
    have acc5 := KDA.snoc (.tup upd_same (s4.free h5) (.cons (.int (-1)) (.cons .non .nil))) (acc4.step (KN.same (same_new (o := .tup [.int (-1), .non]) h5)))
    have s5 := s4.trans (same_new (o := .tup [.int (-1), .non]) h5)
    simp only [List.cons_append, List.nil_append] at acc5
    have acc6 := acc5.step (KN.same (same_new (o := .lst [.non, .int 5, .str (Str.ofString "ab"), .ref t1, .ref t2, .ref t3, .ref t4, .ref t5]) hp1))
    have s6 := s5.trans (same_new (o := .lst [.non, .int 5, .str (Str.ofString "ab"), .ref t1, .ref t2, .ref t3, .ref t4, .ref t5]) hp1)
    clear acc0 acc1 acc2 acc3 acc4 acc5
    refine ⟨_, rfl, _, rfl, by show 2 ≤ sizeLine; decide, fun t6 h6 => ⟨by show 2 ≤ sizeLine; decide, fun t7 h7 => ?_⟩⟩
    have s7 := (s6.trans (same_new (o := .tup [.int m, .non]) h6)).trans (same_new (o := .tup [.int 0, .bl true]) h7)
    refine ⟨_, rfl, T, _, 0, _, rfl, rfl, SqL.of (s7 _ _ hT3), atI_h, by show 2 ≤ sizeLine; decide, fun t8 h8 => ?_⟩
    have s8 := s7.trans (same_new (o := .tup [.str (Str.ofString "0"), .str n]) h8)
    refine ⟨_, rfl, T, _, 0, _, rfl, rfl, SqL.of (s8 _ _ hT3), atI_h, by show 1 ≤ sizeLine; decide, fun t9 h9 => ⟨by show 2 ≤ sizeLine; decide, fun t10 h10 => ⟨by show 2 ≤ sizeLine; decide, fun t11 h11 => fun t12 h12 => ⟨by show 2 ≤ sizeLine; decide, fun t13 h13 => ⟨by show 7 ≤ sizeLine; decide, fun p2 hp2 => ?_⟩⟩⟩⟩⟩
    have u6 := same_new (o := .tup [.int m, .non]) h6
    have u7 := same_new (o := .tup [.int 0, .bl true]) h7
    have u8 := same_new (o := .tup [.str (Str.ofString "0"), .str n]) h8
    have u9 := same_new (o := .lst [.str n]) h9
    have u10 := same_new (o := .tup [.int 0, .ref t9]) h10
    have u11 := same_new (o := .tup [.non, .non]) h11
    have u12 := same_new (o := .dK []) h12
    have u13 := same_new (o := .tup [.int 0, .non]) h13
    have s9 := s8.trans u9
    have s10 := s9.trans u10
    have s11 := s10.trans u11
    have s12 := s11.trans u12
    have s13 := s12.trans u13
    have acc7 := KDA.snoc (.tup upd_same (s6.free h6) (.cons (.int m) (.cons .non .nil))) (acc6.step (KN.same u6))
    have acc8 := KDA.snoc (.tup upd_same ((s6.trans u6).free h7) (.cons (.int 0) (.cons (.bl true) .nil))) (acc7.step (KN.same u7))
    have acc9 := KDA.snoc (.tup upd_same (s7.free h8) (.cons (.str (Str.ofString "0")) (.cons (.str n) .nil))) (acc8.step (KN.same u8))
    have k9 := KD.newL (N := fun q => H3 q = none) (n := n) (s8.free h9) h9
    have acc10 := KDA.snoc (.tup upd_same (s9.free h10) (.cons (.int 0) (.cons (k9.step (KN.same u10)) .nil))) ((acc9.step (KN.same u9)).step (KN.same u10))
    have acc11 := KDA.snoc (.tup upd_same (s10.free h11) (.cons .non (.cons .non .nil))) (acc10.step (KN.same u11))
    have acc12 := KDA.snoc (.dct upd_same (s11.free h12)) (acc11.step (KN.same u12))
    have acc13 := KDA.snoc (.tup upd_same (s12.free h13) (.cons (.int 0) (.cons .non .nil))) (acc12.step (KN.same u13))
    simp only [List.cons_append, List.nil_append] at acc13
    have u14 := same_new (o := .lst [.ref t6, .ref t7, .ref t8, .ref t10, .ref t11, .ref t12, .ref t13]) hp2
    have uall := ((((((u6.trans u7).trans u8).trans u9).trans u10).trans u11).trans u12).trans u13
    refine ⟨p1, p2, _, _, rfl, rfl, (uall.trans u14) _ _ upd_same, upd_same, by show 8 + 7 ≤ sizeLine; decide, fun p3 hp3 => ?_⟩
    have u15 := same_new (o := .lst ([.non, .int 5, .str (Str.ofString "ab"), .ref t1, .ref t2, .ref t3, .ref t4, .ref t5] ++ [.ref t6, .ref t7, .ref t8, .ref t10, .ref t11, .ref t12, .ref t13])) hp3
    have s15 := (s13.trans u14).trans u15
    have acc15 := (acc13.step (KN.same u14)).step (KN.same u15)
    have hO := upd_at (o := .lst ([.non, .int 5, .str (Str.ofString "ab"), .ref t1, .ref t2, .ref t3, .ref t4, .ref t5] ++ [.ref t6, .ref t7, .ref t8, .ref t10, .ref t11, .ref t12, .ref t13])) hp3
    simp only [List.cons_append, List.nil_append] at acc15 hO
    have fn : Fit n := (good n List.mem_cons_self).fit
    have kO : KDA (fun q => H3 q = none) _ _ (oddDs m n) := acc15
    have gO := oddDs_good (m := m) fn
    have gP : ∀ d ∈ ds, GoodD d := fun d hd => (pds d hd).good
    have hG9 := s15 _ _ hG3
    have ka9 := ka3.step (KN.same s15)
    have hS9 := hS3.same s15
    have hk9 : Kept S L H _ := hk03.trans fun b o e _ _ => s15 b o e
    have hT9 := s15 _ _ hT3
    have kO9 := kO.mono (M := fun q => (N q ∨ H q = none) ∧ q ≠ G) fun q e => ⟨.inr (hnone q e), fun e2 => by rw [e2, hG3] at e; cases e⟩
    have hM : ∀ q, (N q ∨ H q = none) ∧ q ≠ G → q ≠ S ∧ q ≠ L := fun q m => m.1.elim (hn q) fun e => hS.off e
    have ret : ∀ (p' : Addr) (ys : List V) (es : List PyData) (c' : Nat) (H' : Hp), H' p' = some (.lst ys) → H p' = none → KDA (fun q => N q ∨ H q = none) H' ys es → es.length ≤ 24 → (∀ d ∈ es, GoodD d) → c' ≤ c + 20 → StreamAt H' S L c' → Kept S L H H' → Q (.ref p') H' :=
      fun p' ys es c' H' h hn kd l g hc' hS' hk' => k p' es c' H' (.lst h (.inr hn) kd) l g hc' hS' hk'
    have offO := hS.off (hnone p3 (s13.trans u14 |>.free hp3))
    -- one thing more
    have put1 : ∀ (v : V) (d : PyData) (H10 : Hp) (c' : Nat), KD (fun q => (N q ∨ H q = none) ∧ q ≠ G) H10 v d → GoodD d → KDA (fun q => (N q ∨ H q = none) ∧ q ≠ G) H10 xs ds → H10 G = some (.lst xs) → c' ≤ c + 20 → StreamAt H10 S L c' → Kept S L H H10 →
        Q (.ref G) (upd H10 G (.lst (xs.take at_.toNat ++ [v] ++ xs.drop at_.toNat))) := fun v d H10 c' kv gv kx hG10 hc' hS' hk' => by
      have z := ((KDA.take at_.toNat kx).snoc kv).app (KDA.drop at_.toNat kx)
      refine ret G _ _ c' _ upd_same hG ((z.put fun q m => m.2).mono fun q m => m.1) ?_ ?_ hc' (hS'.put offG.1 offG.2) (kept_upd hk' hG)
      · rw [List.length_append, List.length_append, List.length_take, List.length_drop]
        show _ + 1 + _ ≤ _
        omega
      · intro x hx
        rcases List.mem_append.mp hx with hx | hx
        · rcases List.mem_append.mp hx with hx | hx
          · exact gP x (List.mem_of_mem_take hx)
          · rw [List.mem_singleton.mp hx]
            exact gv
        · exact gP x (List.mem_of_mem_drop hx)
    refine ⟨_, rfl, _, _, rfl, rfl, _, rfl, ?_⟩
    refine ite2 (fun _ => ?_) (fun _ => ?_)
    · refine ⟨_, rfl, .inl ⟨rfl, _, SqL.of hG9⟩, _, rfl, _, rfl, _, rfl, S, L, p3, _, c + 1 + 1, rfl, SqL.of hO, (fun H' hk => SqL.of (hk _ _ hO offO.1 offO.2)), by show 0 < 15; decide, by show 15 ≤ 1000; decide, by omega, hS9, fun ii v H10 hv hS10 hk10 => ?_⟩
      obtain ⟨d, hd, kd⟩ := kO9.get hv
      exact ⟨G, xs, at_, v, rfl, rfl, hk10 _ _ hG9 offG.1 offG.2, by rw [sizeLine_eq]; omega, a0, by omega, _, rfl, put1 v d H10 (c + 1 + 1 + 1) (kd.step (KN.kept hk10 hM)) (gO d (List.mem_of_getElem? hd)) (ka9.step (KN.kept hk10 hM)) (hk10 _ _ hG9 offG.1 offG.2) (by omega) hS10 (hk9.trans hk10)⟩
    refine ⟨_, rfl, rfl, _, rfl, ?_⟩
    refine ite2 (fun _ => ?_) (fun _ => ?_)
    · refine ⟨_, rfl, .inl ⟨rfl, _, SqL.of hG9⟩, _, rfl, _, rfl, _, rfl, _, _, rfl, rfl, S, L, _, c + 1 + 1, rfl, by omega, by omega, by omega, hS9, fun q1 Ha q10 q11 hSa hka => ?_⟩
      have hTa := hka _ _ hT9 nTS nTL
      refine ⟨_, rfl, _, rfl, S, L, T, _, c + 1 + 1 + 1, rfl, SqL.of hTa, (fun H' hk => SqL.of (hk _ _ hTa nTS nTL)), by rw [List.length_map]; exact Nat.succ_pos _, by rw [List.length_map]; omega, by omega, hSa, fun ii v Hb hv hSb hkb => ?_⟩
      obtain ⟨z, hz, rfl⟩ := get_map hv
      have gz := good z (List.mem_of_getElem? hz)
      have hkab := hka.trans hkb
      have hGb := hkab _ _ hG9 offG.1 offG.2
      refine ⟨by show 2 ≤ sizeLine; decide, fun tt htt => ?_⟩
      have u := same_new (o := .tup [.int q1, .str z]) htt
      have tt0 := (hk9.trans hkab).none htt (hSb.off htt).1 (hSb.off htt).2
      exact ⟨G, xs, at_, .ref tt, rfl, rfl, u _ _ hGb, by rw [sizeLine_eq]; omega, a0, by omega, _, rfl, put1 (.ref tt) (.tuple [.int q1, .str z]) _ (c + 1 + 1 + 1 + 1) (.tup upd_same ⟨.inr tt0, (ne_of_none hGb htt).symm⟩ (.cons (.int q1) (.cons (.str z) .nil))) (.tup (by show 2 ≤ 3; decide) (plain2 (.int _) (.str gz.fit)))
        ((ka9.step (KN.kept hkab hM)).step (KN.same u)) (u _ _ hGb) (by omega) (hSb.same u) ((hk9.trans hkab).trans fun b o e _ _ => u b o e)⟩
    refine ⟨_, rfl, rfl, _, rfl, ?_⟩
    refine ite2 (fun _ => ?_) (fun _ => ?_)
    · refine ⟨_, rfl, _, rfl, _, rfl, G, _, rfl, SqL.of hG9, fun l hl => ?_⟩
      have u := same_new (o := .lst (cutV xs none (some 1))) hl
      refine ⟨G, l, _, _, rfl, rfl, u _ _ hG9, upd_same, ?_, fun p4 hp4 => ?_⟩
      · have e := cutV_take xs 1
        rw [show ((1 : Nat) : Int) = 1 from rfl] at e
        rw [e, List.length_take, sizeLine_eq]
        omega
      · have u2 := u.trans (same_new (o := .lst (xs ++ cutV xs none (some 1))) hp4)
        have e := cutV_take xs 1
        rw [show ((1 : Nat) : Int) = 1 from rfl] at e
        have p40 := hk9.none (u.free hp4) (hS9.off (u.free hp4)).1 (hS9.off (u.free hp4)).2
        refine ⟨_, rfl, ret p4 (xs ++ xs.take 1) (ds ++ ds.take 1) (c + 1 + 1) _ (by rw [e]; exact upd_same) p40 (((ka9.app (KDA.take 1 ka9)).step (KN.same u2)).mono fun q m => m.1) ?_ ?_ (by omega) (hS9.same u2) (hk9.trans fun b o e _ _ => u2 b o e)⟩
        · rw [List.length_append, List.length_take]
          omega
        · intro d hd
          rcases List.mem_append.mp hd with hd | hd
          · exact gP d hd
          · exact gP d (List.mem_of_mem_take hd)
    refine ⟨_, rfl, rfl, _, rfl, ?_⟩
    refine ite2 (fun _ => ?_) (fun _ => ?_)
    · refine ⟨_, rfl, _, rfl, S, L, G, true, xs, c + 1 + 1, rfl, Sq.lst hG9, by omega, by omega, hS9, fun ys p4 H10 perm hp4 h4 hS10 hk10 => ?_⟩
      obtain ⟨es, kes, pes⟩ := KDA.perm perm (ka9.step (KN.kept hk10 hM))
      have p40 := hk9.none hp4 (hS9.off hp4).1 (hS9.off hp4).2
      exact ⟨_, rfl, ret p4 ys es (c + 1 + 1 + xs.length) H10 h4 p40 (kes.mono fun q m => m.1) (by rw [pes.length_eq]; omega) (fun d hd => gP d (pes.mem_iff.mp hd)) (by omega) hS10 (hk9.trans hk10)⟩
    refine ⟨_, rfl, rfl, _, rfl, ?_⟩
    refine ite2 (fun _ => ?_) (fun _ => ?_)
    · refine ⟨_, rfl, _, rfl, G, _, rfl, SqL.of hG9, fun p4 hp4 => ?_⟩
      have u := same_new (o := .lst (cutV xs (some 1) none)) hp4
      have e := cutV_drop xs 1
      rw [show ((1 : Nat) : Int) = 1 from rfl] at e
      have p40 := hk9.none hp4 (hS9.off hp4).1 (hS9.off hp4).2
      exact ⟨_, rfl, ret p4 (xs.drop 1) (ds.drop 1) (c + 1 + 1) _ (by rw [e]; exact upd_same) p40 (((KDA.drop 1 ka9).step (KN.same u)).mono fun q m => m.1) (by rw [List.length_drop]; omega) (fun d hd => gP d (List.mem_of_mem_drop hd)) (by omega) (hS9.same u) (hk9.trans fun b o e _ _ => u b o e)⟩
    have plainEnd : Q (.ref G) _ := ret G xs ds (c + 1 + 1) _ hG9 hG (ka9.mono fun q m => m.1) (by omega) gP (by omega) hS9 hk9
    refine ⟨_, rfl, rfl, _, rfl, ?_⟩
    refine ite2 (fun _ => ?_) (fun _ => ?_)
    · refine ⟨_, rfl, _, rfl, G, _, rfl, .inl (SqL.of hG9), _, _, rfl, rfl, _, rfl, ?_⟩
      by_cases hlt : at_ < (xs.length : Nat)
      · rw [decide_eq_true hlt]
        obtain ⟨an, rfl⟩ : ∃ an : Nat, at_ = (an : Int) := ⟨at_.toNat, (Int.toNat_of_nonneg a0).symm⟩
        have anl : an < xs.length := by omega
        obtain ⟨vx, hvx⟩ : ∃ vx, xs[an]? = some vx := ⟨_, List.getElem?_eq_getElem anl⟩
        obtain ⟨dx, hdx, kdx⟩ := ka9.get hvx
        obtain ⟨_, tx, ix, lx', rfl, rfl, htx⟩ := kdx.pair (K := K) (pds dx (List.mem_of_getElem? hdx))
        refine iteT ⟨_, rfl, _, rfl, G, xs, an, .ref tx, rfl, rfl, SqL.of hG9, atI_nat hvx, tx, _, 0, _, rfl, rfl, SqT.of htx, atI_h, by show 2 ≤ sizeLine; decide, fun tt htt => ?_⟩
        have u := same_new (o := .tup [.int ix, .non]) htt
        have tt0 := hk9.none htt (hS9.off htt).1 (hS9.off htt).2
        have kt : KD (fun q => (N q ∨ H q = none) ∧ q ≠ G) _ (.ref tt) (.tuple [.int ix, .none]) := .tup (upd_at (o := .tup [.int ix, .non]) htt) ⟨.inr tt0, (ne_of_none hG9 htt).symm⟩ (.cons (.int _) (.cons .non .nil))
        have z := (KDA.set kt an (ka9.step (KN.same u))).put (D := G) (o := .lst (xs.set an (.ref tt))) fun q m => m.2
        refine ⟨_, rfl, _, rfl, G, xs, an, an, rfl, rfl, u _ _ hG9, by unfold ixN; rw [if_pos a0, if_pos (by omega)]; rfl, _, rfl, ret G _ _ (c + 1 + 1) _ upd_same hG (z.mono fun q m => m.1) (by rw [List.length_set]; omega) (fun d hd => ?_) (by omega) ((hS9.same u).put offG.1 offG.2) (kept_upd (hk9.trans fun b o e _ _ => u b o e) hG)⟩
        rcases List.mem_or_eq_of_mem_set hd with hd | rfl
        · exact gP d hd
        · exact .tup (by show 2 ≤ 3; decide) (plain2 (.int _) .non)
      · rw [decide_eq_false hlt]
        exact iteF ⟨_, rfl, plainEnd⟩
    · exact ⟨_, rfl, plainEnd⟩
end
end K6
/-! try: .. and several clauses that give the exception the same name. -/
namespace LamX
open PySem PySem.Spec PyProof.Rows L2
abbrev Suite := Addr → Value → Option Addr → TS
/-- the wish of a chain of clauses, the name in slot i -/
def wChain (K : PySem.W.Frag) (i : Nat) (Wo : WX) (D : Ends) : List (Value × Suite) → WX
  | [] => Wo
  | p :: r => wAs K p.1 i p.2 (wChain K i Wo D r) D
inductive Chain (X : Cx) (n : Str) : List ExceptHandler → List (Value × Suite) → Prop
  | nil : Chain X n [] []
  | cons {y : Str} {cv : Value} {tt : Suite} {b1 : Stmt} {bs : List Stmt} {q1 q2 : Pos} {hs : List ExceptHandler} {l : List (Value × Suite)} (nm : Names X y cv)
      (run : ∀ (z : Addr) (oz : Obj) (cls : Value) (d : Option Addr) (pz : List (Addr × Obj)), Zc cls d oz → (∃ us, oz.data = .fields us) → PSs (X.suite z ((z, oz) :: pz)) (b1 :: bs) (tt z cls d))
      (rest : Chain X n hs l) : Chain X n (.ExceptHandler (some (.Name y q1)) (some n) (b1 :: bs) q2 :: hs) ((cv, tt) :: l)
section
variable {X : Cx} {n : Str} {i : Nat} {body : List Stmt} {g0 : ExceptHandler} {gs : List ExceptHandler} {l : List (Value × Suite)} {pos : Pos} {tb : WX → TS} {Wo : WX}
theorem ps_try_chain (e1 : X.stack = X.env :: X.outer) (e2 : X.env.frame = some X.env.locals) (e3 : X.N.Nodup) (e4 : X.N[i]? = some n) (e5 : X.env.kindOf n = some .local) (tk : Takes X Wo)
    (hb : ∀ (W : WX) (pz : List (Addr × Obj)) (xe : Value → Shared → Prop), Takes (X.tr pz xe) W → PassesOwn (model X.prog X.w) X.A X.env xe → PSs (X.tr pz xe) body (tb W))
    (ch : Chain X n (g0 :: gs) l) : PS X (.Try body (g0 :: gs) [] [] pos) (fun D σ H => tb (wChain X.K i Wo D l) D σ H) := by
  refine ⟨fun pins s σ H D I h => ?_⟩
  have okX := I.ok
  have fr := okX.frames.trans (congrArg some e1)
  have own : Loc X.env.scope n := .inl e5
  refine wpAny_Try_except (wpAny_mono ((hb (wChain X.K i Wo D l) (X.pn ++ pins) (fun e t1 => wpAny (model X.prog X.w) X.A (noteFrame e X.env) (fun _ t2 => wpAny (model X.prog X.w) X.A (setFlight e none) (fun _ t3 =>
    wpAny (model X.prog X.w) X.A (handleBy e X.env (g0 :: gs)) (SP X pins D) X.xe t3) X.xe t2) X.xe t1) ?land PassesOwn.looking).run [] s σ H D (I.toTry _) h) ?ends fun e s1 he => he)
  case ends =>
    intro fl s1 q
    cases fl with
    | next => exact let ⟨a1, a2, a3, a4⟩ := q; wpAny_execs_nil ⟨a1, a2, a3.ofTry okX, a4⟩
    | brk => exact let ⟨a1, a2, a3, a4⟩ := q; ⟨a1, a2, a3.ofTry okX, a4⟩
    | cont => exact let ⟨a1, a2, a3, a4⟩ := q; ⟨a1, a2, a3.ofTry okX, a4⟩
    | ret u => exact let ⟨a0, a1, a2, a3, a4, a5⟩ := q; ⟨a0, a1, a2, a3.ofTry okX, a4, a5⟩
  intro ev sv xx
  obtain ⟨z, B, sI, pins', σ', H', cls, d, rfl, J0, nb, up, sky, na, os, ag, ww⟩ := xx
  have J : Inv X pins σ' H' sI := J0.ofTry okX
  have sky2 : Sky B (X.env :: X.outer) z (Zc cls d) X.env.locals sv.heap := e1 ▸ sky
  show wpAny (model X.prog X.w) X.A (noteFrame (.ref z) X.env) _ _ _
  refine Sky.land Zc.steady fr e2 sky2 fun h3 fl3 up3 => ?_
  have J3 : Inv X pins σ' H' { sv with heap := h3 } := J.landed nb fl3.1 (up.trans up3) os ag
  obtain ⟨o3, us3, at3, z3, d3⟩ := fl3.there
  have away : ∀ {h : Heap} {o : Obj} {vs : Array Value}, h.FunFrames B (X.env :: X.outer) → h.get? z = some o → o.data = .fields vs → z ∉ frs (X.env :: X.outer) := fun ff e dd hm => by
    obtain ⟨_, o', e', ne⟩ := ff.mem hm
    cases e.symm.trans e'
    exact ne _ dd
  have off := away fl3.2.2.1 at3 d3
  have offL : z ≠ X.env.locals := fun q => off (List.mem_filterMap.mpr ⟨X.env, List.mem_cons_self, by rw [e2, q]⟩)
  have offF : z ∉ X.fs := fun hm => by
    obtain ⟨e, he, q⟩ := List.mem_filterMap.mp hm
    exact off (List.mem_filterMap.mpr ⟨e, List.mem_cons_of_mem _ he, q⟩)
  have S3 := J3.suite at3 d3 na offL offF
  have go : ∀ {hs' : List ExceptHandler} {l' : List (Value × Suite)}, Chain X n hs' l' → wChain X.K i Wo D l' cls d σ' H' → wpAny (model X.prog X.w) X.A (handleBy (.ref z) X.env hs') (SP X pins D) X.xe { sv with heap := h3 } := by
    intro hs' l' hk
    induction hk with
    | nil =>
      intro w0
      refine wpAny_handleBy_nil ?_
      obtain ⟨_, _, _, oe, vs, T, oT, ts', he, hz, hd, h1, _⟩ := id fl3
      unfold PySem.passOn
      refine wpAny_bind (wpAny_field he hd h1 ?_)
      rw [if_neg (show ¬ ((Value.ref T == Value.none) = true) from by simp)]
      have out : wpAny (model X.prog X.w) X.A (setFlight (.ref z) X.env.frame) (fun _ s4 => wpAny (model X.prog X.w) X.A (throw (.ref z) : Sem Flow) (SP X pins D) X.xe s4) X.xe { sv with heap := h3 } := by
        rw [e2]
        exact HandSPX.setFlight_upZ fl3 fun h4 hh4 up4 => wpAny_throw (tk _ _ ⟨z, B, sI, pins, σ', H', cls, d, rfl, J, nb, (up.trans up3).trans up4, .inr (.inr (by rw [e1]; exact hh4)), na, os, ag, w0⟩)
      first | exact wpAny_bind (wpAny_pure (wpAny_bind out)) | exact wpAny_bind out
    | @cons y cv tt b1 bs q1 q2 hs2 l2 nm run rest ih =>
      intro w0
      obtain ⟨b, hb1, yes, no⟩ := w0
      refine wpAny_handleBy_cons (codeAny_handlers_test ?_) (fun q => by cases q)
      have LT : PySem.W.Looks (model X.prog X.w) h3 (typeOf (.ref z)) cls := fun A Q E s k q => wpAny_typeOf_ref (k _ _ at3) (z3.1.symm ▸ q)
      have LM := PySem.W.exm_one (M := model X.prog X.w) J3.kIn LT hb1
      have reads : ∀ {Q E : Value → Shared → Prop}, Q cv { sv with heap := h3 } → wpAny (model X.prog X.w) (X.A.mark (some (.ref z))) (eval (.Name y q1) X.env) Q E { sv with heap := h3 } := fun {Q E} q => by
        obtain ⟨hg, hdbg, way⟩ := nm
        rcases way with hm | ⟨hm, hv, hnn⟩
        · exact ld_glob (X := X.suite z ((z, o3) :: (X.pn ++ pins))) S3 hg hm q hdbg
        · exact ld_blt (X := X.suite z ((z, o3) :: (X.pn ++ pins))) S3 hg hm hv q hnn hdbg
      refine reads (LM.here ?_)
      cases b with
      | false => exact ih (no rfl)
      | true =>
        refine codeAny_handlers_suite_as (HandSPX.lands_againZ fl3 fun h4 fl4 up4 => ?_)
        obtain ⟨o4, us4, at4, z4, d4⟩ := fl4.there
        have J4 : Inv X pins σ' H' { sv with heap := h4 } := J.landed nb fl4.1 ((up.trans up3).trans up4) os ag
        refine store_ok (X := X.suite z ((z, o4) :: (X.pn ++ pins))) (v := .ref z) (J4.suite at4 d4 na offL offF) e3 e4 own rfl (fun s5 S5 => ?_) (.inr e5)
        have tidy : ∀ {σ6 : L2.St} {H6 : Hp} {s6 : Shared} {Q : Shared → Prop}, Inv (X.suite z ((z, o4) :: (X.pn ++ pins))) [] σ6 H6 s6 → (∀ s7, Inv X pins (σ6.set i none) H6 s7 → Q s7) →
            wpAny (model X.prog X.w) X.A (do bindName X.env n .none; unbindBehindTheSuite X.env n q2) (fun _ s7 => Q s7) X.xe s6 := fun S6 hq => gone_ok (S6.unsuite okX) e3 e4 e5 hq
        refine wpAny_mono ((run z o4 cls d (X.pn ++ pins) z4 ⟨_, d4⟩).run [] s5 _ H' _ S5 (yes rfl z na)) (fun fl s6 q => ?_) (fun _ _ q => q.elim)
        cases fl with
        | next => exact let ⟨_, _, S6, q6⟩ := q; tidy S6 fun s7 J7 => ⟨_, _, J7, q6⟩
        | brk => exact let ⟨_, _, S6, q6⟩ := q; tidy S6 fun s7 J7 => ⟨_, _, J7, q6⟩
        | cont => exact let ⟨_, _, S6, q6⟩ := q; tidy S6 fun s7 J7 => ⟨_, _, J7, q6⟩
        | ret u => exact let ⟨_, _, _, S6, r6, q6⟩ := q; tidy S6 fun s7 J7 => ⟨_, _, _, J7, r6, q6⟩
  exact go ch ww
end
end LamX
/-! x(lambda: ..): the def that gets the lambda catches what it lets out, and reads its own names then -/
namespace LamX
open PySem PySem.Spec PyProof.Rows L2
section
variable {X : Cx} {pins : List (Addr × Obj)} {σ : L2.St} {H HZ : Hp} {s s1 : Shared}
theorem pe_act2 {CXg : CXT} {Eg : XK} {Ng : List Str} {qg : Str} {sg : Scope} {g f c' : Addr} {cdg pm ctv : Value} {params : Arguments} {body : Expr} {scope : Scope} {k i : Nat} {a : Str} {pn : List (Addr × Obj)} {xe : Value → Shared → Prop} {W : WX} {E : XK} {tb : TE} {p1 p2 : Pos}
    (I : Inv X pins σ H s) (L : LamS X.env.scope scope) (hf : s.heap.get? f = some (PySem.W.kla_obj "<lambda>" (X.env.qual ++ "<lambda>") params body scope (cloFrom X.env.cells scope.names []) pm c' ctv)) (hfn : H f = none) (hfr : f ∉ frs X.stack)
    (hbind : bindArgs (PySem.W.kla_fn "<lambda>" (X.env.qual ++ "<lambda>") params body scope (cloFrom X.env.cells scope.names []) pm (.ref c') ctv) ⟨[], []⟩ = pure [])
    (tk : Takes ((cxOf CXg X.prog X.w X.K X.mg X.base Ng qg sg g cdg X.A X.stack s H Eg).tr pn xe) W) (hr : Room (k + 1) (X.A.deeper (envOfC qg sg s.heap.objs.size g cdg)))
    (hbody : ∀ (A : Around) (outer : List Env) (s : Shared) (H : Hp), Room k (A.deeper (lamEnv X scope s.heap.objs.size f c')) → PE (lamCx X A outer s H E scope f c') body tb)
    (hN : Ng[i]? = some a) (hv : Vis sg a) (hd : (a == ("__debug__" : Str)) = false := by decide) (hcd : (a == ("__classdict__" : Str)) = false := by decide) :
    PE ((cxOf CXg X.prog X.w X.K X.mg X.base Ng qg sg g cdg X.A X.stack s H Eg).tr pn xe) (.Call (.Name a p1) [] [] p2)
      (fun σZ HZ Q => σZ[i]? = some (some (.ref f)) ∧ HZ c' = some (CodeO c' (X.env.qual ++ "<lambda>")) ∧ (∀ cls d H', E cls d H' → W cls d σZ H') ∧ tb σ HZ Q) := by
  refine ⟨fun pinsZ sZ σZ HZ Q IZ h => ?_⟩
  obtain ⟨hs, hc, hW, ht⟩ := h
  refine wpAny_Call_Name_kw (thn ((pe_var (pos := p1) (i := i) hN hv hd hcd).run pinsZ sZ σZ HZ (fun v H1 => v = .ref f ∧ H1 = HZ) IZ ⟨.ref f, hs, rfl, rfl⟩) fun u s1 ⟨v, H1, I1, r1, q1⟩ => ?_)
  obtain ⟨ev, eH⟩ := q1
  subst ev
  rw [eH] at I1
  obtain rfl : u = Value.ref f := r1
  have of1 : s1.heap.get? f = some (PySem.W.kla_obj "<lambda>" (X.env.qual ++ "<lambda>") params body scope (cloFrom X.env.cells scope.names []) pm c' ctv) := I1.base.keep f _ hf hfn hfr (fun z => nomatch (show f ∈ ([] : List Addr) from z))
  refine PySem.W.callWith_F0 ⟨_, _, _, _, of1⟩ ?_
  have un : Un (frs X.stack) [] H HZ s.heap s1.heap := I1.base
  obtain ⟨⟨oc, vs, t, hoc, hdc, hvc⟩, _, _⟩ := I1.hok c' _ hc
  have rc : codeAny (model X.prog X.w) (X.A.deeper (envOfC qg sg s.heap.objs.size g cdg)) (.call (.ref f) ⟨[], []⟩) (CR (L2.CX X.prog X.w) (envOfC qg sg s.heap.objs.size g cdg :: X.stack) X.prog X.w HZ s1 Q E) s1 := by
    refine PySem.W.kla_callFunE hr.depth of1 rfl L.co L.gen rfl ⟨c', oc, vs, t, rfl, hoc, hdc, hvc⟩ ?_
    rw [hbind]
    refine wpAny_pure (wpAny_newFunctionEnv (fun y hy => (L.own y hy).2) (fun y hy => absurd hy (by simp)) (fun h₁ hns hsb => ⟨I1.nolimit.fresh _ hsb, ?_⟩) L.kind)
    show codeAny _ _ (.expr body (lamEnv X scope s1.heap.objs.size f c')) _ _
    have kp : ∀ b o, s1.heap.get? b = some o → h₁.get? b = some o := fun b o e => hsb.extBut b o (Nat.ne_of_lt (Heap.lt_size e)) (Heap.get?_push_of_some _ e)
    have J : Inv (lamCx X (X.A.deeper (envOfC qg sg s.heap.objs.size g cdg)) (envOfC qg sg s.heap.objs.size g cdg :: X.stack) s1 HZ E scope f c') [] σ HZ { s1 with heap := h₁, toks := s1.toks + ([] : List (Str × Value)).length } :=
      lam_start2 I L I1.env0 hr.hd un hns kp
    refine PySem.W.kla_codeExpr (wpAny_mono ((hbody _ _ s1 HZ (hr.deeper _)).run [] _ _ HZ Q J ht) (fun v s' hq => ?_) fun e s' hq => hq)
    obtain ⟨w', H', J', rv, q⟩ := hq
    exact ⟨w', H', J'.os, J'.bare, J'.base, J'.hok, rv, q⟩
  refine wpAny_call (codeAny_mono rc fun r s' hq => ?_)
  cases r with
  | error e => exact tk e s' (XE.of_call I1 (fun cls d H' h => hW cls d H' h) hq)
  | ok fl =>
    cases fl with
    | ret u => exact I1.after hq
    | next => exact False.elim hq
    | brk => exact False.elim hq
    | cont => exact False.elim hq
end
/-- the def that calls what it got: a calls it, its names being told; TT: what it makes of the lambda's reading -/
def GivesTo1 (X : Cx) (Ng : List Str) (x : Str) (sg : Scope) (g : Addr) (cdg : Value) (bg : List Stmt) (a : Str) (q : Str) (TT : (XK → Hp → VK → Prop) → Hp → VK → Prop) : Prop :=
  ∀ (f c' : Addr) (s : Shared) (H : Hp) (Q : VK) (tl : XK → Hp → VK → Prop),
    (∀ (W : WX) (pn : List (Addr × Obj)) (xe : Value → Shared → Prop) (E : XK) (p1 p2 : Pos), Takes ((cxOf C8.CX0 X.prog X.w X.K X.mg X.base Ng x sg g cdg X.A X.stack s H C8.E0).tr pn xe) W →
      PE ((cxOf C8.CX0 X.prog X.w X.K X.mg X.base Ng x sg g cdg X.A X.stack s H C8.E0).tr pn xe) (.Call (.Name a p1) [] [] p2) (fun σZ HZ Q => σZ[0]? = some (some (.ref f)) ∧ HZ c' = some (CodeO c' q) ∧ (∀ cls d H', E cls d H' → W cls d σZ H') ∧ tl E HZ Q)) →
    H c' = some (CodeO c' q) → TT tl H Q →
    ∃ t, PSs (cxOf C8.CX0 X.prog X.w X.K X.mg X.base Ng x sg g cdg X.A X.stack s H C8.E0).nox bg t ∧ t { nx := fun _ H' => Q .non H', rt := Q } (L2.start Ng [.ref f]) H
section
variable {X : Cx}
theorem pe_lamcall1 {T : List (Addr × Str)} {TT : (XK → Hp → VK → Prop) → Hp → VK → Prop} {x a : Str} {g c P : Addr} {k : Nat} {pg : Arguments} {bg : List Stmt} {sg : Scope} {dV kV doc pm cdv ct oc : Value} {an od : Option Addr} {osl : Array (Option Value)} {Ng : List Str}
    {params : Arguments} {body : Expr} {scope : Scope} {t : XK → TE} {p lpos pos : Pos} (hg : Gl X x) (hm : X.mg x = some (.ref g)) (hk : PySem.W.keepIn X.K (.ref g) = true)
    (lk : X.K.lookup g = some ⟨oc, od, .func (PySem.W.fnOf x x pg bg sg dV kV doc pm an cdv ct), osl⟩) (hcg : PySem.W.codeIn X.K cdv x = true) (hb : L2.Binds X.K (PySem.W.fnOf x x pg bg sg dV kV doc pm an cdv ct) [a] []) (Sg : FnScope Ng [a] sg) (hNg : Ng[0]? = some a) (hva : Vis sg a)
    (hG : GivesTo1 X Ng x sg g cdv bg a (X.env.qual ++ "<lambda>") TT)
    (TB : TabB X.base X.mg c P) (hcode : X.env.code = .ref c) (hmT : (P, X.env.qual ++ "<lambda>") ∈ T) (hu : ∀ p ∈ T, p.1 = P → p.2 = X.env.qual ++ "<lambda>") (hr : Room (k + 3) X.A) (L : LamS X.env.scope scope) (hdef : defaultsOf params X.env = ([], []))
    (hbind : ∀ (q : Str) (cl : List (Str × Addr)) (pm cv ctv : Value), bindArgs (PySem.W.kla_fn "<lambda>" q params body scope cl pm cv ctv) ⟨[], []⟩ = pure [])
    (hbody : ∀ (A : Around) (outer : List Env) (s : Shared) (H : Hp) (E : XK) (f c' : Addr), Room (k + 1) (A.deeper (lamEnv X scope s.heap.objs.size f c')) → PE (lamCx X A outer s H E scope f c') body (t E))
    (hdb : (x == ("__debug__" : Str)) = false := by decide) (hd : (a == ("__debug__" : Str)) = false := by decide) (hcd : (a == ("__classdict__" : Str)) = false := by decide) :
    PE X (.Call (.Name x p) [.Lambda params body scope lpos] [] pos) (tLam T TT t) := by
  refine ⟨fun pins s σ H Q I h => ?_⟩
  obtain ⟨hT, h⟩ := h
  refine wpAny_Call_Name_kw (ld_glob I hg hm ?_ hdb)
  refine PySem.W.callWith_K (h₀ := X.base) I.ok.mod.kin hk ?_ (by rfl) (by rfl)
  show wpAny _ _ (spliced ((false, eval (.Lambda params body scope lpos) X.env) :: backTo pos (starEach [] X.env))) _ _ s
  refine Calls.spliced_cons (lam_make2 I TB hcode hmT hu hT hdef (L.has I.ok) fun f c' pm' ctv H1 s' I1 eN T1 hf hfn hfr hco => Calls.spliced_nil ⟨I1.kIn, ?_⟩)
  have rc : codeAny (model X.prog X.w) X.A (.call (.ref g) ⟨[.ref f], []⟩) (CR C8.CX0 X.stack X.prog X.w H1 s' Q C8.E0) s' := by
    refine run_ofS (N := Ng) (ps := [a]) (us := [.ref f]) (vs := [.ref f]) lk hcg Sg hr I1.env0 (hb s' [.ref f] I1.kIn rfl) (.cons rfl .nil) rfl fun hr' =>
      let ⟨t', ht', hq'⟩ := hG f c' s' H1 Q (fun E H' Q' => t E σ H' Q') (fun W pn xe E p1 p2 tk => pe_act2 (i := 0) I1 L hf hfn hfr (hbind _ _ _ _ _) tk hr' (fun A outer s H hr2 => hbody A outer s H E f c' hr2) hNg hva hd hcd) hco (h H1 eN T1)
      ⟨t', ht'.nox, hq'⟩
  refine wpAny_call (codeAny_mono rc fun z s2 hq => ?_)
  cases z with
  | error e => exact hq.elim
  | ok fl =>
    cases fl with
    | ret u => exact I1.after hq
    | next => exact False.elim hq
    | brk => exact False.elim hq
    | cont => exact False.elim hq
end
end LamX
namespace K6
open PySem PySem.Spec PyProof.Rows L2 LamX NdefX EV
/-! ### are_drawings with a setting that is none -/
def spAreX (K : PySem.W.Frag) (C CB : Addr) : Sp := fun vs H _ E => ∃ (x : Addr) (v th : V) (sg hp : List Str) (rs : List (List Str)) (io : Option (List V)) (i : Nat), vs = [.ref x, v, th] ∧ CodeAt K C H x sg hp rs ∧ OkC sg hp rs ∧ ItemAt H v io ∧ CutI (sg ++ hp) io (some i) ∧ Told CB "index" (.int (i : Nat)) H E
section
variable {P : Program} {w : World} {K : PySem.W.Frag} {mg : Str → Option Value} {base : Heap} {f fS C CB : Addr} {fd fdS : FuncData}
theorem ok_areX (F : Fun K "are_drawings" "are_drawings" sAre f fd) (T : CTxt K mg C)
    (GS : FnOk P w K mg base (L2.CX P w) 3 fS fdS ["places", "setting"] (spChkSetX K CB)) (mS : mg "check_setting" = some (.ref fS)) (kS : PySem.W.keepIn K (.ref fS) = true) (bS : L2.Binds K fdS ["places", "setting"] []) :
    FnOk P w K mg base (L2.CX P w) 4 f fd ["code", "setting", "thing"] (spAreX K C CB) := by
  refine F.okX scAre (fun vs H Q E h => ?_) (fun cdv A' outer s H vs Q E hr h => ?_)
  · obtain ⟨x, v, th, sg, hp, rs, io, i, rfl, _⟩ := h
    rfl
  · obtain ⟨x, v, th, sg, hp, rs, io, i, rfl, ⟨dx, a, b', pl, r, hx, ha, hb, hpl, hr4⟩, ok, item, cut, told⟩ := h
    refine ⟨_, pss_cons (ps_expr (pe_call GS hr (by rfl) mS kS bS .nil (passes_call (takes_of rfl rfl rfl rfl) fun _ _ _ _ h => h) (pa_cons (pe_fld (pv 0) rfl) (pa_cons (pv 1) pa_nil))))
      (pss_cons ps_none (pss_cons ps_none (pss_cons ps_none (pss_cons ps_none (pss_cons ps_none (pss_one ps_none)))))), ?_⟩
    exact ⟨_, rfl, x, C, dx, _, _, rfl, hx, T.cl, T.n3, fl3 .., _, rfl, pl, v, sg ++ hp, io, i, rfl, hpl, ok.n60, ok.nd, ok.good, item, cut, told⟩
end
end K6
/-! A def that raises nothing, called in an except suite: its promise asks for no context of what is handled. -/
namespace EV
open PySem PySem.Spec PyProof.Rows L2 L2H
structure FnS (P : Program) (w : World) (K : PySem.W.Frag) (mg : Str → Option Value) (base : Heap) (k : Nat) (f : Addr) (fd : FuncData) (ps : List Str) (sp : Sp) : Prop where
  len : ∀ vs H Q E, sp vs H Q E → vs.length = ps.length
  run : ∀ (A : Around) (outer : List Env) (s : Shared) (H : Hp) (args : Args) (us : List Value) (vs : List V) (Q : VK) (E : XK) (p : Addr × Obj), A.guards = some [] → RoomH k A → PinOk outer H s p → Env0 P w K mg base A outer s H → BindsTo s fd args (ps.zip us) → Vals vs us → sp vs H Q E →
    codeAny (model P w) A (.call (.ref f) args) (CR CX0 outer P w H s Q E) s
theorem fns_of {P : Program} {w : World} {K : PySem.W.Frag} {mg : Str → Option Value} {base : Heap} {k : Nat} {x qual : Str} {st : Stmt} {f : Addr} {fd : FuncData} {N ps : List Str} {sp : Sp} (F : Fun K x qual st f fd) (S : FnScope N ps (defScope st)) (len : ∀ vs H Q E, sp vs H Q E → vs.length = ps.length)
    (hbody : ∀ (cdv : Value) (A : Around) (outer : List Env) (s : Shared) (H : Hp) (vs : List V) (Q : VK) (E : XK) (p : Addr × Obj), (A.deeper (envOfC qual (defScope st) s.heap.objs.size f cdv)).guards = some [] → RoomH k (A.deeper (envOfC qual (defScope st) s.heap.objs.size f cdv)) → sp vs H Q E →
      ∃ t, PSs (cxH CX0 P w K mg base N qual (defScope st) f cdv A outer s H E p) (defBody st) t ∧ t { nx := fun _ H' => Q .non H', rt := Q } (L2.start N vs) H) : FnS P w K mg base (k + 1) f fd ps sp := by
  obtain ⟨oc, od, kV, doc, pm, an, cdv, ct, osl, rfl, lk, hcd⟩ := F.ex
  refine ⟨len, fun A outer s H args us vs Q E p hg hr hpin e0 hb r hsp => ?_⟩
  have hl := len _ _ _ _ hsp
  have KX : K.In s.heap := e0.mod.kin.keeps fun b o e => (e0.bs b o e).1
  have lim : s.heap.NoLimit := e0.mod.nolimit.keeps fun b o e => (e0.bs b o e).1
  refine codeAny_call_function hr.depth (KX _ _ lk) rfl S.co S.gen rfl (PySem.W.codeRec_of KX hcd) (hb _ _ _ _ ?_)
  refine wpAny_newFunctionEnv_cells S.kind (fun ⟨n, v⟩ hy => ?_) fun env he s1 x => ?_
  · rcases S.par n (List.of_mem_zip hy).1 with q | q
    · exact .inl q
    · exact .inr ⟨q, PySem.W.cellsFrom_some _ _ _ (.inl q)⟩
  subst he
  refine ⟨lim.keeps x.toInCall.keep, codeAny_func ?_⟩
  obtain ⟨t, ht, hq⟩ := hbody cdv A outer s H vs Q E p hg (hr.deeper _) hsp
  have I := inv_startH (CX := CX0) (w := w) (mg := mg) (base := base) (qual := qual) (f := f) (cd := cdv) (E := E) S hpin e0 hl r x
  refine wpAny_mono (ht.run [] s1 (L2.start N vs) H _ I hq) (fun fl s' hs => ?_) fun e s' hs => hs
  cases fl with
  | ret u =>
    obtain ⟨v, σ', H', J, rv, q⟩ := hs
    exact ⟨v, H', J.os, J.bare, J.base, J.hok, rv, q⟩
  | next =>
    obtain ⟨σ', H', J, q⟩ := hs
    exact ⟨V.non, H', J.os, J.bare, J.base, J.hok, (rfl : RelV V.non Value.none), q⟩
  | brk =>
    obtain ⟨_, _, _, q⟩ := hs
    exact False.elim q
  | cont =>
    obtain ⟨_, _, _, q⟩ := hs
    exact False.elim q
section
variable {X : Cx} {k : Nat} {f : Addr} {fd : FuncData} {ps : List Str} {sp : Sp} {x : Str} {q pos : Pos} {e : Expr} {es : List Expr} {t : TA}
theorem pe_callHot (F : FnS X.prog X.w X.K X.mg X.base k f fd ps sp) (gd : X.A.guards = some []) (hr : RoomH k X.A) (hpn : ∃ p, p ∈ X.pn) (hg : Gl X x) (hm : X.mg x = some (.ref f)) (hk : PySem.W.keepIn X.K (.ref f) = true) (hb : Binds X.K fd ps [])
    (ha : PA X (e :: es) t) (hdb : (x == ("__debug__" : Str)) = false := by decide) (he : starEach (e :: es) X.env = (false, eval e X.env) :: starEach es X.env := by rfl) (hpl : (backTo pos (starEach es X.env)).any (·.1) = false := by rfl) :
    PE X (.Call (.Name x q) (e :: es) [] pos) (tCall sp [] E0 t) := by
  refine ⟨fun pins s σ H Q I h => ?_⟩
  refine wpAny_Call_Name_kw (ld_glob I hg hm ?_ hdb)
  refine PySem.W.callWith_K (h₀ := X.base) I.ok.mod.kin hk (thn (ha.run pos pins s σ H _ I h) fun us s1 ⟨vs, H1, I1, r, q⟩ => ⟨I1.kIn, ?_⟩) he hpl
  have q : sp (vs ++ []) H1 Q E0 := q
  rw [List.append_nil] at q
  obtain ⟨p, hp⟩ := hpn
  have hl : (us ++ []).length = ps.length := by rw [List.append_nil, ← r.length]; exact F.len _ _ _ _ q
  have b := hb s1 us I1.kIn hl
  rw [List.append_nil] at b
  have P1 := I1.pin p (List.mem_append_left _ hp)
  have hpin : PinOk X.stack H1 s1 p := ⟨P1.1, P1.2.1, fun hm => (List.mem_cons.mp (I1.stkSub p.1 hm)).elim P1.2.2.1 P1.2.2.2.1, P1.2.2.2.2⟩
  refine wpAny_call (codeAny_mono (F.run X.A X.stack s1 H1 ⟨us, []⟩ us vs Q E0 p gd hr hpin I1.env0 b r q) fun z s' hq => ?_)
  cases z with
  | error e => exact False.elim hq
  | ok fl =>
    cases fl with
    | ret u => exact I1.after hq
    | next => exact False.elim hq
    | brk => exact False.elim hq
    | cont => exact False.elim hq
end
end EV
namespace K6
open PySem PySem.Spec PyProof.Rows L2 LamX NdefX EV
/-! ### whether a call raises BadSetting of index 0 -/
section
variable {P : Program} {w : World} {K : PySem.W.Frag} {mg : Str → Option Value} {base : Heap} {f : Addr} {fd : FuncData}
theorem ok_sameS (F : Fun K "_law_same" "_law_same" sSame f fd) (mr : mg "repr" = none) : FnS P w K mg base 1 f fd ["_law_found", "_law_due"] (spSameP K) := by
  refine fns_of F scSame (fun vs H Q E h => ?_) (fun cdv A outer s H vs Q E p hg hr h => ?_)
  · obtain ⟨x, y, d, n, rfl, _⟩ := h
    rfl
  · obtain ⟨x, y, d, n, rfl, hx, hy, sm, hn, k⟩ := h
    have hu : (A.deeper (envOfC "_law_same" (defScope sSame) s.heap.objs.size f cdv)).units + 64 < cLine := by
      have := hr.un
      omega
    refine ⟨_, pss_one (ps_ret (pe_cmpR op_eq (pe_callB (call_reprP hg hu) (by rfl) mr (by decide +kernel) (pa_cons (pv 0) pa_nil)) (pe_callB (call_reprP hg hu) (by rfl) mr (by decide +kernel) (pa_cons (pv 1) pa_nil)) (nomark _))), ?_⟩
    have h3 : d.depth ≤ 60 := Nat.le_trans sm.dp (by decide)
    refine ⟨_, rfl, _, d, rfl, hx, sm.sh, sm.fits hn, h3, _, rfl, _, d, rfl, hy, sm.sh, sm.fits hn, h3, rfl, ?_⟩
    show Q (.bl (decide (V.str d.shown = V.str d.shown))) H
    rw [decide_eq_true rfl]
    exact k
end
theorem small_zero : Small (.int 0) 100 := ⟨by decide +kernel, by decide +kernel, by decide +kernel, by decide +kernel⟩
theorem small_bool : ∀ b : Bool, Small (.bool b) 100
  | true => ⟨by decide +kernel, by decide +kernel, by decide +kernel, by decide +kernel⟩
  | false => ⟨by decide +kernel, by decide +kernel, by decide +kernel, by decide +kernel⟩
def endR0 (CB : Addr) (Q : VK) : XK := fun cls d H' => ∃ e, cls = .ref CB ∧ d = some e ∧ H' e = some (.xd [("index", .int 0)]) ∧ Q (.bl true) H'
def TRef (CB : Addr) : (XK → Hp → VK → Prop) → Hp → VK → Prop := fun tl H Q => tl (endR0 CB Q) H fun _ H' => Q (.bl false) H'
abbrev nRef : List Str := ["_law_ask", "e"]
theorem scRef : FnScope nRef ["_law_ask"] (defScope sRefused) := ⟨rfl, rfl, rfl, by decide +kernel, rfl, by decide +kernel, by decide +kernel⟩
theorem ref_gives {X : Cx} {g CB fJ fS : Addr} {fdS : FuncData} {cdg : Value} {q : Str} (T : XT X.K X.mg "BadSetting" "index" CB fJ) (EX : PySem.W.exmOne X.K (.ref CB) (.ref CB) = some true)
    (GS : FnS X.prog X.w X.K X.mg X.base 1 fS fdS ["_law_found", "_law_due"] (spSameP X.K)) (mS : X.mg "_law_same" = some (.ref fS)) (kS : PySem.W.keepIn X.K (.ref fS) = true) (bS : L2.Binds X.K fdS ["_law_found", "_law_due"] []) (gd : X.A.guards = some []) (hr : Room 2 X.A) :
    GivesTo1 X nRef "_law_refused" (defScope sRefused) g cdg (defBody sRefused) "_law_ask" q (TRef CB) := by
  intro f c' s H Q tl act hc h
  refine ⟨_, pss_cons (ps_try_as (X := (cxOf C8.CX0 X.prog X.w X.K X.mg X.base nRef "_law_refused" (defScope sRefused) g cdg X.A X.stack s H C8.E0).nox) (i := 1) (c := .ref CB)
      (tb := fun W D σ H => ∃ Ech : XK, (∀ cls d H', Ech cls d H' → W cls d σ H') ∧ σ[0]? = some (some (.ref f)) ∧ H c' = some (CodeO c' q) ∧ tl Ech H (fun v H1 => D.nx σ H1))
      rfl rfl scRef.nd rfl rfl ⟨by rfl, by decide, .inl T.g⟩ LamX.takes0 (fun W pn xe tk _ => ?body)
      (fun a oe cls d pn hz hv => pss_one (ps_ret (pe_callHot GS ?gg ?rr ⟨(a, oe), List.mem_cons_self⟩ (by rfl) mS kS bS (pa_cons (pe_xf T.xf T.n hz hv (pv 1)) (pa_cons pe_int pa_nil))))))
    (pss_one (ps_ret pe_bl)), ?_⟩
  case body =>
    refine ⟨fun pins s' σ H' D I h' => ?_⟩
    obtain ⟨Ech, hW, h1, h2, h3⟩ := h'
    refine PSs.run (pss_one (ps_expr (act W pn xe Ech _ _ tk))) pins s' σ H' D I ?_
    exact ⟨h1, h2, hW, h3⟩
  case gg => exact gd
  case rr =>
    have z := hr.deeper (envOfC "_law_refused" (defScope sRefused) s.heap.objs.size g cdg)
    exact ⟨z.dp, z.un⟩
  · refine ⟨endR0 CB Q, fun cls d H' he => ?_, rfl, hc, h⟩
    obtain ⟨e, rfl, rfl, hd, k⟩ := he
    refine ⟨true, EX, fun _ a ha => ?_, fun z => nomatch z⟩
    exact ⟨_, rfl, rfl, rfl, e, _, _, rfl, hd, rfl, .int 0, .int 0, .int 0, 100, rfl, .int 0, .int 0, small_zero, by decide, k⟩
end K6
namespace K6
open PySem PySem.Spec PyProof.Rows L2 LamX NdefX EV
/-! ### the law's own body: one list of things asked -/
structure LW14 (P : Program) (w : World) (K : PySem.W.Frag) (mg : Str → Option Value) (base : Heap) (C : Addr) : Prop where
  T : CTxt K mg C
  range : mg "range" = none
  draw : Has P w K mg base 1 "_law_draw" ["_law_stream", "_law_many"] spDraw
  code : Has P w K mg base 5 "_law_code" ["_law_stream", "_law_signs", "_law_helpers", "_law_many"] spCode
  made : Has P w K mg base 7 "_law_made" ["_law_c"] (spMade K C)
  half : Has P w K mg base 3 "_law_half" ["_law_stream", "_law_names_here"] (spHalf K)
  walk : Has P w K mg base 3 "_law_walk" ["_law_stream", "_law_clauses", "_law_half_here"] (spWalk K)
  bent : Has P w K mg base 3 "_law_bent" ["_law_stream", "_law_pairs", "_law_names_here", "_law_many"] (spBent K)
  right : Has P w K mg base 2 "_law_are_right" ["_law_clauses", "_law_half_here", "_law_things"] (spRight K)
  loose : Has P w K mg base 6 "_law_loose" ["_law_stream", "_law_thing"] (spLoose 4)
  are : Has P w K mg base 4 "are_drawings" ["code", "setting", "thing"] (spAre K C)
  same : HasG P w K mg base 1 "_law_same" ["_law_found", "_law_due"] (spSameP K)
abbrev nLaw : List Str := ["_law_script", "_law_stream", "_law_turn", "_law_c", "_law_names_here", "_law_code_here", "_law_k", "_law_half_here", "_law_walk_here", "_law_things", "_law_due", "_law_odd", "_law_bend"]
theorem scLaw : FnScope nLaw ["_law_script"] (defScope sLaw) := ⟨rfl, rfl, rfl, by decide +kernel, rfl, by decide +kernel, by decide +kernel⟩
def turn : List Stmt := forBody ((defBody sLaw).getD 1 (.Pass ⟨0, 0, 0, 0⟩))
def inner : List Stmt := forBody (turn.getD 2 (.Pass ⟨0, 0, 0, 0⟩))
def asks : List Stmt := forBody (inner.getD 2 (.Pass ⟨0, 0, 0, 0⟩))

theorem like_str {z : Str} {d' : PyData} (l : Like (.str z) d') : d' = .str z := by
  cases l with
  | same h => rfl
  | seq h h' t => cases h
theorem Plain.like {y y' : PyData} (l : Like y y') (p : Plain y) : Plain y' := by
  cases l with
  | same h => exact p
  | seq h h' t =>
    cases p with
    | one h1 f =>
      rw [h1] at h
      cases h
      cases t with
      | cons a t =>
        cases t
        rw [like_str a] at h'
        exact .one h' f
    | _ => cases h
theorem plain_all : ∀ {es es' : List PyData}, LikeAll es es' → (∀ y ∈ es, Plain y) → ∀ y ∈ es', Plain y
  | _, _, .nil, _ => fun _ h => nomatch h
  | _, _, .cons a t, p => fun y hy => by
    rcases List.mem_cons.mp hy with rfl | hy
    · exact (p _ List.mem_cons_self).like a
    · exact plain_all t (fun x hx => p x (List.mem_cons_of_mem _ hx)) y hy
theorem GoodD.like {d d' : PyData} (l : Like d d') (g : GoodD d) : GoodD d' := by
  cases l with
  | same h => exact g
  | seq h h' t =>
    obtain ⟨g1, g2⟩ := g _ h
    intro es e
    rw [h'] at e
    cases e
    exact ⟨by rw [← t.len]; exact g1, plain_all t g2⟩
theorem good_all : ∀ {es es' : List PyData}, LikeAll es es' → (∀ y ∈ es, GoodD y) → ∀ y ∈ es', GoodD y
  | _, _, .nil, _ => fun _ h => nomatch h
  | _, _, .cons a t, p => fun y hy => by
    rcases List.mem_cons.mp hy with rfl | hy
    · exact (p _ List.mem_cons_self).like a
    · exact good_all t (fun x hx => p x (List.mem_cons_of_mem _ hx)) y hy
abbrev XL (P : Program) (w : World) (K : PySem.W.Frag) (mg : Str → Option Value) (base : Heap) (f : Addr) (cdv : Value) (A : Around) (outer : List Env) (s0 : Shared) (HH : Hp) (E : XK) : Cx := (cxOf CX0 P w K mg base nLaw "law" (defScope sLaw) f cdv A outer s0 HH E).nox
/-- what stands while things are asked -/
structure Stands (K : PySem.W.Frag) (C S L d ps ph pc x r pn hf : Addr) (sg hp : List Str) (ts : List Addr) (rs : List (List Str)) (qs : List (Bool × Str)) (c : Nat) (H : Hp) : Prop where
  D : Draw1 sg hp rs
  ca : CAt H d ps ph pc sg hp ts rs
  off : ∀ p ∈ [ps, ph, pc], p ≠ S ∧ p ≠ L
  cr : CodeR K C H x sg hp rs r
  hpn : H pn = some (.lst ((sg ++ hp).map V.str))
  hhf : H hf = some (.lst ((qs.map lit).map V.str))
  offp : (pn ≠ S ∧ pn ≠ L) ∧ (hf ≠ S ∧ hf ≠ L)
  hq : Lits (sg ++ hp) qs
  st : StreamAt H S L c
theorem Stands.kept {K : PySem.W.Frag} {C S L d ps ph pc x r pn hf : Addr} {sg hp : List Str} {ts : List Addr} {rs : List (List Str)} {qs : List (Bool × Str)} {c c' : Nat} {H H' : Hp} (z : Stands K C S L d ps ph pc x r pn hf sg hp ts rs qs c H) (k : Kept S L H H') (s : StreamAt H' S L c') : Stands K C S L d ps ph pc x r pn hf sg hp ts rs qs c' H' :=
  ⟨z.D, z.ca.kept z.off z.st.two k, z.off, z.cr.kept z.st.two k, k _ _ z.hpn z.offp.1.1 z.offp.1.2, k _ _ z.hhf z.offp.2.1 z.offp.2.2, z.offp, z.hq, s⟩
theorem Stands.same {K : PySem.W.Frag} {C S L d ps ph pc x r pn hf : Addr} {sg hp : List Str} {ts : List Addr} {rs : List (List Str)} {qs : List (Bool × Str)} {c : Nat} {H H' : Hp} (z : Stands K C S L d ps ph pc x r pn hf sg hp ts rs qs c H) (k : Same H H') : Stands K C S L d ps ph pc x r pn hf sg hp ts rs qs c H' :=
  z.kept (fun b o e _ _ => k b o e) (z.st.same k)
section
variable {P : Program} {w : World} {K : PySem.W.Frag} {mg : Str → Option Value} {base : Heap} {C : Addr}
variable {f : Addr} {cdv : Value} {A : Around} {outer : List Env} {s0 : Shared} {HH : Hp} {E : XK}
/-- one list of things: the program tells of it what the law tells -/
theorem seg_ask (T : LW14 P w K mg base C) (hg : (XL P w K mg base f cdv A outer s0 HH E).A.guards = some []) (hr : Room 9 (XL P w K mg base f cdv A outer s0 HH E).A) :
    ∃ tt, PSs (XL P w K mg base f cdv A outer s0 HH E) asks tt ∧ ∀ (D : Ends) (S L d ps ph pc x r pn hf p : Addr) (sg hp : List Str) (ts : List Addr) (rs : List (List Str)) (qs : List (Bool × Str)) (c : Nat) (N : Addr → Prop) (ds : List PyData) (σ : L2.St) (H : Hp),
      σ[1]? = some (some (.ref S)) → σ[3]? = some (some (.ref d)) → σ[5]? = some (some (.ref x)) → σ[7]? = some (some (.ref hf)) → σ[9]? = some (some (.ref p)) → σ.length = 13 → Stands K C S L d ps ph pc x r pn hf sg hp ts rs qs c H →
      KD N H (.ref p) (.list ds) → ¬ N S → ¬ N L → ds.length ≤ 24 → (∀ e ∈ ds, GoodD e) → c ≤ 80000 → cntL ds ≤ 200 →
      (∀ (v : V) (c' : Nat) (H' : Hp), Stands K C S L d ps ph pc x r pn hf sg hp ts rs qs c' H' → c' ≤ c + 201 → Kept S L H H' → D.nx (σ.set 10 (some v)) H') → tt D σ H := by
  have hu := hu_of hr
  have hr2 : Room 2 _ := hr.mono (by decide)
  have hr4 : Room 4 _ := hr.mono (by decide)
  have hr6 : Room 6 _ := hr.mono (by decide)
  have hr1 : Room 1 _ := hr.mono (by decide)
  refine ⟨_, pss_cons (ps_set (i := 10) scLaw.nd rfl (.inl rfl) (pe_callH T.right hr2 (by rfl) (pa_cons (pe_dget hu (pv 3) pe_str (fun _ _ => rfl)) (pa_cons (pv 7) (pa_cons (pv 9) pa_nil)))))
    (pss_one (ps_if (pt_not (pt_val (pe_callHG T.same hg hr1 (by rfl) (pa_cons (pe_callH T.are hr4 (by rfl) (pa_cons (pv 5) (pa_cons (pv 7) (pa_cons (pe_callH T.loose hr6 (by rfl) (pa_cons (pv 1) (pa_cons (pv 9) pa_nil))) pa_nil)))) (pa_cons (pv 10) pa_nil))))) (pss_one (ps_ret pe_bl)) pss_nil)), ?_⟩
  intro D S L d ps ph pc x r pn hf p sg hp ts rs qs c N ds σ H h1 h3 h5 h7 h9 l13 z kd nS nL l24 gd hc hcnt k
  have ok := z.D.okC
  cases kd with
  | lst hpp np ka =>
  have s5 : (σ.set 10 (some (V.bl (goR rs (qs.map lit) false ds))))[5]? = some (some (.ref x)) := by rw [List.getElem?_set_ne (by decide)]; exact h5
  refine ⟨_, h3, d, _, rfl, (dget_c z.ca.d).2.2, _, h7, _, h9, pc, hf, p, true, _, ts, sg, hp, rs, qs, N, ds, rfl, z.ca.c, z.ca.r, ok, z.hhf, z.hq, hpp, ka, by omega, fun e he es ie => (gd e he es ie).2, fun H1 sm1 => ?_⟩
  have z1 := z.same sm1
  have s1' : (σ.set 10 (some (V.bl (goR rs (qs.map lit) false ds))))[1]? = some (some (.ref S)) := by rw [List.getElem?_set_ne (by decide)]; exact h1
  have s7 : (σ.set 10 (some (V.bl (goR rs (qs.map lit) false ds))))[7]? = some (some (.ref hf)) := by rw [List.getElem?_set_ne (by decide)]; exact h7
  have s9 : (σ.set 10 (some (V.bl (goR rs (qs.map lit) false ds))))[9]? = some (some (.ref p)) := by rw [List.getElem?_set_ne (by decide)]; exact h9
  have s10 : (σ.set 10 (some (V.bl (goR rs (qs.map lit) false ds))))[10]? = some (some (.bl (goR rs (qs.map lit) false ds))) := List.getElem?_set_self (by omega)
  have kd : KD N H1 (.ref p) (.list ds) := .lst (sm1 _ _ hpp) np (ka.step (KN.same sm1))
  have cd : cnt (.list ds) = 1 + cntL ds := cnt_items rfl
  refine ⟨_, s5, _, s7, _, s1', _, s9, S, L, .ref p, .list ds, N, c, rfl, fun es ee => ?_, kd, nS, nL, by omega, z1.st, fun v' d' c' H2 lk kd' hc' hS' hk' => ?_⟩
  · cases ee
    exact ⟨by omega, fun e he => (gd e he).shal⟩
  have z2 := z1.kept hk' hS'
  refine ⟨x, hf, true, v', sg, hp, rs, qs, _, d', rfl, z2.cr.code, ok, z2.hhf, z.hq, kd', fun es ee => ?_, fun H3 sm3 => ?_⟩
  · cases lk with
    | same h => cases h
    | seq h h' t =>
      cases h
      rw [h'] at ee
      cases ee
      exact ⟨by rw [← t.len]; omega, fun e he es ie => (good_all t gd e he es ie).2⟩
  · rw [← areB_like lk]
    refine ⟨_, s10, .bl (goR rs (qs.map lit) false ds), .bl (goR rs (qs.map lit) false ds), .bool (goR rs (qs.map lit) false ds), 100, rfl, .bl _, .bl _, small_bool _, by decide, _, rfl, iteF ?_⟩
    exact k _ c' H3 (z2.same sm3) (by omega) ((fun b o e n1 n2 => sm3 _ _ (hk' _ _ (sm1 _ _ e) n1 n2) : Kept S L H H3))
end
end K6
namespace K6
open PySem PySem.Spec PyProof.Rows L2 LamX NdefX EV
/-! ### one half-filled setting: the walk, four bent ones -/
/-- a list of things that is to be asked -/
def Asked (H : Hp) (N : Addr → Prop) (v : V) : Prop := ∃ (p : Addr) (ds : List PyData), v = .ref p ∧ KD N H v (.list ds) ∧ ds.length ≤ 24 ∧ ∀ e ∈ ds, GoodD e
theorem Asked.map {H H' : Hp} {N M : Addr → Prop} {v : V} (a : Asked H N v) (k : ∀ b o, H b = some o → N b → H' b = some o ∧ M b) : Asked H' M v := by
  obtain ⟨p, ds, rfl, kd, l, g⟩ := a
  exact ⟨p, ds, rfl, kd.map k, l, g⟩
/-- what stands ahead of a half-filled setting -/
structure Base0 (K : PySem.W.Frag) (C S L d ps ph pc x r pn : Addr) (sg hp : List Str) (ts : List Addr) (rs : List (List Str)) (c : Nat) (H : Hp) : Prop where
  D : Draw1 sg hp rs
  ca : CAt H d ps ph pc sg hp ts rs
  off : ∀ p ∈ [ps, ph, pc], p ≠ S ∧ p ≠ L
  cr : CodeR K C H x sg hp rs r
  hpn : H pn = some (.lst ((sg ++ hp).map V.str))
  offp : pn ≠ S ∧ pn ≠ L
  st : StreamAt H S L c
theorem Base0.kept {K : PySem.W.Frag} {C S L d ps ph pc x r pn : Addr} {sg hp : List Str} {ts : List Addr} {rs : List (List Str)} {c c' : Nat} {H H' : Hp} (z : Base0 K C S L d ps ph pc x r pn sg hp ts rs c H) (k : Kept S L H H') (s : StreamAt H' S L c') : Base0 K C S L d ps ph pc x r pn sg hp ts rs c' H' :=
  ⟨z.D, z.ca.kept z.off z.st.two k, z.off, z.cr.kept z.st.two k, k _ _ z.hpn z.offp.1 z.offp.2, z.offp, s⟩
theorem Stands.base {K : PySem.W.Frag} {C S L d ps ph pc x r pn hf : Addr} {sg hp : List Str} {ts : List Addr} {rs : List (List Str)} {qs : List (Bool × Str)} {c : Nat} {H : Hp} (z : Stands K C S L d ps ph pc x r pn hf sg hp ts rs qs c H) : Base0 K C S L d ps ph pc x r pn sg hp ts rs c H :=
  ⟨z.D, z.ca, z.off, z.cr, z.hpn, z.offp.1, z.st⟩
section
variable {P : Program} {w : World} {K : PySem.W.Frag} {mg : Str → Option Value} {base : Heap} {C : Addr}
variable {f : Addr} {cdv : Value} {A : Around} {outer : List Env} {s0 : Shared} {HH : Hp} {E : XK}
theorem seg_inner (T : LW14 P w K mg base C) {f4 : Addr} {fd4 : FuncData} (G4 : FnOk P w K mg base CX0 1 f4 fd4 ["self"] (spLen K C)) (s4 : PySem.W.findIn K (.ref C) "__len__" = some (some (.ref f4))) (i4 : PySem.W.isFn K (.ref f4) = true) (b4 : L2.Binds K fd4 ["self"] [])
    (hg : (XL P w K mg base f cdv A outer s0 HH E).A.guards = some []) (hr : Room 9 (XL P w K mg base f cdv A outer s0 HH E).A) :
    ∃ tt, PSs (XL P w K mg base f cdv A outer s0 HH E) inner tt ∧ ∀ (D : Ends) (S L d ps ph pc x r pn : Addr) (sg hp : List Str) (ts : List Addr) (rs : List (List Str)) (c : Nat) (o0 o2 o6 o7 o8 o9 o10 o11 o12 : Option V) (H : Hp),
      Base0 K C S L d ps ph pc x r pn sg hp ts rs c H → c ≤ 65000 →
      (∀ (o7 o8 o9 o10 o12 : Option V) (c' : Nat) (H' : Hp), Base0 K C S L d ps ph pc x r pn sg hp ts rs c' H' → c' ≤ c + 1300 → Kept S L H H' → D.nx [o0, some (.ref S), o2, some (.ref d), some (.ref pn), some (.ref x), o6, o7, o8, o9, o10, o11, o12] H') →
      tt D [o0, some (.ref S), o2, some (.ref d), some (.ref pn), some (.ref x), o6, o7, o8, o9, o10, o11, o12] H := by
  have hu := hu_of hr
  have hr3 : Room 3 _ := hr.mono (by decide)
  have hr2 : Room 2 _ := hr.mono (by decide)
  obtain ⟨ta, hta, ka⟩ := seg_ask T hg hr
  refine ⟨_, pss_cons (ps_set (i := 7) scLaw.nd rfl (.inl rfl) (pe_callH T.half hr3 (by rfl) (pa_cons (pv 1) (pa_cons (pv 4) pa_nil))))
    (pss_cons (ps_set (i := 8) scLaw.nd rfl (.inr rfl) (pe_callH T.walk hr3 (by rfl) (pa_cons (pv 1) (pa_cons (pe_dget hu (pv 3) pe_str (fun _ _ => rfl)) (pa_cons (pv 7) pa_nil)))))
    (pss_one (ps_for PassesOwn.never rfl (pi_list (pe_op op_cat (pe_lst (pa_cons (pv 8) pa_nil)) (pe_lc (own := [("_law_bend", 12)]) (g := gName 12) (tt := tYes) rfl scLaw.nd (pi_range1 (by rfl) T.range (pa_cons pe_int pa_nil)) (blkOk_by (N := nLaw) (sc := defScope sLaw) (by decide +kernel))
        (fun _ _ _ _ _ => pg_name (i := 12) scLaw.nd rfl (.inl rfl)) (fun _ _ _ _ _ => pts_nil)
        (fun _ _ _ _ _ => pe_callH T.bent hr3 (by rfl) (pa_cons (pv 1) (pa_cons (pv 8) (pa_cons (pv 4) (pa_cons (pe_callB (call_lenOwn G4 s4 i4 b4 pass0 hr2) (by rfl) T.T.len PySem.boot_len (pa_cons (pv 5) pa_nil)) pa_nil))))))))
      (pg_name (i := 9) scLaw.nd rfl (.inl rfl)) hta))), ?_⟩
  intro D S L d ps ph pc x r pn sg hp ts rs c o0 o2 o6 o7 o8 o9 o10 o11 o12 H z hc k
  have ok := z.D.okC
  have r7 := z.D.r7
  have one := z.D.one
  refine ⟨_, rfl, _, rfl, S, L, pn, sg ++ hp, c, rfl, SqL.of z.hpn, (fun H' hk => SqL.of (hk _ _ z.hpn z.offp.1 z.offp.2)), ok.n60, ok.nd, ok.good, by omega, z.st, fun qs hf c1 H1 hq hfn hfh hc1 hS1 hk1 => ?_⟩
  have z1 := z.kept hk1 hS1
  have offhf := z.st.off hfn
  refine ⟨_, rfl, _, rfl, d, _, rfl, (dget_c z1.ca.d).2.2, _, rfl, S, L, pc, hf, ts, sg, hp, rs, qs, c1, rfl, z1.ca.c, (z.off pc (by simp)).1, (z.off pc (by simp)).2, z1.ca.r, ok, by omega, hfh, hq, by omega, hS1, fun p xs ds c2 H2 hpn2 hp2 kx l12 pds hc2 hS2 hk2 => ?_⟩
  have z2 := z1.kept hk2 hS2
  have offp2 := hS1.off hpn2
  have hf2 := hk2 _ _ hfh offhf.1 offhf.2
  have kx2 : KDA (fun b => b ≠ S ∧ b ≠ L) H2 xs ds := kx.mono fun b m => hS1.off m.1
  refine ⟨_, rfl, by show 1 ≤ sizeLine; decide, fun l hl => ⟨_, rfl, by decide, by decide, fun B hB => lc_range (lo := 0) (n := 4) (fun i H3 => ∃ (vs : List V) (c3 : Nat), H3 B = some (.lst vs) ∧ vs.length = i ∧ (∀ v ∈ vs, Asked H3 (fun b => (b ≠ S ∧ b ≠ L) ∧ b ≠ B) v) ∧ c3 ≤ c2 + 20 * i ∧ StreamAt H3 S L c3 ∧ Kept S L (upd H2 l (.lst [.ref p])) H3 ∧ KDA (fun b => (b ≠ S ∧ b ≠ L) ∧ b ≠ B) H3 xs ds) ?_ ?_ ?_⟩⟩
  · exact ⟨[], c2, upd_same, rfl, (fun _ h => nomatch h), by omega, (hS2.new hl).new hB, (Kept.refl _).new hB, (kx2.step (KN.same (same_new hl))).cut hB⟩
  · rintro i H3 hi ⟨vs, c3, hB3, lv, av, hc3, hS3, hk3, kx3⟩
    have sl := same_new (o := .lst [.ref p]) hl
    have hk23 : Kept S L H2 H3 := fun b o e n1 n2 => hk3 _ _ (sl _ _ e) n1 n2
    have z3 := z2.kept hk23 hS3
    have hp3 := hk23 _ _ hp2 offp2.1 offp2.2
    have offB := (hS2.new (o := .lst [.ref p]) hl).off hB
    obtain ⟨dx, _, _, _, hx3, _⟩ := z3.cr.at_
    refine ⟨rfl, _, rfl, _, rfl, _, rfl, _, rfl, x, dx, _, rfl, hx3, x, sg, hp, rs, rfl, z3.cr.code, _, rfl, by omega, S, L, p, pn, xs, ds, sg ++ hp, rs.length, _, c3, rfl, hp3, offp2.1, offp2.2, kx3, (fun h => h.1.1 rfl), (fun h => h.1.2 rfl), pds, l12, z3.hpn, z.offp.1, z.offp.2, ?_, ok.n60, ok.good, by omega, by omega, hS3, fun p' es c' H4 kd l24 gd hc' hS4 hk4 => ?_⟩
    · intro e
      have e := congrArg List.length e
      rw [List.length_append] at e
      have e : sg.length + hp.length = 0 := e
      omega
    · have hB4 := hk4 _ _ hB3 offB.1 offB.2
      have kn : KN (fun b => (b ≠ S ∧ b ≠ L) ∧ b ≠ B) H3 H4 := KN.kept hk4 fun q m => m.1
      refine ⟨vs, hB4, by rw [lv, sizeLine_eq]; omega, vs ++ [.ref p'], c', upd_same, by rw [List.length_append, lv]; rfl, fun v hv => ?_, by omega, hS4.put offB.1 offB.2, kept_upd (hk3.trans hk4) hB, (kx3.step kn).put fun q m => m.2⟩
      rcases List.mem_append.mp hv with hv | hv
      · exact (av v hv).map fun b o e n => ⟨(upd_ne n.2).trans (kn b o e n), n⟩
      · rw [List.mem_singleton.mp hv]
        refine ⟨p', es, rfl, (kd.mono fun b m => ?_).put fun q m => m.2, l24, gd⟩
        rcases m with m | m
        · exact m
        · exact ⟨hS3.off m, fun e => by rw [e, hB3] at m; cases m⟩
  · rintro H3 ⟨vs, c3, hB3, lv, av, hc3, hS3, hk3, kx3⟩
    have sl := same_new (o := .lst [.ref p]) hl
    have hk23 : Kept S L H2 H3 := fun b o e n1 n2 => hk3 _ _ (sl _ _ e) n1 n2
    have offl := hS2.off hl
    have hl3 := hk3 _ _ (show upd H2 l (.lst [.ref p]) l = some _ from upd_same) offl.1 offl.2
    have z3 := z2.kept hk23 hS3
    have hp3 := hk23 _ _ hp2 offp2.1 offp2.2
    have hf3 := hk23 _ _ hf2 offhf.1 offhf.2
    have Z3 : Stands K C S L d ps ph pc x r pn hf sg hp ts rs qs c3 H3 := ⟨z3.D, z3.ca, z3.off, z3.cr, z3.hpn, hf3, ⟨z.offp, offhf⟩, hq, hS3⟩
    have all3 : ∀ v ∈ [V.ref p] ++ vs, Asked H3 (fun b => b ≠ S ∧ b ≠ L) v := fun v hv => by
      rcases List.mem_append.mp hv with hv | hv
      · rw [List.mem_singleton.mp hv]
        exact ⟨p, ds, rfl, .lst hp3 offp2 (kx3.mono fun b m => m.1), by omega, fun e he => (pds e he).good⟩
      · exact (av v hv).map fun b o e n => ⟨e, n.1⟩
    refine ⟨l, B, _, _, rfl, rfl, hl3, hB3, by show 1 + vs.length ≤ _; rw [lv, sizeLine_eq]; omega, fun q hq => ?_⟩
    have sq := same_new (o := .lst ([V.ref p] ++ vs)) hq
    have offq := hS3.off hq
    refine ⟨q, rfl, ⟨_, SqL.of upd_same⟩, for_list (K := K) (a := q) (xs := [V.ref p] ++ vs) (fun i σ' H4 => ∃ (o9 o10 o12 : Option V) (c4 : Nat), σ' = [o0, some (.ref S), o2, some (.ref d), some (.ref pn), some (.ref x), o6, some (.ref hf), some (.ref p), o9, o10, o11, o12] ∧ Stands K C S L d ps ph pc x r pn hf sg hp ts rs qs c4 H4 ∧ c4 ≤ c3 + 201 * i ∧ Kept S L H3 H4 ∧ H4 q = some (.lst ([V.ref p] ++ vs)) ∧ ∀ v ∈ [V.ref p] ++ vs, Asked H4 (fun b => b ≠ S ∧ b ≠ L) v)
      ⟨_, _, _, c3, rfl, Z3.same sq, by omega, fun b o e _ _ => sq b o e, upd_same, fun v hv => (all3 v hv).map fun b o e n => ⟨sq b o e, n⟩⟩ (fun i σ' H4 _ ⟨_, _, _, _, _, _, _, _, h, _⟩ => SqL.of h) ?_ ?_⟩
    · rintro i v σ' H4 hv ⟨o9, o10, o12, c4, rfl, Z4, hc4, hk4, hq4, a4⟩
      obtain ⟨p1, ds1, rfl, kd1, l1, g1⟩ := a4 v (List.mem_of_getElem? hv)
      have il : i < 5 := by
        have := (List.getElem?_eq_some_iff.mp hv).1
        rw [List.length_append, lv] at this
        exact this
      have gc := good_cnt g1
      refine ka _ S L d ps ph pc x r pn hf p1 sg hp ts rs qs c4 _ ds1 _ H4 rfl rfl rfl rfl rfl rfl Z4 kd1 (fun h => h.1 rfl) (fun h => h.2 rfl) l1 g1 (by omega) (by omega) fun v c' H5 Z5 hc5 hk5 => ?_
      exact ⟨_, _, _, c', rfl, Z5, by omega, hk4.trans hk5, hk5 _ _ hq4 offq.1 offq.2, fun v hv => (a4 v hv).map fun b o e n => ⟨hk5 b o e n.1 n.2, n⟩⟩
    · rintro σ' H4 ⟨o9, o10, o12, c4, rfl, Z4, hc4, hk4, hq4, a4⟩
      rw [List.length_append, lv] at hc4
      have hc4 : c4 ≤ c3 + 201 * 5 := hc4
      exact k _ _ _ _ _ c4 H4 Z4.base (by omega) (((hk1.trans hk2).trans hk23).trans hk4)
end
end K6
namespace K6
open PySem PySem.Spec PyProof.Rows L2 LamX NdefX EV
/-! ### odd objects for things -/
theorem Base0.same {K : PySem.W.Frag} {C S L d ps ph pc x r pn : Addr} {sg hp : List Str} {ts : List Addr} {rs : List (List Str)} {c : Nat} {H H' : Hp} (z : Base0 K C S L d ps ph pc x r pn sg hp ts rs c H) (k : Same H H') : Base0 K C S L d ps ph pc x r pn sg hp ts rs c H' :=
  z.kept (fun b o e _ _ => k b o e) (z.st.same k)
section
variable {P : Program} {w : World} {K : PySem.W.Frag} {mg : Str → Option Value} {base : Heap} {C : Addr}
variable {f : Addr} {cdv : Value} {A : Around} {outer : List Env} {s0 : Shared} {HH : Hp} {E : XK}
theorem seg_odd (T : LW14 P w K mg base C) (hg : (XL P w K mg base f cdv A outer s0 HH E).A.guards = some []) (hr : Room 9 (XL P w K mg base f cdv A outer s0 HH E).A) :
    ∃ tt, PS (XL P w K mg base f cdv A outer s0 HH E) (turn.getD 3 (.Pass ⟨0, 0, 0, 0⟩)) tt ∧ ∀ (D : Ends) (S L d ps ph pc x r pn : Addr) (sg hp : List Str) (ts : List Addr) (rs : List (List Str)) (c : Nat) (o0 o2 o6 o7 o8 o9 o10 o11 o12 : Option V) (H : Hp),
      Base0 K C S L d ps ph pc x r pn sg hp ts rs c H →
      (∀ (o11 : Option V) (H' : Hp), Same H H' → D.nx [o0, some (.ref S), o2, some (.ref d), some (.ref pn), some (.ref x), o6, o7, o8, o9, o10, o11, o12] H') →
      tt D [o0, some (.ref S), o2, some (.ref d), some (.ref pn), some (.ref x), o6, o7, o8, o9, o10, o11, o12] H := by
  have hr4 : Room 4 _ := hr.mono (by decide)
  have hr1 : Room 1 _ := hr.mono (by decide)
  refine ⟨_, ps_for PassesOwn.never rfl (pi_list (pe_lst (pa_cons pe_non (pa_cons pe_int (pa_cons pe_str (pa_cons pe_str (pa_cons pe_dnewK (pa_cons pe_bl pa_nil)))))))) (pg_name (i := 11) scLaw.nd rfl (.inl rfl))
    (pss_one (ps_if (pt_not (pt_val (pe_callHG T.same hg hr1 (by rfl) (pa_cons (pe_callH T.are hr4 (by rfl) (pa_cons (pv 5) (pa_cons (pe_lst pa_nil) (pa_cons (pv 11) pa_nil)))) (pa_cons pe_bl pa_nil))))) (pss_one (ps_ret pe_bl)) pss_nil)), ?_⟩
  intro D S L d ps ph pc x r pn sg hp ts rs c o0 o2 o6 o7 o8 o9 o10 o11 o12 H z k
  have ok := z.D.okC
  refine fun q1 hq1 => ⟨by show 6 ≤ sizeLine; decide, fun q hq => ?_⟩
  have s1 := same_new (o := .dK []) hq1
  have s2 := same_new (o := .lst [.non, .int 5, .str (Str.ofString ""), .str (Str.ofString "a"), .ref q1, .bl true]) hq
  have s12 := s1.trans s2
  have odd : ∀ v ∈ [V.non, .int 5, .str (Str.ofString ""), .str (Str.ofString "a"), .ref q1, .bl true], ∃ d, items d = none ∧ KD (fun _ => True) (upd (upd H q1 (.dK [])) q (.lst [.non, .int 5, .str (Str.ofString ""), .str (Str.ofString "a"), .ref q1, .bl true])) v d := fun v hv => by
    simp only [List.mem_cons, List.not_mem_nil, or_false] at hv
    rcases hv with rfl | rfl | rfl | rfl | rfl | rfl
    · exact ⟨_, rfl, .non⟩
    · exact ⟨_, rfl, .int 5⟩
    · exact ⟨_, rfl, .str _⟩
    · exact ⟨_, rfl, .str _⟩
    · exact ⟨_, rfl, .dct (s2 _ _ upd_same) trivial⟩
    · exact ⟨_, rfl, .bl true⟩
  refine ⟨q, rfl, ⟨_, SqL.of upd_same⟩, for_list (K := K) (a := q) (xs := [V.non, .int 5, .str (Str.ofString ""), .str (Str.ofString "a"), .ref q1, .bl true]) (fun i σ' H4 => ∃ o11 : Option V, σ' = [o0, some (.ref S), o2, some (.ref d), some (.ref pn), some (.ref x), o6, o7, o8, o9, o10, o11, o12] ∧ Same (upd (upd H q1 (.dK [])) q (.lst [.non, .int 5, .str (Str.ofString ""), .str (Str.ofString "a"), .ref q1, .bl true])) H4)
    ⟨_, rfl, Same.refl _⟩ (fun i σ' H4 _ ⟨_, _, sm⟩ => SqL.of (sm _ _ upd_same)) ?_ ?_⟩
  · rintro i v σ' H4 hv ⟨o11, rfl, sm⟩
    obtain ⟨dd, id, kd⟩ := odd v (List.mem_of_getElem? hv)
    refine ⟨_, rfl, Nat.zero_le _, fun e he => ?_⟩
    have se := same_new (o := .lst []) he
    have sm2 := sm.trans se
    have z5 := z.same (s12.trans sm2)
    refine ⟨_, rfl, x, e, true, v, sg, hp, rs, [], _, dd, rfl, z5.cr.code, ok, upd_same, ⟨List.nodup_nil, fun _ h => nomatch h⟩, kd.step (KN.same sm2), (fun ds h => by rw [id] at h; cases h), fun H5 sm5 => ?_⟩
    unfold areB
    rw [id]
    exact ⟨.bl false, .bl false, .bool false, 100, rfl, .bl _, .bl _, small_bool _, by decide, _, rfl, iteF ⟨_, rfl, sm2.trans sm5⟩⟩
  · rintro σ' H4 ⟨o11, rfl, sm⟩
    exact k _ H4 (s12.trans sm)
end
end K6
namespace K6
open PySem PySem.Spec PyProof.Rows L2 LamX NdefX EV
section
variable {P : Program} {w : World} {K : PySem.W.Frag} {mg : Str → Option Value} {base : Heap} {C : Addr}
variable {f : Addr} {cdv : Value} {A : Around} {outer : List Env} {s0 : Shared} {HH : Hp} {E : XK}
theorem seg_six (T : LW14 P w K mg base C) {f4 : Addr} {fd4 : FuncData} (G4 : FnOk P w K mg base CX0 1 f4 fd4 ["self"] (spLen K C)) (s4 : PySem.W.findIn K (.ref C) "__len__" = some (some (.ref f4))) (i4 : PySem.W.isFn K (.ref f4) = true) (b4 : L2.Binds K fd4 ["self"] [])
    (hg : (XL P w K mg base f cdv A outer s0 HH E).A.guards = some []) (hr : Room 9 (XL P w K mg base f cdv A outer s0 HH E).A) :
    ∃ tt, PS (XL P w K mg base f cdv A outer s0 HH E) (turn.getD 2 (.Pass ⟨0, 0, 0, 0⟩)) tt ∧ ∀ (D : Ends) (S L d ps ph pc x r pn : Addr) (sg hp : List Str) (ts : List Addr) (rs : List (List Str)) (c : Nat) (o0 o2 o6 o7 o8 o9 o10 o11 o12 : Option V) (H : Hp),
      Base0 K C S L d ps ph pc x r pn sg hp ts rs c H → c ≤ 57000 →
      (∀ (o6 o7 o8 o9 o10 o12 : Option V) (c' : Nat) (H' : Hp), Base0 K C S L d ps ph pc x r pn sg hp ts rs c' H' → c' ≤ c + 7800 → Kept S L H H' → D.nx [o0, some (.ref S), o2, some (.ref d), some (.ref pn), some (.ref x), o6, o7, o8, o9, o10, o11, o12] H') →
      tt D [o0, some (.ref S), o2, some (.ref d), some (.ref pn), some (.ref x), o6, o7, o8, o9, o10, o11, o12] H := by
  obtain ⟨ti, hti, ki⟩ := seg_inner T G4 s4 i4 b4 hg hr
  refine ⟨_, ps_for PassesOwn.never rfl (pi_range1 (by rfl) T.range (pa_cons pe_int pa_nil)) (pg_name (i := 6) scLaw.nd rfl (.inl rfl)) hti, ?_⟩
  intro D S L d ps ph pc x r pn sg hp ts rs c o0 o2 o6 o7 o8 o9 o10 o11 o12 H z hc k
  refine ⟨_, rfl, by decide, by decide, for_range (lo := 0) (n := 6) (fun i σ' H4 => ∃ (o6 o7 o8 o9 o10 o12 : Option V) (c4 : Nat), σ' = [o0, some (.ref S), o2, some (.ref d), some (.ref pn), some (.ref x), o6, o7, o8, o9, o10, o11, o12] ∧ Base0 K C S L d ps ph pc x r pn sg hp ts rs c4 H4 ∧ c4 ≤ c + 1300 * i ∧ Kept S L H H4)
    ⟨_, _, _, _, _, _, c, rfl, z, by omega, Kept.refl H⟩ ?_ ?_⟩
  · rintro i σ' H4 hi ⟨p6, p7, p8, p9, p10, p12, c4, rfl, z4, hc4, hk4⟩
    refine ki _ S L d ps ph pc x r pn sg hp ts rs c4 o0 o2 _ p7 p8 p9 p10 o11 p12 H4 z4 (by omega) fun q7 q8 q9 q10 q12 c' H' z' hc' hk' => ?_
    exact ⟨_, _, _, _, _, _, c', rfl, z', by omega, hk4.trans hk'⟩
  · rintro σ' H4 ⟨p6, p7, p8, p9, p10, p12, c4, rfl, z4, hc4, hk4⟩
    exact k _ _ _ _ _ _ c4 H4 z4 (by omega) hk4
end
end K6
namespace K6
open PySem PySem.Spec PyProof.Rows L2 LamX NdefX EV
/-! ### the two calls that are refused -/
theorem StreamAt.ext {H H' : Hp} {S L : Addr} {c : Nat} (h : StreamAt H S L c) (e : ExtN H H') : StreamAt H' S L c := by
  obtain ⟨ns, a, m, h1, h2, r⟩ := h
  exact ⟨ns, a, m, e _ _ h1 (fun ps z => nomatch z), e _ _ h2 (fun ps z => nomatch z), r⟩
theorem tabs_kept {T : List (Addr × Str)} {H H' : Hp} {S L : Addr} {c : Nat} (t : Tabs T H) (hs : StreamAt H S L c) (k : Kept S L H H') : Tabs T H' := fun q hq => by
  obtain ⟨⟨_, g1⟩, ⟨_, g2⟩⟩ := hs.two
  obtain ⟨ps, h1, h2, h3⟩ := t q hq
  refine ⟨ps, k _ _ h1 (ne_of h1 g1 fun z => nomatch z) (ne_of h1 g2 fun z => nomatch z), h2, fun pos cv hc => ?_⟩
  obtain ⟨x, e1, e2⟩ := h3 pos cv hc
  have nl : ∀ xs, CodeO x q.2 ≠ .lst xs := fun xs z => by
    unfold CodeO at z
    cases z
  exact ⟨x, e1, k _ _ e2 (ne_of e2 g1 (nl _)) (ne_of e2 g2 (nl _))⟩
theorem sqT_ext {K : PySem.W.Frag} {H H' : Hp} {a : Addr} {xs : List V} (h : SqT K H a xs) (k : ExtN H H') : SqT K H' a xs := by
  rcases h with h | h
  · refine .inl ?_
    rcases h with h | ⟨o, h⟩
    · exact .inl (k _ _ h fun ps z => nomatch z)
    · exact .inr ⟨o, k _ _ h fun ps z => nomatch z⟩
  · exact .inr h
theorem CodeR.ext {K : PySem.W.Frag} {C : Addr} {H H' : Hp} {x r : Addr} {sg hp : List Str} {rs : List (List Str)} (c : CodeR K C H x sg hp rs r) (k : ExtN H H') : CodeR K C H' x sg hp rs r := by
  obtain ⟨dx, a, b, pl, h1, h2, h3, h4, h5⟩ := c.at_
  exact ⟨dx, a, b, pl, k _ _ h1 (fun ps z => nomatch z), fun H2 s2 => (sqT_ext (h2 H (Same.refl H)) k).ext s2, fun H2 s2 => (sqT_ext (h3 H (Same.refl H)) k).ext s2, k _ _ h4 (fun ps z => nomatch z), k _ _ h5 (fun ps z => nomatch z)⟩
theorem CAt.ext {H H' : Hp} {d ps ph pc : Addr} {sg hp : List Str} {ts : List Addr} {rs : List (List Str)} (c : CAt H d ps ph pc sg hp ts rs) (k : ExtN H H') : CAt H' d ps ph pc sg hp ts rs :=
  ⟨k _ _ c.d (fun ps z => nomatch z), k _ _ c.s (fun ps z => nomatch z), k _ _ c.h (fun ps z => nomatch z), k _ _ c.c (fun ps z => nomatch z), Paired.mapP c.r fun t r z => k _ _ z fun ps q => nomatch q⟩
theorem ExtN.same {H H' : Hp} (s : Same H H') : ExtN H H' := fun b o h _ => s b o h
structure LX14 (P : Program) (w : World) (K : PySem.W.Frag) (mg : Str → Option Value) (base : Heap) (C CB : Addr) : Prop where
  are : ∃ f fd, FnOk P w K mg base (L2.CX P w) 4 f fd ["code", "setting", "thing"] (spAreX K C CB) ∧ mg "are_drawings" = some (.ref f) ∧ PySem.W.keepIn K (.ref f) = true ∧ L2.Binds K fd ["code", "setting", "thing"] []
  refused : ∃ g fd, Fun K "_law_refused" "_law_refused" sRefused g fd ∧ mg "_law_refused" = some (.ref g) ∧ L2.Binds K fd ["_law_ask"] []
  tb : ∃ f, XT K mg "BadSetting" "index" CB f
  ex : PySem.W.exmOne K (.ref CB) (.ref CB) = some true
  same : ∃ f fd, FnS P w K mg base 1 f fd ["_law_found", "_law_due"] (spSameP K) ∧ mg "_law_same" = some (.ref f) ∧ PySem.W.keepIn K (.ref f) = true ∧ L2.Binds K fd ["_law_found", "_law_due"] []
def qL14 : Str := (envOfC "law" (defScope sLaw) 0 0 .none).qual ++ "<lambda>"
def tX1 (K : PySem.W.Frag) (C CB : Addr) (E : XK) : TE := tCall (spAreX K C CB) [] E (tCons (tVar 5) (tCons (tC .non) (tCons (tC .non) tNil)))
def tX2 (K : PySem.W.Frag) (C CB : Addr) (E : XK) : TE := tCall (spAreX K C CB) [] E (tCons (tVar 5) (tCons (tLst (tCons (tC (.str "Zz")) tNil)) (tCons (tC (.int 5)) tNil)))
theorem zz_far {ns : List Str} (good : ∀ z ∈ ns, Name1 z) : (Str.ofString "Zz") ∉ lits ns := fun h => by
  obtain ⟨q, hq, e⟩ := lits_lit h
  have g := good _ hq
  obtain ⟨b, n⟩ := q
  cases b
  · have e : n = Str.ofString "Zz" := e
    rw [e] at g
    exact absurd (g.2.2 90 (by decide)).1 (by decide)
  · have e : neg n = Str.ofString "Zz" := e
    have l : (neg n).cps.toList = [90, 122] := by rw [e]; decide +kernel
    rw [neg_list] at l
    cases l
section
variable {P : Program} {w : World} {K : PySem.W.Frag} {mg : Str → Option Value} {base : Heap} {C CB cO Pt : Addr}
variable {f : Addr} {A : Around} {outer : List Env} {s0 : Shared} {HH : Hp} {E : XK}
theorem seg_lam1 (T : LX14 P w K mg base C CB) (TB : TabB base mg cO Pt) (hg : (XL P w K mg base f (.ref cO) A outer s0 HH E).A.guards = some []) (hr : Room 9 (XL P w K mg base f (.ref cO) A outer s0 HH E).A) :
    ∃ tt, PS (XL P w K mg base f (.ref cO) A outer s0 HH E) (turn.getD 4 (.Pass ⟨0, 0, 0, 0⟩)) tt ∧ ∀ (D : Ends) (x r : Addr) (sg hp : List Str) (rs : List (List Str)) (σ : L2.St) (H : Hp), σ[5]? = some (some (.ref x)) → CodeR K C H x sg hp rs r → OkC sg hp rs → Tabs [(Pt, qL14)] H →
      (∀ H', ExtN H H' → Tabs [(Pt, qL14)] H' → D.nx σ H') → tt D σ H := by
  obtain ⟨fA, fdA, GA, mA, kA, bA⟩ := T.are
  obtain ⟨g, fd, FE, mE, bE⟩ := T.refused
  obtain ⟨oc, od, kV, doc, pm, an, cdR, ct, osl, rfl, lkE, hcE⟩ := FE.ex
  obtain ⟨xB, TBd⟩ := T.tb
  obtain ⟨fS, fdS, GS, mS, kS, bS⟩ := T.same
  have hr6 : Room 6 _ := hr.mono (by decide)
  have hr2 : Room 2 _ := hr.mono (by decide)
  refine ⟨_, ps_if (pt_not (pt_val (pe_lamcall1 (k := 3) (T := [(Pt, qL14)]) (t := tX1 K C CB) (by rfl) mE FE.kp lkE hcE bE scRef rfl (.inl rfl) (ref_gives TBd T.ex GS mS kS bS hg hr2) TB rfl (List.mem_singleton.mpr rfl) (fun p hp _ => by rw [List.mem_singleton.mp hp]; rfl) hr6 (lamS_by (sc := defScope sLaw) (by decide +kernel)) rfl (fun _ _ _ _ _ => rfl)
          (fun _ _ _ _ E _ _ h => pe_call (E := E) GA (h.mono (by decide)) (by rfl) mA kA bA .nil (passes_call (takes_of rfl rfl rfl rfl) fun _ _ _ _ h => h) (pa_cons (pv 5) (pa_cons pe_non (pa_cons pe_non pa_nil))))))) (pss_one (ps_ret pe_bl)) pss_nil, ?_⟩
  intro D x r sg hp rs σ H h5 cr ok hT k
  refine ⟨hT, fun H1 eN T1 => ?_⟩
  have c1 := cr.ext eN
  refine ⟨_, h5, x, .non, .non, sg, hp, rs, none, 0, rfl, c1.code, ok, .non, rfl, fun d H' hd sm => ⟨d, rfl, rfl, hd, _, rfl, iteF ?_⟩⟩
  exact k H' (eN.trans (ExtN.same sm)) (T1.ext sm)
theorem seg_lam2 (T : LX14 P w K mg base C CB) (TB : TabB base mg cO Pt) (hg : (XL P w K mg base f (.ref cO) A outer s0 HH E).A.guards = some []) (hr : Room 9 (XL P w K mg base f (.ref cO) A outer s0 HH E).A) :
    ∃ tt, PS (XL P w K mg base f (.ref cO) A outer s0 HH E) (turn.getD 5 (.Pass ⟨0, 0, 0, 0⟩)) tt ∧ ∀ (D : Ends) (x r : Addr) (sg hp : List Str) (rs : List (List Str)) (σ : L2.St) (H : Hp), σ[5]? = some (some (.ref x)) → CodeR K C H x sg hp rs r → OkC sg hp rs → Tabs [(Pt, qL14)] H →
      (∀ H', ExtN H H' → Tabs [(Pt, qL14)] H' → D.nx σ H') → tt D σ H := by
  obtain ⟨fA, fdA, GA, mA, kA, bA⟩ := T.are
  obtain ⟨g, fd, FE, mE, bE⟩ := T.refused
  obtain ⟨oc, od, kV, doc, pm, an, cdR, ct, osl, rfl, lkE, hcE⟩ := FE.ex
  obtain ⟨xB, TBd⟩ := T.tb
  obtain ⟨fS, fdS, GS, mS, kS, bS⟩ := T.same
  have hr6 : Room 6 _ := hr.mono (by decide)
  have hr2 : Room 2 _ := hr.mono (by decide)
  refine ⟨_, ps_if (pt_not (pt_val (pe_lamcall1 (k := 3) (T := [(Pt, qL14)]) (t := tX2 K C CB) (by rfl) mE FE.kp lkE hcE bE scRef rfl (.inl rfl) (ref_gives TBd T.ex GS mS kS bS hg hr2) TB rfl (List.mem_singleton.mpr rfl) (fun p hp _ => by rw [List.mem_singleton.mp hp]; rfl) hr6 (lamS_by (sc := defScope sLaw) (by decide +kernel)) rfl (fun _ _ _ _ _ => rfl)
          (fun _ _ _ _ E _ _ h => pe_call (E := E) GA (h.mono (by decide)) (by rfl) mA kA bA .nil (passes_call (takes_of rfl rfl rfl rfl) fun _ _ _ _ h => h) (pa_cons (pv 5) (pa_cons (pe_lst (pa_cons pe_str pa_nil)) (pa_cons pe_int pa_nil))))))) (pss_one (ps_ret pe_bl)) pss_nil, ?_⟩
  intro D x r sg hp rs σ H h5 cr ok hT k
  refine ⟨hT, fun H1 eN T1 => ?_⟩
  have c1 := cr.ext eN
  refine ⟨_, h5, by show 1 ≤ sizeLine; decide, fun l hl => ?_⟩
  have sl := same_new (o := .lst [.str (Str.ofString "Zz")]) hl
  refine ⟨x, .ref l, .int 5, sg, hp, rs, some [.str (Str.ofString "Zz")], 0, rfl, (c1.same sl).code, ok, .lst upd_same (fun x hx => by rw [List.mem_singleton.mp hx]; exact .str (fit_of (by decide)) (by decide)) (by decide), ?_, fun d H' hd sm => ⟨d, rfl, rfl, hd, _, rfl, iteF ?_⟩⟩
  · exact Cut.bad (qs := []) (rest := []) ⟨List.nodup_nil, fun _ h => nomatch h⟩ (.far (zz_far ok.good))
  · exact k H' ((eN.trans (ExtN.same sl)).trans (ExtN.same sm)) ((T1.ext sl).ext sm)
end
end K6
namespace K6
open PySem PySem.Spec PyProof.Rows L2 LamX NdefX EV
/-! ### the law's turn, the law -/
def Sig14 (S : Addr) (σ : L2.St) : Prop := ∃ o0 o2 o3 o4 o5 o6 o7 o8 o9 o10 o11 o12 : Option V, σ = [o0, some (.ref S), o2, o3, o4, o5, o6, o7, o8, o9, o10, o11, o12]
theorem Base0.off2 {K : PySem.W.Frag} {C S L d ps ph pc x r pn : Addr} {sg hp : List Str} {ts : List Addr} {rs : List (List Str)} {c : Nat} {H : Hp} (z : Base0 K C S L d ps ph pc x r pn sg hp ts rs c H) : pn ≠ S ∧ pn ≠ L := z.offp
def spLaw14 (K : PySem.W.Frag) (T : List (Addr × Str)) : Sp := fun vs H Q _ => ∃ (a : Addr) (ns : List Int), vs = [.ref a] ∧ SqL K H a (ns.map V.int) ∧ ns.length ≤ 63 ∧ Tabs T H ∧ ∀ H', Q (.bl true) H'
section
variable {P : Program} {w : World} {K : PySem.W.Frag} {mg : Str → Option Value} {base : Heap} {C CB cO Pt : Addr}
variable {f : Addr} {A : Around} {outer : List Env} {s0 : Shared} {HH : Hp} {E : XK}
theorem seg_turn (T : LW14 P w K mg base C) (TX : LX14 P w K mg base C CB) (TB : TabB base mg cO Pt) {f4 : Addr} {fd4 : FuncData} (G4 : FnOk P w K mg base CX0 1 f4 fd4 ["self"] (spLen K C)) (s4 : PySem.W.findIn K (.ref C) "__len__" = some (some (.ref f4))) (i4 : PySem.W.isFn K (.ref f4) = true) (b4 : L2.Binds K fd4 ["self"] [])
    (hg : (XL P w K mg base f (.ref cO) A outer s0 HH E).A.guards = some []) (hr : Room 9 (XL P w K mg base f (.ref cO) A outer s0 HH E).A) :
    ∃ tt, PSs (XL P w K mg base f (.ref cO) A outer s0 HH E) turn tt ∧ ∀ (D : Ends) (S L : Addr) (c : Nat) (σ : L2.St) (H : Hp), Sig14 S σ → StreamAt H S L c → c ≤ 50000 → Tabs [(Pt, qL14)] H →
      (∀ σ' H' c', Sig14 S σ' → StreamAt H' S L c' → c' ≤ c + 9100 → Tabs [(Pt, qL14)] H' → D.nx σ' H') → tt D σ H := by
  have hu := hu_of hr
  have hr5 : Room 5 _ := hr.mono (by decide)
  have hr7 : Room 7 _ := hr.mono (by decide)
  obtain ⟨t2, p2, k2⟩ := seg_six (f := f) (cdv := .ref cO) (A := A) (outer := outer) (s0 := s0) (HH := HH) (E := E) T G4 s4 i4 b4 hg hr
  obtain ⟨t3, p3, k3⟩ := seg_odd (f := f) (cdv := .ref cO) (A := A) (outer := outer) (s0 := s0) (HH := HH) (E := E) T hg hr
  obtain ⟨t4, p4, k4⟩ := seg_lam1 (f := f) (A := A) (outer := outer) (s0 := s0) (HH := HH) (E := E) TX TB hg hr
  obtain ⟨t5, p5, k5⟩ := seg_lam2 (f := f) (A := A) (outer := outer) (s0 := s0) (HH := HH) (E := E) TX TB hg hr
  refine ⟨_, pss_cons (ps_set (i := 3) scLaw.nd rfl (.inl rfl) (pe_callH T.code hr5 (by rfl) (pa_cons (pv 1) (pa_cons pe_int (pa_cons pe_int (pa_cons pe_int pa_nil))))))
    (pss_cons (ps_asg (pe_tup (pa_cons (pe_op op_cat (pe_dget hu (pv 3) pe_str (fun _ _ => rfl)) (pe_dget hu (pv 3) pe_str (fun _ _ => rfl))) (pa_cons (pe_callH T.made hr7 (by rfl) (pa_cons (pv 3) pa_nil)) pa_nil)))
        (pg_tup (by rfl) (pgs_cons (pg_name (i := 4) scLaw.nd rfl (.inr rfl)) (pgs_cons (pg_name (i := 5) scLaw.nd rfl (.inr rfl)) pgs_nil))))
    (pss_cons p2 (pss_cons p3 (pss_cons p4 (pss_one p5))))), ?_⟩
  rintro D S L c σ H ⟨o0, o2, o3, o4, o5, o6, o7, o8, o9, o10, o11, o12, rfl⟩ hS hc hT k
  refine ⟨_, rfl, S, L, c, rfl, by omega, hS, fun d ps ph pc sg hp ts rs c1 H1 D1 ca off hc1 hS1 hk1 => ?_⟩
  have T1 := tabs_kept hT hS hk1
  obtain ⟨g1, g2, g3⟩ := dget_c ca.d
  have l4 := D1.sg4
  have l3 := D1.hp3
  refine ⟨_, rfl, d, _, rfl, g1, _, rfl, d, _, rfl, g2, ps, ph, _, _, rfl, rfl, ca.s, ca.h, ?_, fun pn hpn => ?_⟩
  · rw [List.length_map, List.length_map, sizeLine_eq]; omega
  have s1 := same_new (o := .lst (sg.map V.str ++ hp.map V.str)) hpn
  have hpn1 : upd H1 pn (.lst (sg.map V.str ++ hp.map V.str)) pn = some (.lst ((sg ++ hp).map V.str)) := by rw [List.map_append]; exact upd_same
  have offn := hS1.off hpn
  refine ⟨_, rfl, d, ps, ph, pc, sg, hp, ts, rs, rfl, ca.same s1, D1, fun y r H2 sm2 cr => ⟨by show 2 ≤ sizeLine; decide, fun t ht => ⟨t, _, rfl, SqT.of upd_same, rfl, _, _, rfl, _, _, rfl, rfl, ?_⟩⟩⟩
  have s3 := same_new (o := .tup [.ref pn, .ref y]) ht
  have sm := (s1.trans sm2).trans s3
  have B : Base0 K C S L d ps ph pc y r pn sg hp ts rs c1 _ := ⟨D1, ca.same sm, off, cr.same s3, s3 _ _ (sm2 _ _ hpn1), offn, hS1.same sm⟩
  refine k2 _ S L d ps ph pc y r pn sg hp ts rs c1 _ _ _ _ _ _ _ _ _ _ B (by omega) fun p6 p7 p8 p9 p10 p12 c2 H4 B2 hc2 hk2 => ?_
  have T4 := tabs_kept (T1.ext sm) (hS1.same sm) hk2
  refine k3 _ S L d ps ph pc y r pn sg hp ts rs c2 _ _ _ _ _ _ _ _ _ H4 B2 fun p11 H5 s5 => ?_
  refine k4 _ y r sg hp rs _ H5 rfl (B2.cr.same s5) D1.okC (T4.ext s5) fun H6 e6 T6 => ?_
  refine k5 _ y r sg hp rs _ H6 rfl ((B2.cr.same s5).ext e6) D1.okC T6 fun H7 e7 T7 => ?_
  exact k _ H7 c2 ⟨_, _, _, _, _, _, _, _, _, _, _, _, rfl⟩ (((B2.st.same s5).ext e6).ext e7) (by omega) T7
theorem law_body (T : LW14 P w K mg base C) (TX : LX14 P w K mg base C CB) (TB : TabB base mg cO Pt) {f4 : Addr} {fd4 : FuncData} (G4 : FnOk P w K mg base CX0 1 f4 fd4 ["self"] (spLen K C)) (s4 : PySem.W.findIn K (.ref C) "__len__" = some (some (.ref f4))) (i4 : PySem.W.isFn K (.ref f4) = true) (b4 : L2.Binds K fd4 ["self"] [])
    (hg : (XL P w K mg base f (.ref cO) A outer s0 HH E).A.guards = some []) (hr : Room 9 (XL P w K mg base f (.ref cO) A outer s0 HH E).A) :
    ∃ tt, PSs (XL P w K mg base f (.ref cO) A outer s0 HH E) (defBody sLaw) tt ∧ ∀ (D : Ends) (a : Addr) (ns : List Int) (H : Hp), SqL K H a (ns.map V.int) → ns.length ≤ 63 → Tabs [(Pt, qL14)] H → (∀ H', D.rt (.bl true) H') → tt D (L2.start nLaw [.ref a]) H := by
  obtain ⟨tt1, p1, k1⟩ := seg_turn (f := f) (A := A) (outer := outer) (s0 := s0) (HH := HH) (E := E) T TX TB G4 s4 i4 b4 hg hr
  have TT := T.T
  refine ⟨_, pss_cons (ps_set (i := 1) scLaw.nd rfl (.inr rfl) (pe_lst (pa_cons (pe_callTy call_list_of (by rfl) TT.list (by decide +kernel) (pa_cons (pv 0) pa_nil)) (pa_cons pe_int (pa_cons pe_int (pa_cons pe_int pa_nil))))))
    (pss_cons (ps_for PassesOwn.never rfl (pi_range1 (by rfl) T.range (pa_cons pe_int pa_nil)) (pg_name (i := 2) scLaw.nd rfl (.inl rfl)) p1)
    (pss_one (ps_ret pe_bl))), ?_⟩
  intro D a ns H hA hn hT k
  refine ⟨_, rfl, a, _, rfl, .inl hA, fun l0 hl0 => ⟨(by show 4 ≤ sizeLine; decide), fun S hS => ?_⟩⟩
  have hSl : StreamAt (upd (upd H l0 (.lst (ns.map V.int))) S (.lst [.ref l0, .int 0, .int 0, .int 0])) S l0 0 := ⟨ns, 0, 0, upd_same, (upd_ne (ne_of_none upd_same hS)).trans upd_same, by decide, by decide, by decide, hn⟩
  have sm0 : Same H (upd (upd H l0 (.lst (ns.map V.int))) S (.lst [.ref l0, .int 0, .int 0, .int 0])) := (same_new hl0).trans (same_new hS)
  have T0 : Tabs [(Pt, qL14)] _ := fun p hp => (hT p hp).ext sm0
  generalize upd (upd H l0 (.lst (ns.map V.int))) S (.lst [.ref l0, .int 0, .int 0, .int 0]) = HA at hSl T0 ⊢
  refine ⟨6, rfl, by decide, by decide, for_range (lo := 0) (n := 6) (fun i σ H2 => Sig14 S σ ∧ ∃ c, c ≤ 9100 * i ∧ StreamAt H2 S l0 c ∧ Tabs [(Pt, qL14)] H2) ⟨⟨_, _, _, _, _, _, _, _, _, _, _, _, rfl⟩, 0, Nat.zero_le _, hSl, T0⟩ ?_ ?_⟩
  · rintro i σ H2 hi ⟨⟨o0, o2, o3, o4, o5, o6, o7, o8, o9, o10, o11, o12, rfl⟩, c, hc, hS2, T2⟩
    exact k1 _ S l0 c _ H2 ⟨_, _, _, _, _, _, _, _, _, _, _, _, rfl⟩ hS2 (by omega) T2 fun σ' H' c' hσ hS' hc' hT' => ⟨hσ, c', by omega, hS', hT'⟩
  · rintro σ HB _
    exact k HB
end
end K6
namespace K6
open PySem PySem.Spec PyProof.Rows L2 LamX NdefX EV
abbrev psInit : List Str := ["self", "signs", "clauses", "helpers"]
/-! ### what the written part says of the text -/
def frees : List Str := ["int", "len", "repr", "range", "list", "tuple", "isinstance", "str", "all", "any", "enumerate", "sorted", "set", "bool"]
def freeB (K : PySem.W.Frag) (xs : List Str) : Bool := xs.all fun x => decide (PySem.W.nsIn K mainGlobals x = some none)
theorem freeB_ok {K : PySem.W.Frag} {xs : List Str} {h : Heap} {mg : Str → Option Value} (b : freeB K xs = true) (X : K.In h) (G : h.Ns mainGlobals mg) : ∀ x ∈ xs, mg x = none := fun x hx => by
  unfold freeB at b
  simp only [List.all_eq_true, decide_eq_true_eq] at b
  exact PySem.W.mg_none_of X G (b x hx)
def DefAt (K : PySem.W.Frag) (x : Str) (st : Stmt) (f : Addr) : Prop := PySem.W.nsIn K mainGlobals x = some (some (.ref f)) ∧ ∃ fd, Fun K x x st f fd
def fnB (K : PySem.W.Frag) (C : Addr) (m : Str) (f : Addr) : Bool := decide (PySem.W.findIn K (.ref C) m = some (some (.ref f))) && PySem.W.isFn K (.ref f) && PySem.W.keepIn K (.ref f)
theorem fnB_ok {K : PySem.W.Frag} {C f : Addr} {m : Str} (h : fnB K C m f = true) : Meth K C m f := by
  unfold fnB at h
  simp only [Bool.and_eq_true, decide_eq_true_eq] at h
  exact ⟨h.1.1, h.1.2, h.2⟩
def clB (K : PySem.W.Frag) (C : Addr) : Bool := PySem.W.plainGet K C Str.empty && PySem.W.hasDictIn K C && PySem.W.plainOver K C && decide (PySem.W.findIn K (.ref C) "__setattr__" = some (some (.builtin "object.__setattr__"))) &&
  (["own_signs", "own_helpers", "places", "rows"] : List Str).all (fun n => decide (PySem.W.findIn K (.ref C) n = some none))
theorem clB_ok {K : PySem.W.Frag} {C : Addr} (h : clB K C = true) : Cls K C ∧ NoAttr K C "own_signs" ∧ NoAttr K C "own_helpers" ∧ NoAttr K C "places" ∧ NoAttr K C "rows" := by
  unfold clB at h
  simp only [Bool.and_eq_true, decide_eq_true_eq, List.all_eq_true] at h
  obtain ⟨⟨⟨⟨h1, h2⟩, h3⟩, h4⟩, h5⟩ := h
  exact ⟨⟨h1, h2, h3, h4⟩, h5 _ (by simp), h5 _ (by simp), h5 _ (by simp), h5 _ (by simp)⟩
def mkB (K : PySem.W.Frag) (C : Addr) : Bool := PySem.W.makesIn K C && PySem.W.keepIn K (.ref C)
theorem mkB_ok {K : PySem.W.Frag} {C f : Addr} (h : mkB K C = true) (m : Meth K C "__init__" f) : Mk K C f := by
  unfold mkB at h
  simp only [Bool.and_eq_true] at h
  exact ⟨h.1, m.at_, m.fn, h.2⟩
section
variable {P : Program} {w : World} {K : PySem.W.Frag} {mg : Str → Option Value} {base : Heap}
def xfBits (K : PySem.W.Frag) (D : Addr) : Bool := decide (PySem.W.findIn K (.ref D) "__getattribute__" = some (some (.builtin "BaseException.__getattribute__"))) && decide (PySem.W.findIn K (.ref D) "__getattr__" = some none) && decide (PySem.W.subIn K (.ref D) (.type "BaseException") = some true) && PySem.W.hasDictIn K D
def xtB (K : PySem.W.Frag) (D f : Addr) (fld : Str) : Bool := xfBits K D && decide (PySem.W.findIn K (.ref D) "__setattr__" = some (some (.builtin "object.__setattr__"))) && decide (PySem.W.typeIn K (.ref D) = some (.type "type")) && PySem.W.keepIn K (.ref D) && decide (PySem.W.findIn K (.ref D) "__init__" = some (some (.ref f))) && decide (PySem.W.typeIn K (.ref f) = some (.type "function")) && decide (PySem.W.findIn K (.ref D) fld = some none)
theorem xtB_ok {x fld : Str} {D f : Addr} (h : xtB K D f fld = true) (ex : ∃ nm q N bs bm sn sub ab col dd k0 k1 k2 k3 k5, K.lookup D = some (excClassObj nm q D N bs bm true sn sub ab col dd k0 k1 k2 k3 k5 "ValueError.__new__") ∧ PySem.HandSPX.refsVE bm = true) (g : mg x = some (.ref D)) : XT K mg x fld D f := by
  unfold xtB xfBits at h
  simp only [Bool.and_eq_true, decide_eq_true_eq] at h
  obtain ⟨⟨⟨⟨⟨⟨⟨⟨⟨h1, h2⟩, h3⟩, h4⟩, h5⟩, h6⟩, h7⟩, h8⟩, h9⟩, h10⟩ := h
  exact ⟨⟨ex, h5, h3, h6, h7⟩, ⟨h1, h2, h3, h4⟩, h8, h9, h10, g⟩
theorem exc_mk {C N : Addr} {nm q : Str} {bs bm sub : List Value} {sn : List Str} {ab : Bool} {col : Option Bool} {dd : Option Addr} {k0 k1 k2 k3 k5 : Option Value} (h : K.lookup C = some (excClassObj nm q C N bs bm true sn sub ab col dd k0 k1 k2 k3 k5 "ValueError.__new__")) (r : PySem.HandSPX.refsVE bm = true) :
    ∃ nm q N bs bm sn sub ab col dd k0 k1 k2 k3 k5, K.lookup C = some (excClassObj nm q C N bs bm true sn sub ab col dd k0 k1 k2 k3 k5 "ValueError.__new__") ∧ PySem.HandSPX.refsVE bm = true := ⟨nm, q, N, bs, bm, sn, sub, ab, col, dd, k0, k1, k2, k3, k5, h, r⟩
def otB (K : PySem.W.Frag) (O : Addr) : Bool := PySem.W.readsIn K O (.type "type") && decide (PySem.W.specialIn K (.ref O) "__getattribute__" = some (some (.builtin "type.__getattribute__"))) && (match PySem.W.findCls K (.ref O) (.type "type") "__init__" with
    | some (.val (.builtin id)) => id == "ValueError.__init__"
    | _ => false)
theorem otB_ok {O : Addr} (h : otB K O = true) (g : mg "OpenError" = some (.ref O)) : OT K mg O := by
  unfold otB at h
  simp only [Bool.and_eq_true, decide_eq_true_eq] at h
  obtain ⟨⟨h1, h2⟩, h3⟩ := h
  refine ⟨⟨h1, h2⟩, ?_, g⟩
  split at h3
  · rename_i id e
    rw [e, beq_iff_eq.mp h3]
  · cases h3
theorem law_mk {f c : Addr} {oc kV doc pm ct : Value} {od an : Option Addr} {osl : Array (Option Value)} (h : K.lookup f = some ⟨oc, od, .func (PySem.W.fnOf "law" "law" (defArgs sLaw) (defBody sLaw) (defScope sLaw) .none kV doc pm an (.ref c) ct), osl⟩) :
    ∃ (oc kV doc pm ct : Value) (od an : Option Addr) (osl : Array (Option Value)), K.lookup f = some ⟨oc, od, .func (PySem.W.fnOf "law" "law" (defArgs sLaw) (defBody sLaw) (defScope sLaw) .none kV doc pm an (.ref c) ct), osl⟩ := ⟨oc, kV, doc, pm, ct, od, an, osl, h⟩
theorem walk14 {l : PySem.W.OpenLaw} {q : Program} {loose : List Str} {XP : (Str → Option Value) → Heap → Prop} {YP : World → Heap → Prop} {d : DefRec} {K : Params → PySem.W.Frag} {cO Pt : Addr} (hn : l.most = some 63) (hdf : d.params.defaults = [])
    (hY : ∀ (w : World) (h : Heap), YP w h → (K w.params).In h ∧ h.get? Pt = some { cls := .none, data := .fields #[] }) (hP : ∀ w : World, (K w.params).lookup Pt = none) (hC : ∀ (w : World) (h : Heap), (K w.params).In h → PySem.W.CodeHd h cO Pt)
    (F : ∀ (w : World) (mg : Str → Option Value) (fa : Addr) (h base : Heap), (K w.params).In h → h.Ns mainGlobals mg → mg d.name = some (.ref fa) → TabB base mg cO Pt →
      ∃ fd, (∀ (s : Shared) (u : Value), BindsTo s fd ⟨[u], []⟩ [("_law_script", u)]) ∧ FnG l.prog w (K w.params) mg base 10 fa fd ["_law_script"] (spLaw14 (K w.params) [(Pt, qL14)])) :
    PySem.W.WalkO q loose XP YP l.row.toRowW d [] (fun f vs => PySem.call f vs) := by
  refine Att.attach_callB hn hdf fun w s₀ s₁ mg mb fa o pm cd doc a vs ns G Y ho hd hcd hmg hobj hints hlen hbits hg => ?_
  obtain ⟨KX, hT⟩ := hY w _ Y
  refine law_callG (cs := [(cO, Pt)]) KX G.T.g G.T.b G.T.builtins G.T.nolimit hg (fun p hp => ?_) (fun p hp => ?_) (fun p hp => ?_) G.T.bmain hobj hints (Nat.le_trans hlen (by decide)) fun base H kb gb tb hH hS e0 => ?_
  · rw [List.mem_singleton.mp hp]
    exact hT
  · rw [List.mem_singleton.mp hp]
    exact hP w
  · rw [List.mem_singleton.mp hp]
    exact hC w _ KX
  · obtain ⟨fd, hb, hF⟩ := F w mg fa _ base KX G.T.g hmg (tb _ List.mem_cons_self)
    refine hF.run callerA [] s₁ H ⟨[.ref a], []⟩ [.ref a] [.ref a] _ E0 rfl ⟨rfl, by decide, by decide⟩ e0 (hb s₁ (.ref a)) (.cons rfl .nil) ⟨a, ns, rfl, hS, hlen, fun q hq => ?_, fun _ => rfl⟩
    rw [List.mem_singleton.mp hq]
    exact TabS.nil (hH _ List.mem_cons_self)
theorem all_tx {h : Heap} {fa fZ C O CXB gXB fNN AN fI AI cO Pt fD fP fM fS fF fN fNg fU fHf fA fB fG fO fMd fLo fRi fWa fBe fRe fi fn fop fl fp fv ft fw fc fcs fk fx far g3 g4 : Addr} {vL vM : Value} (X : K.In h) (G : h.Ns mainGlobals mg) (hfa : mg "law" = some (.ref fa)) (fr : freeB K frees = true)
    (aL : PySem.W.nsIn K mainGlobals "LETTERS" = some (some vL)) (eL : ∃ t, vL = .str letters t) (aM : PySem.W.nsIn K mainGlobals "MOST_LETTERS" = some (some vM)) (eM : ∃ t, vM = .int 8 t)
    (dD : DefAt K "_law_draw" sDraw fD) (dP : DefAt K "_law_pick" sPick fP) (dM : DefAt K "_law_mixed" sMixed fM) (dS : DefAt K "_law_same" sSame fS) (dF : DefAt K "_law_fresh" sFresh fF) (dN : DefAt K "_law_names" sNames fN) (dNg : DefAt K "_law_neg" sNeg fNg) (dU : DefAt K "_law_up" sUp fU) (dHf : DefAt K "_law_half" sHalf fHf) (dA : DefAt K "_law_sided" sSided fA) (dB : DefAt K "_law_clause" sClause fB) (dG : DefAt K "_law_code" sCode fG) (dO : DefAt K "_law_once" sOnce fO) (dMd : DefAt K "_law_made" sMade fMd) (dLo : DefAt K "_law_loose" sLoose fLo) (dRi : DefAt K "_law_are_right" sRight fRi) (dWa : DefAt K "_law_walk" sWalk fWa) (dBe : DefAt K "_law_bent" sBent fBe) (dRe : DefAt K "_law_refused" sRefused fRe) (di : DefAt K "is_name" sIsName fi) (dn : DefAt K "name_of" sNameOf fn) (dop : DefAt K "opposite" sOpp fop) (dl : DefAt K "literals_of" sLits fl) (dp : DefAt K "places_of" sPlaces fp) (dv : DefAt K "in_order" sInOrder fv) (dt : DefAt K "is_list" sIsList ft) (dw : DefAt K "first_wrong" sWrong fw) (dc : DefAt K "is_clause" sIsClause fc) (dcs : DefAt K "check_setting" sChkSetting fcs) (dk : DefAt K "check_clauses" sChkCl fk) (dx : DefAt K "is_index" sIsIndex fx) (dar : DefAt K "are_drawings" sAre far)
    (aC : PySem.W.nsIn K mainGlobals "Code" = some (some (.ref C))) (aN : PySem.W.nsIn K mainGlobals "check_names" = some (some (.ref fNN))) (lN : ∃ fd, FunE K "check_names" "check_names" sChkNames fNN fd AN)
    (iI : PySem.W.findIn K (.ref C) "__init__" = some (some (.ref fI))) (nI : fnB K C "__init__" fI = true) (lI : ∃ fd, FunE K "__init__" "Code.__init__" sInit fI fd AI)
    (i3 : PySem.W.findIn K (.ref C) "clauses" = some (some (.ref g3))) (n3 : fnB K C "clauses" g3 = true) (l3 : ∃ fd, Fun K "clauses" "Code.clauses" sClauses g3 fd) (i4 : PySem.W.findIn K (.ref C) "__len__" = some (some (.ref g4))) (n4 : fnB K C "__len__" g4 = true) (l4 : ∃ fd, Fun K "__len__" "Code.__len__" sLen g4 fd)
    (cC : clB K C = true) (cM : mkB K C = true) (cX : decide (PySem.W.exmOne K (.ref CXB) (.ref CXB) = some true) = true)
    (aO : PySem.W.nsIn K mainGlobals "OpenError" = some (some (.ref O))) (wO : otB K O = true)
    (aXB : PySem.W.nsIn K mainGlobals "BadSetting" = some (some (.ref CXB))) (iXB : PySem.W.findIn K (.ref CXB) "__init__" = some (some (.ref gXB))) (lXB : ∃ fd, Fun K "__init__" "BadSetting.__init__" sIB gXB fd) (wXB : xtB K CXB gXB "index" = true) (xXB : ∃ nm q N bs bm sn sub ab col dd k0 k1 k2 k3 k5, K.lookup CXB = some (excClassObj nm q CXB N bs bm true sn sub ab col dd k0 k1 k2 k3 k5 "ValueError.__new__") ∧ PySem.HandSPX.refsVE bm = true)
    (aZ : PySem.W.nsIn K mainGlobals "law" = some (some (.ref fZ))) (lZ : ∃ (oc kV doc pm ct : Value) (od an : Option Addr) (osl : Array (Option Value)), K.lookup fZ = some ⟨oc, od, .func (PySem.W.fnOf "law" "law" (defArgs sLaw) (defBody sLaw) (defScope sLaw) .none kV doc pm an (.ref cO) ct), osl⟩) (cZ : PySem.W.codeIn K (.ref cO) "law" = true) (TB : TabB base mg cO Pt) :
    ∃ fd, (∀ (s : Shared) (u : Value), BindsTo s fd ⟨[u], []⟩ [("_law_script", u)]) ∧ FnG P w K mg base 10 fa fd ["_law_script"] (spLaw14 K [(Pt, qL14)]) := by
  have fz := freeB_ok fr X G
  have z_int : mg "int" = none := fz _ (by unfold frees; decide +kernel)
  have z_len : mg "len" = none := fz _ (by unfold frees; decide +kernel)
  have z_repr : mg "repr" = none := fz _ (by unfold frees; decide +kernel)
  have z_range : mg "range" = none := fz _ (by unfold frees; decide +kernel)
  have z_list : mg "list" = none := fz _ (by unfold frees; decide +kernel)
  have z_tuple : mg "tuple" = none := fz _ (by unfold frees; decide +kernel)
  have z_isinstance : mg "isinstance" = none := fz _ (by unfold frees; decide +kernel)
  have z_str : mg "str" = none := fz _ (by unfold frees; decide +kernel)
  have z_all : mg "all" = none := fz _ (by unfold frees; decide +kernel)
  have z_any : mg "any" = none := fz _ (by unfold frees; decide +kernel)
  have z_enumerate : mg "enumerate" = none := fz _ (by unfold frees; decide +kernel)
  have z_sorted : mg "sorted" = none := fz _ (by unfold frees; decide +kernel)
  have z_set : mg "set" = none := fz _ (by unfold frees; decide +kernel)
  have z_bool : mg "bool" = none := fz _ (by unfold frees; decide +kernel)
  obtain ⟨tL, rfl⟩ := eL
  obtain ⟨tM, rfl⟩ := eM
  have mL_ : ∃ t, mg "LETTERS" = some (.str letters t) := ⟨_, PySem.W.mg_of X G aL⟩
  have mM_ : ∃ t, mg "MOST_LETTERS" = some (.int 8 t) := ⟨_, PySem.W.mg_of X G aM⟩
  obtain ⟨aD_, fdD, FD⟩ := dD
  have mD := PySem.W.mg_of X G aD_
  have bD := FD.binds (ps := ["_law_stream", "_law_many"]) fun _ _ _ _ _ _ us hl => match us, hl with | [_, _], _ => rfl
  obtain ⟨aP_, fdP, FP⟩ := dP
  have mP := PySem.W.mg_of X G aP_
  have bP := FP.binds (ps := ["_law_stream", "_law_things"]) fun _ _ _ _ _ _ us hl => match us, hl with | [_, _], _ => rfl
  obtain ⟨aM_, fdM, FM⟩ := dM
  have mM := PySem.W.mg_of X G aM_
  have bM := FM.binds (ps := ["_law_stream", "_law_things"]) fun _ _ _ _ _ _ us hl => match us, hl with | [_, _], _ => rfl
  obtain ⟨aS_, fdS, FS⟩ := dS
  have mS := PySem.W.mg_of X G aS_
  have bS := FS.binds (ps := ["_law_found", "_law_due"]) fun _ _ _ _ _ _ us hl => match us, hl with | [_, _], _ => rfl
  obtain ⟨aF_, fdF, FF⟩ := dF
  have mF := PySem.W.mg_of X G aF_
  have bF := FF.binds (ps := ["_law_stream", "_law_taken"]) fun _ _ _ _ _ _ us hl => match us, hl with | [_, _], _ => rfl
  obtain ⟨aN_, fdN, FN⟩ := dN
  have mN := PySem.W.mg_of X G aN_
  have bN := FN.binds (ps := ["_law_stream", "_law_many"]) fun _ _ _ _ _ _ us hl => match us, hl with | [_, _], _ => rfl
  obtain ⟨aNg_, fdNg, FNg⟩ := dNg
  have mNg := PySem.W.mg_of X G aNg_
  have bNg := FNg.binds (ps := ["_law_one"]) fun _ _ _ _ _ _ us hl => match us, hl with | [_], _ => rfl
  obtain ⟨aU_, fdU, FU⟩ := dU
  have mU := PySem.W.mg_of X G aU_
  have bU := FU.binds (ps := ["_law_some", "_law_names_here"]) fun _ _ _ _ _ _ us hl => match us, hl with | [_, _], _ => rfl
  obtain ⟨aHf_, fdHf, FHf⟩ := dHf
  have mHf := PySem.W.mg_of X G aHf_
  have bHf := FHf.binds (ps := ["_law_stream", "_law_names_here"]) fun _ _ _ _ _ _ us hl => match us, hl with | [_, _], _ => rfl
  obtain ⟨aA_, fdA, FA⟩ := dA
  have mA := PySem.W.mg_of X G aA_
  have bA := FA.binds (ps := ["_law_stream", "_law_names_here"]) fun _ _ _ _ _ _ us hl => match us, hl with | [_, _], _ => rfl
  obtain ⟨aB_, fdB, FB⟩ := dB
  have mB := PySem.W.mg_of X G aB_
  have bB := FB.binds (ps := ["_law_stream", "_law_names_here", "_law_most"]) fun _ _ _ _ _ _ us hl => match us, hl with | [_, _, _], _ => rfl
  obtain ⟨aG_, fdG, FG⟩ := dG
  have mG := PySem.W.mg_of X G aG_
  have bG := FG.binds (ps := ["_law_stream", "_law_signs", "_law_helpers", "_law_many"]) fun _ _ _ _ _ _ us hl => match us, hl with | [_, _, _, _], _ => rfl
  obtain ⟨aO_, fdO, FO⟩ := dO
  have mO := PySem.W.mg_of X G aO_
  have bO := FO.binds (ps := ["_law_clauses", "_law_names_here"]) fun _ _ _ _ _ _ us hl => match us, hl with | [_, _], _ => rfl
  obtain ⟨aMd_, fdMd, FMd⟩ := dMd
  have mMd := PySem.W.mg_of X G aMd_
  have bMd := FMd.binds (ps := ["_law_c"]) fun _ _ _ _ _ _ us hl => match us, hl with | [_], _ => rfl
  obtain ⟨aLo_, fdLo, FLo⟩ := dLo
  have mLo := PySem.W.mg_of X G aLo_
  have bLo := FLo.binds (ps := ["_law_stream", "_law_thing"]) fun _ _ _ _ _ _ us hl => match us, hl with | [_, _], _ => rfl
  obtain ⟨aRi_, fdRi, FRi⟩ := dRi
  have mRi := PySem.W.mg_of X G aRi_
  have bRi := FRi.binds (ps := ["_law_clauses", "_law_half_here", "_law_things"]) fun _ _ _ _ _ _ us hl => match us, hl with | [_, _, _], _ => rfl
  obtain ⟨aWa_, fdWa, FWa⟩ := dWa
  have mWa := PySem.W.mg_of X G aWa_
  have bWa := FWa.binds (ps := ["_law_stream", "_law_clauses", "_law_half_here"]) fun _ _ _ _ _ _ us hl => match us, hl with | [_, _, _], _ => rfl
  obtain ⟨aBe_, fdBe, FBe⟩ := dBe
  have mBe := PySem.W.mg_of X G aBe_
  have bBe := FBe.binds (ps := ["_law_stream", "_law_pairs", "_law_names_here", "_law_many"]) fun _ _ _ _ _ _ us hl => match us, hl with | [_, _, _, _], _ => rfl
  obtain ⟨aRe_, fdRe, FRe⟩ := dRe
  have mRe := PySem.W.mg_of X G aRe_
  have bRe := FRe.binds (ps := ["_law_ask"]) fun _ _ _ _ _ _ us hl => match us, hl with | [_], _ => rfl
  obtain ⟨ai_, fdi, Fi⟩ := di
  have mi := PySem.W.mg_of X G ai_
  have bi := Fi.binds (ps := ["thing"]) fun _ _ _ _ _ _ us hl => match us, hl with | [_], _ => rfl
  obtain ⟨an_, fdn, Fn⟩ := dn
  have mn := PySem.W.mg_of X G an_
  have bn := Fn.binds (ps := ["literal"]) fun _ _ _ _ _ _ us hl => match us, hl with | [_], _ => rfl
  obtain ⟨aop_, fdop, Fop⟩ := dop
  have mop := PySem.W.mg_of X G aop_
  have bop := Fop.binds (ps := ["literal"]) fun _ _ _ _ _ _ us hl => match us, hl with | [_], _ => rfl
  obtain ⟨al_, fdl, Fl⟩ := dl
  have ml := PySem.W.mg_of X G al_
  have bl := Fl.binds (ps := ["names"]) fun _ _ _ _ _ _ us hl => match us, hl with | [_], _ => rfl
  obtain ⟨ap_, fdp, Fp⟩ := dp
  have mp := PySem.W.mg_of X G ap_
  have bp := Fp.binds (ps := ["names"]) fun _ _ _ _ _ _ us hl => match us, hl with | [_], _ => rfl
  obtain ⟨av_, fdv, Fv⟩ := dv
  have mv := PySem.W.mg_of X G av_
  have bv := Fv.binds (ps := ["places", "literals"]) fun _ _ _ _ _ _ us hl => match us, hl with | [_, _], _ => rfl
  obtain ⟨at_, fdt, Ft⟩ := dt
  have mt := PySem.W.mg_of X G at_
  have bt := Ft.binds (ps := ["thing"]) fun _ _ _ _ _ _ us hl => match us, hl with | [_], _ => rfl
  obtain ⟨aw_, fdw, Fw⟩ := dw
  have mw := PySem.W.mg_of X G aw_
  have bw := Fw.binds (ps := ["places", "things"]) fun _ _ _ _ _ _ us hl => match us, hl with | [_, _], _ => rfl
  obtain ⟨ac_, fdc, Fc⟩ := dc
  have mc := PySem.W.mg_of X G ac_
  have bc := Fc.binds (ps := ["places", "thing"]) fun _ _ _ _ _ _ us hl => match us, hl with | [_, _], _ => rfl
  obtain ⟨acs_, fdcs, Fcs⟩ := dcs
  have mcs := PySem.W.mg_of X G acs_
  have bcs := Fcs.binds (ps := ["places", "setting"]) fun _ _ _ _ _ _ us hl => match us, hl with | [_, _], _ => rfl
  obtain ⟨ak_, fdk, Fk⟩ := dk
  have mk := PySem.W.mg_of X G ak_
  have bk := Fk.binds (ps := ["places", "things"]) fun _ _ _ _ _ _ us hl => match us, hl with | [_, _], _ => rfl
  obtain ⟨ax_, fdx, Fx⟩ := dx
  have mx := PySem.W.mg_of X G ax_
  have bx := Fx.binds (ps := ["code", "thing"]) fun _ _ _ _ _ _ us hl => match us, hl with | [_, _], _ => rfl
  obtain ⟨aar_, fdar, Far⟩ := dar
  have mar := PySem.W.mg_of X G aar_
  have bar := Far.binds (ps := ["code", "setting", "thing"]) fun _ _ _ _ _ _ us hl => match us, hl with | [_, _, _], _ => rfl
  obtain ⟨hd3, H3⟩ := l3
  have tq3 := fnB_ok n3
  have bq3 := H3.binds (ps := ["self"]) fun _ _ _ _ _ _ us hl => match us, hl with | [_], _ => rfl
  obtain ⟨hd4, H4⟩ := l4
  have tq4 := fnB_ok n4
  have bq4 := H4.binds (ps := ["self"]) fun _ _ _ _ _ _ us hl => match us, hl with | [_], _ => rfl
  obtain ⟨fdXB, FXB⟩ := lXB
  have bXB := FXB.binds (ps := ["self", "index"]) fun _ _ _ _ _ _ us hl => match us, hl with | [_, _], _ => rfl
  have TXB : XT K mg "BadSetting" "index" CXB gXB := xtB_ok wXB xXB (PySem.W.mg_of X G aXB)
  have TO : OT K mg O := otB_ok wO (PySem.W.mg_of X G aO)
  obtain ⟨fdNN, FNN⟩ := lN
  obtain ⟨fdI, FI⟩ := lI
  have tI := fnB_ok nI
  obtain ⟨c1, c2, c3, c4, c5⟩ := clB_ok cC
  have MK := mkB_ok cM tI
  have T : CTxt K mg C := ⟨c1, c2, c3, c4, c5, PySem.W.mg_of X G aC, z_tuple, z_list, z_len⟩
  have mNN := PySem.W.mg_of X G aN
  obtain ⟨dsN, vN, bNN⟩ := FNN.short (ps := ["things", "taken"]) 1 rfl fun T kV doc pm an cdv ct us its h1 h2 => match us, h1, its, h2 with | [_], _, [_], _ => ⟨_, rfl, rfl⟩
  have bI := FI.full (ps := psInit) fun T kV doc pm an cdv ct us its h1 h2 => match us, h1, its, h2 with | [_, _, _, _], _, [_], _ => ⟨_, rfl, rfl⟩
  have GD : FnOk P w K mg base CX0 1 fD fdD _ spDraw := ok_draw FD z_int
  have GP := ok_pickL FP GD mD FD.kp bD z_len
  have GM := ok_mixed FM GD mD FD.kp bD z_len z_range z_list
  have GSp : FnG P w K mg base 1 fS fdS _ (spSameP K) := ok_sameP FS z_repr
  have GSs : FnS P w K mg base 1 fS fdS _ (spSameP K) := ok_sameS FS z_repr
  have GF := ok_fresh FF GD mD FD.kp bD GP mP FP.kp bP z_range z_int
  have GN := ok_names FN GF mF FF.kp bF z_range
  have GU : FnOk P w K mg base CX0 1 fU fdU _ (spUp K) := ok_up FU z_tuple
  have GA := ok_sided FA GD mD FD.kp bD GM mM FM.kp bM
  have GB := ok_clause FB GD mD FD.kp bD GA mA FA.kp bA
  have GO := ok_once FO GU mU FU.kp bU
  have GG := ok_code FG GD mD FD.kp bD GN mN FN.kp bN GB mB FB.kp bB GO mO FO.kp bO z_range
  have GNg : FnOk P w K mg base CX0 1 fNg fdNg _ spOpp := ok_neg FNg
  have GHf := ok_half FHf GD mD FD.kp bD GM mM FM.kp bM
  have GLo := ok_loose FLo GD mD FD.kp bD mLo FLo.kp bLo z_isinstance z_list z_tuple 4
  have GRi := ok_right FRi GNg mNg FNg.kp bNg z_isinstance z_list z_tuple z_int z_bool z_len
  have GWa := ok_walk FWa GNg mNg FNg.kp bNg GP mP FP.kp bP z_list z_range z_enumerate z_len
  have GBe := ok_bent FBe GD mD FD.kp bD GP mP FP.kp bP GM mM FM.kp bM z_list z_len
  have Gi : FnOk P w K mg base CX0 1 fi fdi _ spIsName := ok_isName Fi z_isinstance z_str z_len z_all mL_ mM_
  have Gn : FnOk P w K mg base CX0 1 fn fdn _ spNameOf := ok_nameOf Fn
  have Gop : FnOk P w K mg base CX0 1 fop fdop _ spOpp := ok_opp Fop
  have Gl : FnOk P w K mg base CX0 1 fl fdl _ (spLits K) := ok_lits Fl
  have Gp := ok_places Fp Gl ml Fl.kp bl z_enumerate
  have Gv : FnOk P w K mg base CX0 1 fv fdv _ (spInOrder K) := ok_inOrder Fv z_tuple z_sorted z_int
  have Gt : FnOk P w K mg base CX0 1 ft fdt _ (spIsList K) := ok_isList Ft z_isinstance z_list z_tuple
  have GE := ok_chkNames FNN Gi mi Fi.kp bi z_enumerate
  have Gw := ok_wrong Fw Gn mn Fn.kp bn z_enumerate z_isinstance z_str
  have GwX := ok_wrongX Fw Gn mn Fn.kp bn z_enumerate z_isinstance z_str
  have Gc := ok_isClause Fc Gt mt Ft.kp bt Gw mw Fw.kp bw
  have Gk := ok_chkCl Fk Gc mc Fc.kp bc z_enumerate
  have GI := ok_init FI T GE mNN FNN.fn.kp FNN.e0 vN bNN Gp mp Fp.kp bp Gk mk Fk.kp bk Gv mv Fv.kp bv
  have G3 : FnOk P w K mg base CX0 1 g3 hd3 _ (spClauses K C) := ok_clauses H3 T
  have G4 : FnOk P w K mg base CX0 1 g4 hd4 _ (spLen K C) := ok_len H4 T
  have GJB : FnOk P w K mg base CX0 1 gXB fdXB _ (spI1 K "index") := ok_iB FXB TO
  have Gcs := ok_chkSet Fcs Gt mt Ft.kp bt Gw mw Fw.kp bw
  have GcsX := ok_chkSetX Fcs TXB GJB bXB Gt mt Ft.kp bt GwX mw Fw.kp bw
  have Gx : FnOk P w K mg base CX0 1 fx fdx _ (spIsIndex K C) := ok_isIndex Fx T z_isinstance z_int z_bool
  have Gar := ok_are Far T Gcs mcs Fcs.kp bcs Gt mt Ft.kp bt Gx mx Fx.kp bx Gop mop Fop.kp bop G3 tq3 bq3
  have GarX := ok_areX Far T GcsX mcs Fcs.kp bcs
  have GMd := ok_made FMd T MK GI bI
  have lw : LW14 P w K mg base C := {
    T := T
    range := z_range
    draw := ⟨_, _, GD, mD, FD.kp, bD⟩
    code := ⟨_, _, GG, mG, FG.kp, bG⟩
    made := ⟨_, _, GMd, mMd, FMd.kp, bMd⟩
    half := ⟨_, _, GHf, mHf, FHf.kp, bHf⟩
    walk := ⟨_, _, GWa, mWa, FWa.kp, bWa⟩
    bent := ⟨_, _, GBe, mBe, FBe.kp, bBe⟩
    right := ⟨_, _, GRi, mRi, FRi.kp, bRi⟩
    loose := ⟨_, _, GLo, mLo, FLo.kp, bLo⟩
    are := ⟨_, _, Gar, mar, Far.kp, bar⟩
    same := ⟨_, _, GSp, mS, FS.kp, bS⟩ }
  have lx : LX14 P w K mg base C CXB := {
    are := ⟨_, _, GarX, mar, Far.kp, bar⟩
    refused := ⟨_, _, FRe, mRe, bRe⟩
    tb := ⟨_, TXB⟩
    ex := of_decide_eq_true cX
    same := ⟨_, _, GSs, mS, FS.kp, bS⟩ }
  have mZ := PySem.W.mg_of X G aZ
  have eZ := hfa.symm.trans mZ
  cases eZ
  obtain ⟨oc, kV, doc, pm, ct, od, an, osl, lk⟩ := lZ
  refine ⟨_, fun s u => ?_, fun vs H Q E h => ?_, fun A outer s H args us vs Q E hg hr e0 hb r hsp => run_ofS lk cZ scLaw hr e0 hb r ?_ fun hr' => ?_⟩
  · exact .of_eq rfl
  · obtain ⟨a, ns, rfl, _⟩ := h
    rfl
  · obtain ⟨a, ns, rfl, _⟩ := hsp
    rfl
  · obtain ⟨a, ns, rfl, hA, hn, hT, k⟩ := hsp
    obtain ⟨tt, p, kk⟩ := law_body (f := fa) (A := A) (outer := outer) (s0 := s) (HH := H) (E := E) lw lx TB G4 tq4.at_ tq4.fn bq4 hg hr'
    exact ⟨tt, p.nox, kk _ a ns H hA hn hT k⟩
end
end K6
open PySem PySem.W PyProof.Rows
set_option maxRecDepth 100000 in
set_option maxHeartbeats 0 in
theorem PySem.Challenge.cw_lastopen_k14_drawings_looked_at_holds : PySem.Challenge.rw_lastopen_k14_drawings_looked_at.Holds := by
  w_on; o_law; k_head; (case hw => w_witness2)
  k_fill
  refine' K6.walk14 (l := PySem.Challenge.rw_lastopen_k14_drawings_looked_at) (cO := _) (Pt := 432) rfl rfl (fun w h Y => ⟨PySem.W.km_in_of Y, PySem.W.km_tabs_of Y 432 (by decide)⟩) ?hP ?hC ?F
  case F =>
    intro w mg fa h base KX G hmg TB
    refine' K6.all_tx KX G hmg ?fr ?aL ?eL ?aM ?eM ?dD ?dP ?dM ?dS ?dF ?dN ?dNg ?dU ?dHf ?dA ?dB ?dG ?dO ?dMd ?dLo ?dRi ?dWa ?dBe ?dRe ?di ?dn ?dop ?dl ?dp ?dv ?dt ?dw ?dc ?dcs ?dk ?dx ?dar ?aC ?aN ?lN ?iI ?nI ?lI ?i3 ?n3 ?l3 ?i4 ?n4 ?l4 ?cC ?cM ?cX ?aO ?wO ?aXB ?iXB ?lXB ?wXB ?xXB ?aZ ?lZ ?cZ TB
    (case aZ => k_is); (case aL => k_is); (case aM => k_is)
    (case eL => exact ⟨_, rfl⟩); (case eM => exact ⟨_, rfl⟩)
    (case dD => refine' ⟨?uaD, _, L2.fun_mk ?ulD ?ucD ?ukD⟩; (case uaD => k_is); (case ulD => k_is); (case ucD => k_is); (case ukD => k_is))
    (case dP => refine' ⟨?uaP, _, L2.fun_mk ?ulP ?ucP ?ukP⟩; (case uaP => k_is); (case ulP => k_is); (case ucP => k_is); (case ukP => k_is))
    (case dM => refine' ⟨?uaM, _, L2.fun_mk ?ulM ?ucM ?ukM⟩; (case uaM => k_is); (case ulM => k_is); (case ucM => k_is); (case ukM => k_is))
    (case dS => refine' ⟨?uaS, _, L2.fun_mk ?ulS ?ucS ?ukS⟩; (case uaS => k_is); (case ulS => k_is); (case ucS => k_is); (case ukS => k_is))
    (case dF => refine' ⟨?uaF, _, L2.fun_mk ?ulF ?ucF ?ukF⟩; (case uaF => k_is); (case ulF => k_is); (case ucF => k_is); (case ukF => k_is))
    (case dN => refine' ⟨?uaN, _, L2.fun_mk ?ulN ?ucN ?ukN⟩; (case uaN => k_is); (case ulN => k_is); (case ucN => k_is); (case ukN => k_is))
    (case dNg => refine' ⟨?uaNg, _, L2.fun_mk ?ulNg ?ucNg ?ukNg⟩; (case uaNg => k_is); (case ulNg => k_is); (case ucNg => k_is); (case ukNg => k_is))
    (case dU => refine' ⟨?uaU, _, L2.fun_mk ?ulU ?ucU ?ukU⟩; (case uaU => k_is); (case ulU => k_is); (case ucU => k_is); (case ukU => k_is))
    (case dHf => refine' ⟨?uaHf, _, L2.fun_mk ?ulHf ?ucHf ?ukHf⟩; (case uaHf => k_is); (case ulHf => k_is); (case ucHf => k_is); (case ukHf => k_is))
    (case dA => refine' ⟨?uaA, _, L2.fun_mk ?ulA ?ucA ?ukA⟩; (case uaA => k_is); (case ulA => k_is); (case ucA => k_is); (case ukA => k_is))
    (case dB => refine' ⟨?uaB, _, L2.fun_mk ?ulB ?ucB ?ukB⟩; (case uaB => k_is); (case ulB => k_is); (case ucB => k_is); (case ukB => k_is))
    (case dG => refine' ⟨?uaG, _, L2.fun_mk ?ulG ?ucG ?ukG⟩; (case uaG => k_is); (case ulG => k_is); (case ucG => k_is); (case ukG => k_is))
    (case dO => refine' ⟨?uaO, _, L2.fun_mk ?ulO ?ucO ?ukO⟩; (case uaO => k_is); (case ulO => k_is); (case ucO => k_is); (case ukO => k_is))
    (case dMd => refine' ⟨?uaMd, _, L2.fun_mk ?ulMd ?ucMd ?ukMd⟩; (case uaMd => k_is); (case ulMd => k_is); (case ucMd => k_is); (case ukMd => k_is))
    (case dLo => refine' ⟨?uaLo, _, L2.fun_mk ?ulLo ?ucLo ?ukLo⟩; (case uaLo => k_is); (case ulLo => k_is); (case ucLo => k_is); (case ukLo => k_is))
    (case dRi => refine' ⟨?uaRi, _, L2.fun_mk ?ulRi ?ucRi ?ukRi⟩; (case uaRi => k_is); (case ulRi => k_is); (case ucRi => k_is); (case ukRi => k_is))
    (case dWa => refine' ⟨?uaWa, _, L2.fun_mk ?ulWa ?ucWa ?ukWa⟩; (case uaWa => k_is); (case ulWa => k_is); (case ucWa => k_is); (case ukWa => k_is))
    (case dBe => refine' ⟨?uaBe, _, L2.fun_mk ?ulBe ?ucBe ?ukBe⟩; (case uaBe => k_is); (case ulBe => k_is); (case ucBe => k_is); (case ukBe => k_is))
    (case dRe => refine' ⟨?uaRe, _, L2.fun_mk ?ulRe ?ucRe ?ukRe⟩; (case uaRe => k_is); (case ulRe => k_is); (case ucRe => k_is); (case ukRe => k_is))
    (case di => refine' ⟨?uai, _, L2.fun_mk ?uli ?uci ?uki⟩; (case uai => k_is); (case uli => k_is); (case uci => k_is); (case uki => k_is))
    (case dn => refine' ⟨?uan, _, L2.fun_mk ?uln ?ucn ?ukn⟩; (case uan => k_is); (case uln => k_is); (case ucn => k_is); (case ukn => k_is))
    (case dop => refine' ⟨?uaop, _, L2.fun_mk ?ulop ?ucop ?ukop⟩; (case uaop => k_is); (case ulop => k_is); (case ucop => k_is); (case ukop => k_is))
    (case dl => refine' ⟨?ual, _, L2.fun_mk ?ull ?ucl ?ukl⟩; (case ual => k_is); (case ull => k_is); (case ucl => k_is); (case ukl => k_is))
    (case dp => refine' ⟨?uap, _, L2.fun_mk ?ulp ?ucp ?ukp⟩; (case uap => k_is); (case ulp => k_is); (case ucp => k_is); (case ukp => k_is))
    (case dv => refine' ⟨?uav, _, L2.fun_mk ?ulv ?ucv ?ukv⟩; (case uav => k_is); (case ulv => k_is); (case ucv => k_is); (case ukv => k_is))
    (case dt => refine' ⟨?uat, _, L2.fun_mk ?ult ?uct ?ukt⟩; (case uat => k_is); (case ult => k_is); (case uct => k_is); (case ukt => k_is))
    (case dw => refine' ⟨?uaw, _, L2.fun_mk ?ulw ?ucw ?ukw⟩; (case uaw => k_is); (case ulw => k_is); (case ucw => k_is); (case ukw => k_is))
    (case dc => refine' ⟨?uac, _, L2.fun_mk ?ulc ?ucc ?ukc⟩; (case uac => k_is); (case ulc => k_is); (case ucc => k_is); (case ukc => k_is))
    (case dcs => refine' ⟨?uacs, _, L2.fun_mk ?ulcs ?uccs ?ukcs⟩; (case uacs => k_is); (case ulcs => k_is); (case uccs => k_is); (case ukcs => k_is))
    (case dk => refine' ⟨?uak, _, L2.fun_mk ?ulk ?uck ?ukk⟩; (case uak => k_is); (case ulk => k_is); (case uck => k_is); (case ukk => k_is))
    (case dx => refine' ⟨?uax, _, L2.fun_mk ?ulx ?ucx ?ukx⟩; (case uax => k_is); (case ulx => k_is); (case ucx => k_is); (case ukx => k_is))
    (case dar => refine' ⟨?uaar, _, L2.fun_mk ?ular ?ucar ?ukar⟩; (case uaar => k_is); (case ular => k_is); (case ucar => k_is); (case ukar => k_is))
    (case aC => k_is); (case aN => k_is); (case iI => k_is); (case aO => k_is)
    (case lN => refine' ⟨_, EV.funE_mk ?xlN ?xcN ?xkN ?xTN ?xdN ?xAN ?xbN ?xeN⟩; (case xlN => k_is); (case xcN => k_is); (case xkN => k_is); (case xTN => k_is); (case xdN => exact rfl); (case xAN => k_is); (case xbN => exact rfl); (case xeN => exact rfl))
    (case lI => refine' ⟨_, EV.funE_mk ?xlI ?xcI ?xkI ?xTI ?xdI ?xAI ?xbI ?xeI⟩; (case xlI => k_is); (case xcI => k_is); (case xkI => k_is); (case xTI => k_is); (case xdI => exact rfl); (case xAI => k_is); (case xbI => exact rfl); (case xeI => exact rfl))
    (case i3 => k_is)
    (case l3 => refine' ⟨_, L2.fun_mk ?vl3 ?vc3 ?vk3⟩; (case vl3 => k_is); (case vc3 => k_is); (case vk3 => k_is))
    (case i4 => k_is)
    (case l4 => refine' ⟨_, L2.fun_mk ?vl4 ?vc4 ?vk4⟩; (case vl4 => k_is); (case vc4 => k_is); (case vk4 => k_is))
    (case aXB => k_is); (case iXB => k_is)
    (case lXB => refine' ⟨_, L2.fun_mk ?vlXB ?vcXB ?vkXB⟩; (case vlXB => k_is); (case vcXB => k_is); (case vkXB => k_is))
    (case xXB => refine' K6.exc_mk ?wpXB ?wrXB; (case wpXB => k_is); (case wrXB => first | rfl | decide +kernel))
    (case lZ => refine' K6.law_mk ?ulZ; (case ulZ => k_is))
    (case cZ => k_is)
    (case fr => kernel_rfl)
    (case nI => kernel_rfl)
    (case n3 => kernel_rfl)
    (case n4 => kernel_rfl)
    (case cC => kernel_rfl)
    (case cM => kernel_rfl)
    (case cX => kernel_rfl)
    (case wO => kernel_rfl)
    (case wXB => kernel_rfl)
  case hP => intro w; kernel_rfl
  case hC => intro w h X; exact PySem.W.codeHd_of_K X (by kernel_rfl)
